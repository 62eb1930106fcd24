import PyProof.Rows.All
import Wide.All
import OpenK.AllK
import Wide.FinOn
import PySem.Challenge.RW_readorder_k03_readers_of_any_object
import HandS.ForMost
import HandS.IsInst
import HandS.TupAny
import KE.SortData
import KE.KDictPairs
import PyProof.ReprRoads
import HandS.More
import HandS.Walk
import PyProof.StrLawsRepr
import PyProof.Rows.IntBool
import HandS.Style
set_option Elab.async false
set_option linter.all false
set_option maxRecDepth 100000
set_option maxHeartbeats 4000000
section
set_option Elab.async false
set_option linter.all false
set_option maxRecDepth 100000
set_option maxHeartbeats 4000000
namespace L2.Rx
open PySem PySem.Spec PyProof.Rows

/-! ### readings, step by step -/
section
variable {σ : St} {H : Hp} {Q : VK} {nx : St → Hp → Prop} {rt : VK} {bk ct : St → Hp → Prop} {D : Ends} {E : XK} {K : PySem.W.Frag}
theorem r_seq {t u : TS} (h : t ⟨u ⟨nx, rt, bk, ct⟩, rt, bk, ct⟩ σ H) : tSeq t u ⟨nx, rt, bk, ct⟩ σ H := h
theorem r_next (h : nx σ H) : tNext ⟨nx, rt, bk, ct⟩ σ H := h
theorem r_if {c : TT} {t u : TS} (h : c σ H fun b H1 => if b = true then t D σ H1 else u D σ H1) : tIfS c t u D σ H := h
theorem r_ret {te : TE} (h : te σ H rt) : tRet te ⟨nx, rt, bk, ct⟩ σ H := h
theorem r_asg {te : TE} {g : TG} (h : te σ H fun x H1 => g x σ H1 nx) : tAsg te g ⟨nx, rt, bk, ct⟩ σ H := h
theorem r_drop {te : TE} (h : te σ H fun _ H1 => nx σ H1) : tDrop te ⟨nx, rt, bk, ct⟩ σ H := h
theorem r_gname {i : Nat} {v : V} {Q : St → Hp → Prop} (h : Q (σ.set i (some v)) H) : gName i v σ H Q := h
theorem r_gsub {to ti : TE} {t : TSet} {v : V} {Q : St → Hp → Prop} (h : to σ H fun o H1 => ti σ H1 fun i H2 => t o i v H2 fun H3 => Q σ H3) : gSub to ti t v σ H Q := h
theorem r_par {i j : Nat} {ta : TA} (h : ta σ H fun vs H1 => ∃ v w, vs = [v, w] ∧ nx ((σ.set i (some v)).set j (some w)) H1) : tPar i j ta ⟨nx, rt, bk, ct⟩ σ H := h
theorem r_par2 {v w : V} {q : V → V → Prop} (h : q v w) : ∃ v' w', [v, w] = [v', w'] ∧ q v' w' := ⟨v, w, rfl, h⟩
theorem r_var {i : Nat} {v : V} (e : σ[i]? = some (some v)) (h : Q v H) : tVar i σ H Q := ⟨v, e, h⟩
theorem r_c {v : V} (h : Q v H) : tC v σ H Q := h
theorem r_op {r : R2} {ta tb : TE} (h : ta σ H fun x H1 => tb σ H1 fun y H2 => r x y H2 Q) : tOp r ta tb σ H Q := h
theorem r_un {r : V → Hp → VK → Prop} {ta : TE} (h : ta σ H fun x H1 => r x H1 Q) : tUn r ta σ H Q := h
theorem r_test {t : TE} {Q : Bool → Hp → Prop} (h : t σ H fun x H' => ∃ k, x = .bl k ∧ Q k H') : tTest t σ H Q := h
theorem r_tb {t : TE} {Q : Bool → Hp → Prop} (h : t σ H fun x H1 => ∃ c, x = .bl c ∧ Q c H1) : tB t σ H Q := h
theorem r_bl {k : Bool} {q : Bool → Prop} (h : q k) : ∃ k', V.bl k = V.bl k' ∧ q k' := ⟨k, rfl, h⟩
theorem r_and {t u : TT} {Q : Bool → Hp → Prop} (h : t σ H fun c H1 => if c = true then u σ H1 Q else Q false H1) : tAnd t u σ H Q := h
theorem r_or {t u : TT} {Q : Bool → Hp → Prop} (h : t σ H fun c H1 => if c = true then Q true H1 else u σ H1 Q) : tOr t u σ H Q := h
theorem r_not {t : TT} {Q : Bool → Hp → Prop} (h : t σ H fun c H1 => Q (!c) H1) : tNot t σ H Q := h
theorem r_andV {ta tb : TE} (h : ta σ H fun x H1 => ∃ c, x = .bl c ∧ if c = true then tb σ H1 Q else Q (.bl false) H1) : tAndV ta tb σ H Q := h
theorem r_orV {ta tb : TE} (h : ta σ H fun x H1 => ∃ c, x = .bl c ∧ if c = true then Q (.bl true) H1 else tb σ H1 Q) : tOrV ta tb σ H Q := h
theorem r_notV {ta : TE} (h : ta σ H fun x H1 => ∃ c, x = .bl c ∧ Q (.bl (!c)) H1) : tNotV ta σ H Q := h
theorem r_ifx {t : TT} {ta tb : TE} (h : t σ H fun c H1 => if c = true then ta σ H1 Q else tb σ H1 Q) : tIf t ta tb σ H Q := h
theorem r_chain {r r' : R2} {ta tb tc : TE} (h : ta σ H fun x H1 => tb σ H1 fun y H2 => r x y H2 fun z H3 => ∃ k, z = .bl k ∧ (if k = true then tc σ H3 fun w' H4 => r' y w' H4 Q else Q (.bl false) H3)) : tChain r r' ta tb tc σ H Q := h
theorem r_nil {Q : List V → Hp → Prop} (h : Q [] H) : tNil σ H Q := h
theorem r_cons {ta : TE} {tr : TA} {Q : List V → Hp → Prop} (h : ta σ H fun x H1 => tr σ H1 fun xs H2 => Q (x :: xs) H2) : tCons ta tr σ H Q := h
theorem r_tup {t : TA} (h : t σ H fun xs H1 => xs.length ≤ sizeLine ∧ ∀ p, H1 p = none → Q (.ref p) (upd H1 p (.tup xs))) : tTup t σ H Q := h
theorem r_lst {t : TA} (h : t σ H fun xs H1 => xs.length ≤ sizeLine ∧ ∀ p, H1 p = none → Q (.ref p) (upd H1 p (.lst xs))) : tLst t σ H Q := h
theorem r_call {sp : Sp} {dvs : List V} {t : TA} (h : t σ H fun vs H1 => sp (vs ++ dvs) H1 Q E) : tCall sp dvs E t σ H Q := h
theorem r_cb {r : List V → Hp → VK → Prop} {t : TA} (h : t σ H fun vs H1 => r vs H1 Q) : tCB r t σ H Q := h
theorem r_sl {r : V → Option Int → Option Int → Hp → VK → Prop} {te : TE} {tl th : TO} (h : te σ H fun x H1 => tl σ H1 fun l H2 => th σ H2 fun u H3 => r x l u H3 Q) : tSl r te tl th σ H Q := h
theorem r_nopart {Q : Option Int → Hp → Prop} (h : Q none H) : tNoPart σ H Q := h
theorem r_part {t : TE} {Q : Option Int → Hp → Prop} (h : t σ H fun x H1 => ∃ i, x = .int i ∧ Q (some i) H1) : tPart t σ H Q := h
theorem r_exint {k : Int} {q : Int → Prop} (h : q k) : ∃ i, V.int k = V.int i ∧ q i := ⟨k, rfl, h⟩
theorem r_bm0 {T : String} {r : V → List V → Hp → VK → Prop} {to : TE} (h : to σ H fun x H1 => tyV K T x H1 ∧ r x [] H1 Q) : tBM0 K T r to σ H Q := h
theorem r_bm {T : String} {r : V → List V → Hp → VK → Prop} {to : TE} {t : TA} (h : to σ H fun x H1 => tyV K T x H1 ∧ t σ H1 fun xs H2 => r x xs H2 Q) : tBM K T r to t σ H Q := h
/-! values -/
theorem r_rI0 {g : Int → Int → V} {i j : Int} (h : Q (g i j) H) : rI0 g (.int i) (.int j) H Q := ⟨i, j, rfl, rfl, h⟩
theorem r_rI {C : Int → Int → Prop} {g : Int → Int → V} {i j : Int} (c : C i j) (h : Q (g i j) H) : rI C g (.int i) (.int j) H Q := ⟨i, j, rfl, rfl, c, h⟩
theorem r_rU {g : Int → V} {i : Int} (h : Q (g i) H) : rU g (.int i) H Q := ⟨i, rfl, h⟩
theorem r_rEq {x y : V} (s : scal x y = true) (h : Q (.bl (decide (x = y))) H) : rEq x y H Q := ⟨s, h⟩
theorem r_rNe {x y : V} (s : scal x y = true) (h : Q (.bl (!decide (x = y))) H) : rNe x y H Q := ⟨s, h⟩
theorem r_ixL {p : Addr} {xs : List V} {i : Int} {v : V} (h : SqL K H p xs) (a : atI xs i = some v) (q : Q v H) : rIxL K (.ref p) (.int i) H Q := ⟨p, xs, i, v, rfl, rfl, h, a, q⟩
theorem r_ixLh {p : Addr} {xs : List V} {i : Int} {v : V} (h : H p = some (.lst xs)) (a : atI xs i = some v) (q : Q v H) : rIxL K (.ref p) (.int i) H Q := ⟨p, xs, i, v, rfl, rfl, .inl (.inl h), a, q⟩
theorem r_ixTh {p : Addr} {xs : List V} {i : Int} {v : V} (h : H p = some (.tup xs)) (a : atI xs i = some v) (q : Q v H) : rIxT K (.ref p) (.int i) H Q := ⟨p, xs, i, v, rfl, rfl, .inl (.inl h), a, q⟩
theorem r_setL {p : Addr} {xs : List V} {k : Int} {j : Nat} {v : V} {Q : Hp → Prop} (h : H p = some (.lst xs)) (e : ixN xs.length k = some j) (q : Q (upd H p (.lst (xs.set j v)))) : rSetL (.ref p) (.int k) v H Q := ⟨p, xs, k, j, rfl, rfl, h, e, q⟩
theorem r_new {xs : List V} {q : Addr → Prop} (e : Nat.ble xs.length 1000 = true) (h : ∀ p, H p = none → q p) : xs.length ≤ sizeLine ∧ ∀ p, H p = none → q p := ⟨Nat.le_of_lt (small1000 (Nat.le_of_ble_eq_true e)), h⟩
theorem r_wipe {a b c d} {A : Prop} (e : wipe a b = wipe c d) (h : A) : wipe a b = wipe c d ∧ A := ⟨e, h⟩
theorem r_tyL {l : Addr} {xs : List V} {A : Prop} (e : H l = some (.lst xs)) (h : A) : tyV K "list" (.ref l) H ∧ A := ⟨.inl ⟨rfl, xs, .inl (.inl e)⟩, h⟩
theorem r_powx {i j v : Int} (e : (Nat.ble j.natAbs 1000000 && decide (0 ≤ j) && decide (i.natAbs < 2 ^ 64)) = true) (e2 : i ^ j.toNat = v) (q : Q (.int v) H) : rI CPow (fun i j => .int (i ^ j.toNat)) (.int i) (.int j) H Q := by
  subst e2
  simp only [Bool.and_eq_true, decide_eq_true_eq] at e
  exact ⟨i, j, rfl, rfl, ⟨e.1.2, by have := Nat.le_of_ble_eq_true e.1.1; omega, e.2⟩, q⟩
theorem r_app0 {l : Addr} {xs : List V} {y : V} (h : H l = some (.lst xs)) (z : xs.length < 1000000) (q : Q .non (upd H l (.lst (xs ++ [y])))) : rAppend (.ref l) [y] H Q :=
  ⟨l, xs, y, rfl, rfl, h, by rw [sizeLine_eq]; omega, q⟩
/-! tests -/
theorem r_ite {p A B : Prop} [Decidable p] (h1 : p → A) (h2 : ¬ p → B) : if decide p = true then A else B := by
  by_cases h : p
  · rw [if_pos (decide_eq_true h)]; exact h1 h
  · rw [if_neg (by simp [h])]; exact h2 h
theorem r_itn {p A B : Prop} [Decidable p] (h1 : ¬ p → A) (h2 : p → B) : if (!decide p) = true then A else B := by
  by_cases h : p
  · rw [if_neg (by simp [h])]; exact h2 h
  · rw [if_pos (by simp [h])]; exact h1 h
theorem r_itb {b : Bool} {A B : Prop} (h1 : b = true → A) (h2 : b = false → B) : if b = true then A else B := by
  cases b
  · rw [if_neg Bool.false_ne_true]; exact h2 rfl
  · rw [if_pos rfl]; exact h1 rfl
end

/-! letters -/
section
variable {σ : St} {H : Hp} {Q : VK} {K : PySem.W.Frag}
/-- % hands on a letter -/
theorem r_mod {i j : Int} (h : 0 < j) (q : ∀ r : Int, 0 ≤ r → r < j → Q (.int r) H) : rI (fun _ j => 0 < j) (fun i j => .int (i % j)) (.int i) (.int j) H Q :=
  ⟨i, j, rfl, rfl, h, q _ (Int.emod_nonneg _ (by omega)) (Int.emod_lt_of_pos _ h)⟩
theorem r_modx {i j : Int} (h : 0 < j) (q : Q (.int (i % j)) H) : rI (fun _ j => 0 < j) (fun i j => .int (i % j)) (.int i) (.int j) H Q := ⟨i, j, rfl, rfl, h, q⟩
/-- // by a positive divisor hands on a letter -/
theorem r_div {i j : Int} (h0 : 0 ≤ i) (h : 0 < j) (h1 : j < 1073741824) (q : ∀ r : Int, 0 ≤ r → r ≤ i → Q (.int r) H) : rI CDiv (fun i j => .int (i / j)) (.int i) (.int j) H Q :=
  ⟨i, j, rfl, rfl, ⟨h, h1⟩, q _ (Int.ediv_nonneg h0 (by omega)) (Int.ediv_le_self _ h0)⟩
theorem r_mul {i j : Int} (c : (-(2 ^ 64) < i ∧ i < 2 ^ 64) ∨ (-(2 ^ 64) < j ∧ j < 2 ^ 64)) (q : Q (.int (i * j)) H) : rI CMul (fun i j => .int (i * j)) (.int i) (.int j) H Q := ⟨i, j, rfl, rfl, c, q⟩
theorem r_pow {i j : Int} (h0 : 0 ≤ j) (h1 : j ≤ 1000000) (c : i.natAbs < 2 ^ 64) (q : Q (.int (i ^ j.toNat)) H) : rI CPow (fun i j => .int (i ^ j.toNat)) (.int i) (.int j) H Q := ⟨i, j, rfl, rfl, ⟨h0, h1, c⟩, q⟩
theorem atI_int {xs : List V} {i : Int} (h0 : 0 ≤ i) (h1 : i < xs.length) : ∃ v, atI xs i = some v ∧ v ∈ xs := by
  obtain ⟨k, rfl⟩ : ∃ k : Nat, i = (k : Int) := ⟨i.toNat, by omega⟩
  have hk : k < xs.length := by omega
  exact ⟨xs[k], atI_nat (List.getElem?_eq_getElem hk), List.getElem_mem hk⟩
theorem r_pickL {p : Addr} {xs : List V} {i : Int} (h : H p = some (.lst xs)) (h0 : 0 ≤ i) (h1 : i < xs.length) (q : ∀ v ∈ xs, Q v H) : rIxL K (.ref p) (.int i) H Q := by
  obtain ⟨v, e, m⟩ := atI_int h0 h1
  exact r_ixLh h e (q v m)
end
/-- what was tracked stands as it stood, but at S -/
def Kp (S : List Addr) (H H' : Hp) : Prop := ∀ a o, a ∉ S → H a = some o → H' a = some o
theorem Kp.refl {S : List Addr} {H : Hp} : Kp S H H := fun _ _ _ h => h
theorem Kp.trans {S : List Addr} {H H1 H2 : Hp} (a : Kp S H H1) (b : Kp S H1 H2) : Kp S H H2 := fun c o n h => b c o n (a c o n h)
theorem Kp.put {H : Hp} {b : Addr} {o : HO} : Kp [b] H (upd H b o) := fun a u n h => by
  rw [upd_ne (by simpa using n)]
  exact h
theorem Kp.new {S : List Addr} {H : Hp} {b : Addr} {o : HO} (n : H b = none) : Kp S H (upd H b o) := fun a u _ h => by
  rw [upd_ne (ne_of_none h n)]
  exact h
theorem Kp.mono {S T : List Addr} {H H' : Hp} (k : Kp S H H') (h : ∀ a ∈ S, a ∈ T) : Kp T H H' := fun a o n e => k a o (fun z => n (h a z)) e
theorem Kp.at1 {b a : Addr} {H H' : Hp} {o : HO} (k : Kp [b] H H') (n : a ≠ b) (e : H a = some o) : H' a = some o := k a o (by simpa using n) e
theorem Kp.at0 {a : Addr} {H H' : Hp} {o : HO} (k : Kp [] H H') (e : H a = some o) : H' a = some o := k a o (by simp) e
end L2.Rx

end
section
set_option Elab.async false
set_option linter.all false
set_option maxRecDepth 100000
set_option maxHeartbeats 4000000
local macro_rules | `(tactic| walk_at "rd1") => `(tactic| with_reducible first
  | refine L2.Rx.r_seq ?_ | refine L2.Rx.r_asg ?_ | refine L2.Rx.r_gname ?_ | refine L2.Rx.r_op ?_ | refine L2.Rx.r_c ?_
  | refine L2.Rx.r_var rfl ?_
  | refine L2.Rx.r_rI0 ?_ | refine L2.Rx.r_test ?_ | refine L2.Rx.r_bl ?_ | refine L2.Rx.r_if ?_ | refine L2.Rx.r_ret ?_
  | refine L2.Rx.r_cons ?_ | refine L2.Rx.r_nil ?_ | refine L2.Rx.r_call ?_ | refine L2.Rx.r_cb ?_ | refine L2.Rx.r_next ?_ | refine L2.Rx.r_drop ?_
  | refine L2.Rx.r_gsub ?_ | refine L2.Rx.r_tupF ?_ | refine L2.Rx.r_lst ?_ | refine L2.Rx.r_par ?_ | refine L2.Rx.r_par2 ?_
  | refine L2.Rx.r_un ?_ | refine L2.Rx.r_tb ?_ | refine L2.Rx.r_and ?_ | refine L2.Rx.r_or ?_ | refine L2.Rx.r_not ?_
  | refine L2.Rx.r_andV ?_ | refine L2.Rx.r_orV ?_ | refine L2.Rx.r_notV ?_ | refine L2.Rx.r_ifx ?_ | refine L2.Rx.r_chain ?_
  | refine L2.Rx.r_sl ?_ | refine L2.Rx.r_nopart ?_ | refine L2.Rx.r_part ?_ | refine L2.Rx.r_exint ?_ | refine L2.Rx.r_bm0 ?_ | refine L2.Rx.r_bm ?_
  | refine L2.Rx.r_lc ?_ | refine L2.Rx.r_rng1 ?_ | refine L2.Rx.r_yes ?_ | refine L2.Rx.r_tt ?_ | refine L2.Rx.r_ff ?_ | refine L2.Rx.r_m1 ?_ | refine L2.Rx.r_m0 ?_ | refine L2.Rx.r_isS ?_
  | (refine L2.Rx.r_wipe (by with_unfolding_all rfl) ?_) | (refine L2.Rx.r_tyL (by walk_at "hp") ?_)
  | refine L2.Rx.r_addS (by walk_at "len") ?_ | refine L2.Rx.r_lenS (by walk_at "len") ?_ | refine L2.Rx.r_slS (by walk_at "len") ?_
  | refine L2.Rx.r_dnotin ?_ | refine L2.Rx.r_dget ?_ | refine L2.Rx.r_dget1 ?_ | refine L2.Rx.r_dput ?_ | refine L2.Rx.r_dpop1 ?_ | refine L2.Rx.r_isN ?_
  | refine L2.Rx.r_for ?_ | refine L2.Rx.r_ilist ?_ | refine L2.Rx.r_itup ?_
  | refine L2.Rx.r_gcons ?_ | refine L2.Rx.r_gnil ?_ | (refine L2.Rx.r_gtupP (by assumption) (by walk_at "at") ?_)
  | (refine L2.Rx.r_rEq rfl ?_) | (refine L2.Rx.r_rNe rfl ?_)
  | refine L2.Rx.r_rU ?_ | refine L2.Rx.r_max2 ?_ | refine L2.Rx.r_min2 ?_ | refine L2.Rx.r_int1i ?_ | (refine L2.Rx.r_lenh (by walk_at "hp") ?_)
  | (refine L2.Rx.r_ixLh (by walk_at "hp") (by walk_at "at") ?_)
  | (refine L2.Rx.r_setL (by walk_at "hp") (by walk_at "at") ?_))
local macro_rules | `(tactic| walk_at "at") => `(tactic| with_unfolding_all rfl)
local macro_rules | `(tactic| walk_at "rd") => `(tactic| (repeat walk_at "rd1"))
local macro_rules | `(tactic| walk_at "hp") => `(tactic| first
  | assumption
  | exact L2.upd_same
  | (refine Eq.trans (L2.upd_ne ?_) ?_; (focus walk_at "ne"); (focus walk_at "hp"))
  | (refine L2.Rx.Kp.at0 (by assumption) ?_; walk_at "hp")
  | (refine L2.Rx.Kp.at1 (by assumption) ?_ ?_; (focus walk_at "ne"); (focus walk_at "hp")))
local macro_rules | `(tactic| walk_at "ne") => `(tactic| first
  | assumption | exact Ne.symm (by assumption)
  | (refine L2.ne_of_none (H := ?nH) (o := ?nO) ?nh ?nn; (case nn => assumption); (case nh => walk_at "hp"))
  | (refine Ne.symm (L2.ne_of_none (H := ?nH) (o := ?nO) ?nh ?nn); (case nn => assumption); (case nh => walk_at "hp")))
local macro_rules | `(tactic| walk_at "len") => `(tactic| (rw [PySem.sizeLine_eq]; omega))
local macro_rules | `(tactic| walk_at "nin") => `(tactic| first
  | exact List.not_mem_nil
  | (refine L2.Rx.nin1 ?_; walk_at "ne"))
local macro_rules | `(tactic| walk_at "none") => `(tactic| first
  | assumption
  | (refine L2.Rx.Kp.none0 (by assumption) ?_ ?_; (focus walk_at "nin"); (focus walk_at "none")))
namespace L2.Rx
open PySem PySem.Spec PyProof.Rows
/-! ### defs called where no repr is under way -/
structure RoomG (k : Nat) (A : Around) : Prop where
  up : Room k A
  gd : A.guards = some []
theorem RoomG.mono {j k : Nat} {A : Around} (r : RoomG k A) (h : j ≤ k) : RoomG j A := ⟨r.up.mono h, r.gd⟩
theorem RoomG.units {k : Nat} {A : Around} (r : RoomG k A) : A.units + 64 < cLine := r.up.units
theorem RoomG.hu {k : Nat} {A : Around} (r : RoomG k A) : A.units + 1 < cLine := hu_of r.up
/-- FnOk, asked where no repr is under way -/
structure FnG (P : Program) (w : World) (K : PySem.W.Frag) (mg : Str → Option Value) (base : Heap) (CX : CXT) (k : Nat) (f : Addr) (fd : FuncData) (ps : List Str) (sp : Sp) : Prop where
  len : ∀ vs H Q E, sp vs H Q E → vs.length = ps.length
  run : ∀ (A : Around) (outer : List Env) (s : Shared) (H : Hp) (args : Args) (us : List Value) (vs : List V) (Q : VK) (E : XK), RoomG k A → Env0 P w K mg base A outer s H →
    BindsTo s fd args (ps.zip us) → Vals vs us → sp vs H Q E → codeAny (model P w) A (.call (.ref f) args) (CR CX outer P w H s Q E) s
section
variable {P : Program} {w : World} {K : PySem.W.Frag} {mg : Str → Option Value} {base : Heap} {CX : CXT}
theorem fnG_body {x qual : Str} {st : Stmt} {f : Addr} {fd : FuncData} {N ps : List Str} {k : Nat} {sp : Sp} (F : Fun K x qual st f fd) (S : FnScope N ps (defScope st)) (len : ∀ vs H Q E, sp vs H Q E → vs.length = ps.length)
    (bd : ∀ (cdv : Value) (A : Around) (outer : List Env) (s : Shared) (H : Hp) (vs : List V) (Q : VK) (E : XK), RoomG k (A.deeper (envOfC qual (defScope st) s.heap.objs.size f cdv)) → sp vs H Q E →
      ∃ t, PSs (cxOf CX P w K mg base N qual (defScope st) f cdv A outer s H E) (defBody st) t ∧ t ⟨fun _ H' => Q .non H', Q, fun _ _ => False, fun _ _ => False⟩ (start N vs) H) : FnG P w K mg base CX (k + 1) f fd ps sp := by
  obtain ⟨oc, od, kV, doc, pm, an, cdv, ct, osl, rfl, lk, hcd⟩ := F.ex
  constructor
  · exact len
  intro A outer s H args us vs Q E room env bind rel want
  have kept : ∀ b o, base.get? b = some o → s.heap.get? b = some o := fun b o e => (env.bs b o e).1
  have KX : K.In s.heap := env.mod.kin.keeps kept
  have places : ∀ y ∈ ps.zip us, (defScope st).names.lookup y.1 = some .local ∨ ((defScope st).names.lookup y.1 = some .cell ∧ ((cellsFrom (s.heap.objs.size + 1) (defScope st).names []).lookup y.1).isSome = true) := by
    intro y hy
    cases S.par y.1 (List.of_mem_zip (show (y.1, y.2) ∈ ps.zip us from hy)).1 with
    | inl q => exact .inl q
    | inr q => exact .inr ⟨q, PySem.W.cellsFrom_some _ _ _ (.inl q)⟩
  refine codeAny_call_function (fd := PySem.W.fnOf x qual (defArgs st) (defBody st) (defScope st) .none kV doc pm an cdv ct) room.up.depth (KX _ _ lk) rfl S.co S.gen rfl (PySem.W.codeRec_of KX hcd) (bind _ _ _ _ ?_)
  refine wpAny_newFunctionEnv_cells S.kind places fun e he s1 entered => ?_
  cases he
  have lim : s.heap.NoLimit := env.mod.nolimit.keeps kept
  refine ⟨lim.keeps entered.toInCall.keep, codeAny_func ?_⟩
  obtain ⟨t, der, rd⟩ := bd cdv A outer s H vs Q E ⟨room.up.deeper _, room.gd⟩ want
  have I0 := inv_start (CX := CX) (qual := qual) (E := E) S room.up.hd env (len _ _ _ _ want) rel entered
  refine wpAny_mono (der.run [] s1 (start N vs) H _ I0 rd) ?_ (fun _ _ z => z)
  intro fl s' out
  cases fl with
  | ret u => obtain ⟨v, σ', H', J, rv, q⟩ := out; exact ⟨v, H', J.os, J.bare, J.base, J.hok, rv, q⟩
  | next => obtain ⟨σ', H', J, q⟩ := out; exact ⟨.non, H', J.os, J.bare, J.base, J.hok, rfl, q⟩
  | brk => obtain ⟨_, _, _, q⟩ := out; exact q.elim
  | cont => obtain ⟨_, _, _, q⟩ := out; exact q.elim
end
section
variable {X : Cx} {CX : CXT} {k : Nat} {f : Addr} {fd : FuncData} {ps ks : List Str} {sp : Sp} {E : XK} {x : Str} {p pos : Pos} {e : Expr} {es : List Expr} {kws : List Keyword} {t tk : TA}
theorem callG {pins : List (Addr × Obj)} {σ : St} {H : Hp} {s : Shared} {Q : VK} {args : Args} {us : List Value} {vs : List V} (F : FnG X.prog X.w X.K X.mg X.base CX k f fd ps sp) (hr : RoomG k X.A) (hx : Passes CX X E)
    (I : Inv X pins σ H s) (hb : us.length = ps.length → BindsTo s fd args (ps.zip us)) (r : Vals vs us) (h : sp vs H Q E) : wpAny (model X.prog X.w) X.A (call (.ref f) args.pos args.kw) (EP X pins σ Q) X.xe s := by
  have hl : us.length = ps.length := r.length.symm.trans (F.len _ _ _ _ h)
  refine wpAny_call (codeAny_mono (F.run X.A X.stack s H args us vs Q E hr I.env0 (hb hl) r h) ?_)
  intro res s' out
  cases res with
  | error err => exact hx pins σ H s err s' I out
  | ok fl =>
    cases fl with
    | ret u => exact I.after out
    | _ => exact False.elim out
end
/-- a def of the module that may be called by its name -/
structure Kn (P : Program) (w : World) (K : PySem.W.Frag) (mg : Str → Option Value) (base : Heap) (CX : CXT) (k : Nat) (x : Str) (sp : Sp) : Prop where
  ex : ∃ (f : Addr) (fd : FuncData) (ps : List Str), FnG P w K mg base CX k f fd ps sp ∧ mg x = some (.ref f) ∧ PySem.W.keepIn K (.ref f) = true ∧ Binds K fd ps []
/-- .. with all its arguments by name, in the order ks; g: the parameters' order -/
structure KnK (P : Program) (w : World) (K : PySem.W.Frag) (mg : Str → Option Value) (base : Heap) (CX : CXT) (k : Nat) (x : Str) (ks : List Str) (g : List V → List V) (sp : Sp) : Prop where
  ex : ∃ (f : Addr) (fd : FuncData) (ps : List Str) (gv : List Value → List Value), FnG P w K mg base CX k f fd ps sp ∧ mg x = some (.ref f) ∧ PySem.W.keepIn K (.ref f) = true ∧
    (∀ (s : Shared) (ws : List Value), K.In s.heap → (gv ws).length = ps.length → BindsTo s fd ⟨[], ks.zip ws⟩ (ps.zip (gv ws))) ∧ ∀ (zs : List V) (ws : List Value), Vals zs ws → Vals (g zs) (gv ws)
def tKw (g : List V → List V) (sp : Sp) (E : XK) (t : TA) : TE := fun σ H Q => t σ H fun vs H1 => sp (g vs) H1 Q E
theorem r_kw {g : List V → List V} {sp : Sp} {E : XK} {t : TA} {σ : St} {H : Hp} {Q : VK} (h : t σ H fun vs H1 => sp (g vs) H1 Q E) : tKw g sp E t σ H Q := h
section
variable {X : Cx} {CX : CXT} {k j : Nat} {sp : Sp} {E : XK} {x : Str} {p pos : Pos} {e : Expr} {es : List Expr} {t : TA}
theorem Kn.callX (c : Kn X.prog X.w X.K X.mg X.base CX k x sp) (hr : RoomG j X.A) (hk : k ≤ j) (hx : Passes CX X E) (hg : Gl X x) (ha : PA X (e :: es) t)
    (hdb : (x == ("__debug__" : Str)) = false := by decide) (he : starEach (e :: es) X.env = (false, eval e X.env) :: starEach es X.env := by rfl) (hpl : (backTo pos (starEach es X.env)).any (·.1) = false := by rfl) :
    PE X (.Call (.Name x p) (e :: es) [] pos) (tCall sp [] E t) := by
  obtain ⟨f, fd, ps, F, hm, kp, b⟩ := c.ex
  constructor
  intro pins s σ H Q I h
  refine wpAny_Call_Name_kw (ld_glob I hg hm ?_ hdb)
  refine PySem.W.callWith_K (h₀ := X.base) I.ok.mod.kin kp (thn (ha.run pos pins s σ H _ I h) ?_) he hpl
  rintro us s1 ⟨vs, H1, I1, r, q⟩
  refine ⟨I1.kIn, callG (args := ⟨us, []⟩) (us := us) F (hr.mono hk) hx I1 (fun hl => ?_) r (by rw [List.append_nil] at q; exact q)⟩
  have := b s1 us I1.kIn (by rw [List.append_nil]; exact hl)
  rw [List.append_nil] at this
  exact this
end
section
variable {X : Cx} {k j : Nat} {sp : Sp} {x : Str} {p pos : Pos} {e : Expr} {es : List Expr} {t : TA}
theorem Kn.call (c : Kn X.prog X.w X.K X.mg X.base CX0 k x sp) (hr : RoomG j X.A) (hk : k ≤ j) (hg : Gl X x) (ha : PA X (e :: es) t)
    (hdb : (x == ("__debug__" : Str)) = false := by decide) (he : starEach (e :: es) X.env = (false, eval e X.env) :: starEach es X.env := by rfl) (hpl : (backTo pos (starEach es X.env)).any (·.1) = false := by rfl) :
    PE X (.Call (.Name x p) (e :: es) [] pos) (tCall sp [] E0 t) := c.callX hr hk pass0 hg ha hdb he hpl
theorem Kn.mono {P : Program} {w : World} {K : PySem.W.Frag} {mg : Str → Option Value} {base : Heap} {CX : CXT} (c : Kn P w K mg base CX k x sp) (h : k ≤ j) : Kn P w K mg base CX j x sp := by
  obtain ⟨f, fd, ps, F, r⟩ := c.ex
  exact ⟨f, fd, ps, ⟨F.len, fun A outer s H args us vs Q E hr => F.run A outer s H args us vs Q E (hr.mono h)⟩, r⟩
end
/-! ### repr of data -/
def rRepr (K : PySem.W.Frag) : List V → Hp → VK → Prop := fun xs H Q => ∃ (v : V) (d : PyData), xs = [v] ∧ Dp K H v d ∧ d.showable = true ∧ d.depth ≤ 60 ∧ d.shown.length ≤ sizeLine ∧ Q (.str d.shown) H
theorem Dp.noDict {K : PySem.W.Frag} {H : Hp} : ∀ (d : PyData) (v : V), Dp K H v d → d.hasDict = false := by
  intro d v h
  exact Dp.rec (motive_1 := fun _ d _ => d.hasDict = false) (motive_2 := fun _ ds _ => PyData.hasDictAll ds = false) (by simp [PyData.hasDict]) (fun _ => by simp [PyData.hasDict]) (fun _ => by simp [PyData.hasDict]) (fun _ => by simp [PyData.hasDict])
    (fun _ _ ih => by simpa [PyData.hasDict] using ih) (fun _ _ ih => by simpa [PyData.hasDict] using ih) (by simp [PyData.hasDictAll]) (fun _ _ i1 i2 => by simp [PyData.hasDictAll, i1, i2]) h
theorem call_repr {X : Cx} {k : Nat} (hr : RoomG k X.A) : CallR X (.builtin "repr") (rRepr X.K) := by
  intro pins s σ H xs us Q I r h
  obtain ⟨v, d, rfl, hd, hs, hdp, hz, q⟩ := h
  obtain ⟨u, rfl, ru⟩ := vals1 r
  obtain ⟨as, rd⟩ := Dp.reads I d v u hd ru
  have nd := Dp.noDict d v hd
  have hu : X.A.units + (d.depth + 1) < cLine := by have := hr.units; omega
  have fin : ∀ h' t tk, (∀ b o, s.heap.get? b = some o → h'.get? b = some o) → EP X pins σ Q (.str d.shown t) { s with heap := h', toks := tk } := fun h' t tk hk =>
    ⟨.str d.shown, H, I.kept hk, ⟨t, rfl⟩, q⟩
  cases hd with
  | lst _ _ => cases ru; exact repr_of_reads' rd hs (PyData.noDict_hsm nd) hr.gd hu (fun _ _ e => e) fin hz
  | tup _ _ => cases ru; exact repr_of_reads' rd hs (PyData.noDict_hsm nd) hr.gd hu (fun _ _ e => e) fin hz
  | non => cases ru; exact PySem.P.repr_of_none ⟨.str _, H, I.tok _, ⟨_, rfl⟩, by simpa [PyData.shown] using q⟩
  | bl b => cases ru; exact PySem.P.repr_of_bool ⟨.str _, H, I.tok _, ⟨_, rfl⟩, by simpa [PyData.shown] using q⟩
  | int i => obtain ⟨t, rfl⟩ := ru; exact PySem.P.repr_of_int (by simpa [PyData.showable] using hs) ⟨.str _, H, I.tok _, ⟨_, rfl⟩, by simpa [PyData.shown] using q⟩
  | str y => obtain ⟨t, rfl⟩ := ru; exact PySem.P.repr_of_str ⟨.str _, H, I.tok _, ⟨_, rfl⟩, by simpa [PyData.shown] using q⟩ (by simpa [PyData.shown] using hz)
end L2.Rx

end
section
set_option Elab.async false
set_option linter.all false
set_option maxRecDepth 100000
set_option maxHeartbeats 4000000
local macro_rules | `(tactic| walk_at "rd1") => `(tactic| with_reducible first
  | refine L2.Rx.r_seq ?_ | refine L2.Rx.r_asg ?_ | refine L2.Rx.r_gname ?_ | refine L2.Rx.r_op ?_ | refine L2.Rx.r_c ?_
  | refine L2.Rx.r_var rfl ?_
  | refine L2.Rx.r_rI0 ?_ | refine L2.Rx.r_test ?_ | refine L2.Rx.r_bl ?_ | refine L2.Rx.r_if ?_ | refine L2.Rx.r_ret ?_
  | refine L2.Rx.r_cons ?_ | refine L2.Rx.r_nil ?_ | refine L2.Rx.r_call ?_ | refine L2.Rx.r_cb ?_ | refine L2.Rx.r_next ?_ | refine L2.Rx.r_drop ?_
  | refine L2.Rx.r_gsub ?_ | refine L2.Rx.r_tupF ?_ | refine L2.Rx.r_lst ?_ | refine L2.Rx.r_par ?_ | refine L2.Rx.r_par2 ?_
  | refine L2.Rx.r_un ?_ | refine L2.Rx.r_tb ?_ | refine L2.Rx.r_and ?_ | refine L2.Rx.r_or ?_ | refine L2.Rx.r_not ?_
  | refine L2.Rx.r_andV ?_ | refine L2.Rx.r_orV ?_ | refine L2.Rx.r_notV ?_ | refine L2.Rx.r_ifx ?_ | refine L2.Rx.r_chain ?_
  | refine L2.Rx.r_sl ?_ | refine L2.Rx.r_nopart ?_ | refine L2.Rx.r_part ?_ | refine L2.Rx.r_exint ?_ | refine L2.Rx.r_bm0 ?_ | refine L2.Rx.r_bm ?_
  | refine L2.Rx.r_lc ?_ | refine L2.Rx.r_rng1 ?_ | refine L2.Rx.r_yes ?_ | refine L2.Rx.r_tt ?_ | refine L2.Rx.r_ff ?_ | refine L2.Rx.r_m1 ?_ | refine L2.Rx.r_m0 ?_ | refine L2.Rx.r_isS ?_
  | (refine L2.Rx.r_wipe (by with_unfolding_all rfl) ?_) | (refine L2.Rx.r_tyL (by walk_at "hp") ?_)
  | refine L2.Rx.r_addS (by walk_at "len") ?_ | refine L2.Rx.r_lenS (by walk_at "len") ?_ | refine L2.Rx.r_slS (by walk_at "len") ?_
  | refine L2.Rx.r_dnotin ?_ | refine L2.Rx.r_dget ?_ | refine L2.Rx.r_dget1 ?_ | refine L2.Rx.r_dput ?_ | refine L2.Rx.r_dpop1 ?_ | refine L2.Rx.r_isN ?_
  | refine L2.Rx.r_for ?_ | refine L2.Rx.r_ilist ?_ | refine L2.Rx.r_itup ?_
  | refine L2.Rx.r_gcons ?_ | refine L2.Rx.r_gnil ?_ | (refine L2.Rx.r_gtupP (by assumption) (by walk_at "at") ?_)
  | (refine L2.Rx.r_rEq rfl ?_) | (refine L2.Rx.r_rNe rfl ?_)
  | refine L2.Rx.r_rU ?_ | refine L2.Rx.r_max2 ?_ | refine L2.Rx.r_min2 ?_ | refine L2.Rx.r_int1i ?_ | (refine L2.Rx.r_lenh (by walk_at "hp") ?_)
  | (refine L2.Rx.r_ixLh (by walk_at "hp") (by walk_at "at") ?_)
  | (refine L2.Rx.r_setL (by walk_at "hp") (by walk_at "at") ?_))
local macro_rules | `(tactic| walk_at "at") => `(tactic| with_unfolding_all rfl)
local macro_rules | `(tactic| walk_at "rd") => `(tactic| (repeat walk_at "rd1"))
local macro_rules | `(tactic| walk_at "hp") => `(tactic| first
  | assumption
  | exact L2.upd_same
  | (refine Eq.trans (L2.upd_ne ?_) ?_; (focus walk_at "ne"); (focus walk_at "hp"))
  | (refine L2.Rx.Kp.at0 (by assumption) ?_; walk_at "hp")
  | (refine L2.Rx.Kp.at1 (by assumption) ?_ ?_; (focus walk_at "ne"); (focus walk_at "hp")))
local macro_rules | `(tactic| walk_at "ne") => `(tactic| first
  | assumption | exact Ne.symm (by assumption)
  | (refine L2.ne_of_none (H := ?nH) (o := ?nO) ?nh ?nn; (case nn => assumption); (case nh => walk_at "hp"))
  | (refine Ne.symm (L2.ne_of_none (H := ?nH) (o := ?nO) ?nh ?nn); (case nn => assumption); (case nh => walk_at "hp")))
local macro_rules | `(tactic| walk_at "len") => `(tactic| (rw [PySem.sizeLine_eq]; omega))
local macro_rules | `(tactic| walk_at "nin") => `(tactic| first
  | exact List.not_mem_nil
  | (refine L2.Rx.nin1 ?_; walk_at "ne"))
local macro_rules | `(tactic| walk_at "none") => `(tactic| first
  | assumption
  | (refine L2.Rx.Kp.none0 (by assumption) ?_ ?_; (focus walk_at "nin"); (focus walk_at "none")))
namespace L2.Rx
open PySem PySem.Spec PyProof.Rows
/-! ### the law's call, where no repr is under way -/
theorem lawG {P : Program} {w : World} {K : PySem.W.Frag} {mg mb : Str → Option Value} {k : Nat} {fa a : Addr} {fd : FuncData} {x : Str} {sp : Sp} {st : Shared} {vs : List Value} {ns : List Int}
    (KX : K.In st.heap) (hns : st.heap.Ns mainGlobals mg) (hb : st.heap.Ns builtinsNs mb) (hbb : ∀ x : Str, x ≠ "__name__" → mb x = bootBuiltins x) (hlim : st.heap.NoLimit) (hg : st.gens = #[])
    (ha : st.heap.get? a = some { cls := .type "list", data := .seq vs.toArray }) (hi : IntsAre vs ns) (hl : ns.length ≤ sizeLine) (hr : Room k callerA)
    (F : ∀ base : Heap, K.In base → base.Ns mainGlobals mg → FnG P w K mg base CX0 k fa fd [x] sp) (hbind : ∀ (s : Shared) (u : Value), BindsTo s fd ⟨[u], []⟩ [(x, u)])
    (hsp : ∀ H : Hp, Only H → SqL K H a (ns.map V.int) → sp [.ref a] H (fun v _ => v = .bl true) E0) :
    codeAny (model P w) callerA (.call (.ref fa) ⟨[.ref a], []⟩) (fun r s' => r = .ok (.ret (.bool true)) ∧ OldK st.heap s'.heap ∧ s'.os = st.os ∧ AllBare s'.gens) st := by
  have rel := vals_ints hi
  -- the script's place, tracked or an object of the module
  have go : ∀ H : Hp, Only H → SqL K H a (ns.map V.int) → HOk P w H st.heap → (∀ b o, H b = some o → b = a ∧ K.lookup a = none) →
      codeAny (model P w) callerA (.call (.ref fa) ⟨[.ref a], []⟩) (fun r s' => r = .ok (.ret (.bool true)) ∧ OldK st.heap s'.heap ∧ s'.os = st.os ∧ AllBare s'.gens) st := by
    intro H only scr hok alone
    have keep : ∀ {b : Addr} {o : Obj}, st.heap.get? b = some o → (b = a → K.lookup a ≠ none ∨ o.data ≠ Data.seq vs.toArray) → (hidT st.heap H).get? b = some o := by
      intro b o e ne
      refine hidT_get e ?_
      cases q : H b with
      | none => rfl
      | some u =>
        obtain ⟨z, zk⟩ := alone b u q
        rcases ne z with n | n
        · exact absurd zk n
        · rw [z, ha] at e
          cases e
          exact absurd rfl n
    have nsk : ∀ {b : Addr} {m : Str → Option Value}, st.heap.Ns b m → (hidT st.heap H).Ns b m := by
      rintro b m ⟨o, es, ep, e, d, r⟩
      exact ⟨o, es, ep, keep e fun _ => .inr (by rw [d]; intro z; cases z), d, r⟩
    have kb : K.In (hidT st.heap H) := fun b o e => keep (KX b o e) fun z => .inl (by rw [← z, e]; simp)
    obtain ⟨mc, c1, c2⟩ := hlim
    have mod : Mod K mg (hidT st.heap H) := ⟨kb, nsk hns, ⟨mb, nsk hb, hbb⟩, mc, nsk c1, c2⟩
    have env : Env0 P w K mg (hidT st.heap H) callerA [] st H := ⟨rfl, mod, fun _ _ e => of_hidT e, Nat.le_of_eq (hidT_size _ _), trivial, fun b hb => absurd (show b ∈ ([] : List Addr) from hb) (by simp), hok, .of_eq hg⟩
    refine codeAny_mono ((F _ kb (nsk hns)).run callerA [] st H ⟨[.ref a], []⟩ [.ref a] [.ref a] _ _ ⟨hr, rfl⟩ env (hbind st (.ref a)) (.cons rfl .nil) (hsp H only scr)) ?_
    intro res s' out
    cases res with
    | error err => exact False.elim out
    | ok fl =>
      cases fl with
      | ret u =>
        obtain ⟨v, H', os, bare, un, hok', rv, rfl⟩ := out
        cases rv
        refine ⟨rfl, OldK.of_keep ?_, os, bare⟩
        intro b o e
        cases q : H b with
        | none => exact un.keep b o e q (fun z => absurd (show b ∈ ([] : List Addr) from z) (by simp)) (by simp)
        | some u =>
          rcases only b with z | ⟨ob, xs, z⟩
          · rw [q] at z
            cases z
          · have h1 := (hok b _ z).1
            have h2 := (hok' b _ (un.frzs b ob _ z)).1
            rw [e] at h1
            cases h1
            exact h2
      | _ => exact False.elim out
  cases hk : K.lookup a with
  | some o =>
    have e := KX a o hk
    rw [ha] at e
    cases e
    exact go (fun _ => none) (fun _ => .inl rfl) (.inr ⟨_, vs.toArray, _, hk, rfl, rfl, rfl, by rw [List.size_toArray, hi.length]; exact hl, by simpa using rel⟩) (fun b u z => nomatch (show (none : Option HO) = some u from z)) fun b u z => nomatch (show (none : Option HO) = some u from z)
  | none =>
    have only_a : ∀ b u, upd (fun _ => none) a (HO.frz { cls := .type "list", data := .seq vs.toArray } (.lst (ns.map V.int))) b = some u → b = a := by
      intro b u z
      by_cases hb : b = a
      · exact hb
      · rw [upd_ne hb] at z
        cases z
    refine go (upd (fun _ => none) a (HO.frz { cls := .type "list", data := .seq vs.toArray } (.lst (ns.map V.int)))) (fun b => ?_) (.inl (.inr ⟨_, upd_same⟩)) (fun b u z => ?_) (fun b u z => ⟨only_a b u z, hk⟩)
    · by_cases hb : b = a
      · rw [hb]
        exact .inr ⟨_, _, upd_same⟩
      · exact .inl (upd_ne hb)
    · have hb := only_a b u z
      subst hb
      rw [upd_same] at z
      cases z
      exact ⟨ha, by rw [List.length_map]; exact hl, vs, _, rel, ha⟩
/-- the goal that k_head leaves -/
theorem walkG {l : PySem.W.OpenLaw} {n k : Nat} {q : Program} {loose : List Str} {XP : (Str → Option Value) → Heap → Prop} {YP : World → Heap → Prop} {d : DefRec} {K : Params → PySem.W.Frag} {sp : PySem.W.Frag → Sp} {x : Str}
    (hn : l.most = some n) (hn2 : n ≤ sizeLine) (hdf : d.params.defaults = []) (hr : Room k callerA)
    (hY : ∀ (w : World) (h : Heap), YP w h → (K w.params).In h)
    (F : ∀ (w : World) (mg : Str → Option Value) (fa : Addr) (h : Heap), (K w.params).In h → h.Ns mainGlobals mg → mg d.name = some (.ref fa) →
      ∃ fd : FuncData, (∀ (s : Shared) (u : Value), BindsTo s fd ⟨[u], []⟩ [(x, u)]) ∧
        ∀ base : Heap, (K w.params).In base → base.Ns mainGlobals mg → FnG l.prog w (K w.params) mg base CX0 k fa fd [x] (sp (K w.params)))
    (hsp : ∀ (K : PySem.W.Frag) (H : Hp) (a : Addr) (ns : List Int), ns.length ≤ n → Only H → SqL K H a (ns.map V.int) → sp K [.ref a] H (fun v _ => v = .bl true) E0) :
    PySem.W.WalkO q loose XP YP l.row.toRowW d [] (fun f vs => PySem.call f vs) := by
  refine Att.attach_call hn hdf ?_
  intro w s₀ st mg mb fa o pm cd doc a vs ns G Y ho hd hcd hmg hobj hints hlen hg
  have KX := hY w _ Y
  obtain ⟨fd, bd, hF⟩ := F w mg fa _ KX G.T.g hmg
  exact lawG KX G.T.g G.T.b G.T.builtins G.T.nolimit hg hobj hints (Nat.le_trans hlen hn2) hr hF bd fun H only scr => hsp _ H a ns hlen only scr
end L2.Rx

end
section
set_option Elab.async false
set_option linter.all false
set_option maxRecDepth 100000
set_option maxHeartbeats 4000000
local macro_rules | `(tactic| walk_at "rd1") => `(tactic| with_reducible first
  | refine L2.Rx.r_seq ?_ | refine L2.Rx.r_asg ?_ | refine L2.Rx.r_gname ?_ | refine L2.Rx.r_op ?_ | refine L2.Rx.r_c ?_
  | refine L2.Rx.r_var rfl ?_
  | refine L2.Rx.r_rI0 ?_ | refine L2.Rx.r_test ?_ | refine L2.Rx.r_bl ?_ | refine L2.Rx.r_if ?_ | refine L2.Rx.r_ret ?_
  | refine L2.Rx.r_cons ?_ | refine L2.Rx.r_nil ?_ | refine L2.Rx.r_call ?_ | refine L2.Rx.r_cb ?_ | refine L2.Rx.r_next ?_ | refine L2.Rx.r_drop ?_
  | refine L2.Rx.r_gsub ?_ | refine L2.Rx.r_tupF ?_ | refine L2.Rx.r_lst ?_ | refine L2.Rx.r_par ?_ | refine L2.Rx.r_par2 ?_
  | refine L2.Rx.r_un ?_ | refine L2.Rx.r_tb ?_ | refine L2.Rx.r_and ?_ | refine L2.Rx.r_or ?_ | refine L2.Rx.r_not ?_
  | refine L2.Rx.r_andV ?_ | refine L2.Rx.r_orV ?_ | refine L2.Rx.r_notV ?_ | refine L2.Rx.r_ifx ?_ | refine L2.Rx.r_chain ?_
  | refine L2.Rx.r_sl ?_ | refine L2.Rx.r_nopart ?_ | refine L2.Rx.r_part ?_ | refine L2.Rx.r_exint ?_ | refine L2.Rx.r_bm0 ?_ | refine L2.Rx.r_bm ?_
  | refine L2.Rx.r_lc ?_ | refine L2.Rx.r_rng1 ?_ | refine L2.Rx.r_yes ?_ | refine L2.Rx.r_tt ?_ | refine L2.Rx.r_ff ?_ | refine L2.Rx.r_m1 ?_ | refine L2.Rx.r_m0 ?_ | refine L2.Rx.r_isS ?_
  | (refine L2.Rx.r_wipe (by with_unfolding_all rfl) ?_) | (refine L2.Rx.r_tyL (by walk_at "hp") ?_)
  | refine L2.Rx.r_addS (by walk_at "len") ?_ | refine L2.Rx.r_lenS (by walk_at "len") ?_ | refine L2.Rx.r_slS (by walk_at "len") ?_
  | refine L2.Rx.r_dnotin ?_ | refine L2.Rx.r_dget ?_ | refine L2.Rx.r_dget1 ?_ | refine L2.Rx.r_dput ?_ | refine L2.Rx.r_dpop1 ?_ | refine L2.Rx.r_isN ?_
  | refine L2.Rx.r_for ?_ | refine L2.Rx.r_ilist ?_ | refine L2.Rx.r_itup ?_
  | refine L2.Rx.r_gcons ?_ | refine L2.Rx.r_gnil ?_ | (refine L2.Rx.r_gtupP (by assumption) (by walk_at "at") ?_)
  | (refine L2.Rx.r_rEq rfl ?_) | (refine L2.Rx.r_rNe rfl ?_)
  | refine L2.Rx.r_rU ?_ | refine L2.Rx.r_max2 ?_ | refine L2.Rx.r_min2 ?_ | refine L2.Rx.r_int1i ?_ | (refine L2.Rx.r_lenh (by walk_at "hp") ?_)
  | (refine L2.Rx.r_ixLh (by walk_at "hp") (by walk_at "at") ?_)
  | (refine L2.Rx.r_setL (by walk_at "hp") (by walk_at "at") ?_))
local macro_rules | `(tactic| walk_at "at") => `(tactic| with_unfolding_all rfl)
local macro_rules | `(tactic| walk_at "rd") => `(tactic| (repeat walk_at "rd1"))
local macro_rules | `(tactic| walk_at "hp") => `(tactic| first
  | assumption
  | exact L2.upd_same
  | (refine Eq.trans (L2.upd_ne ?_) ?_; (focus walk_at "ne"); (focus walk_at "hp"))
  | (refine L2.Rx.Kp.at0 (by assumption) ?_; walk_at "hp")
  | (refine L2.Rx.Kp.at1 (by assumption) ?_ ?_; (focus walk_at "ne"); (focus walk_at "hp")))
local macro_rules | `(tactic| walk_at "ne") => `(tactic| first
  | assumption | exact Ne.symm (by assumption)
  | (refine L2.ne_of_none (H := ?nH) (o := ?nO) ?nh ?nn; (case nn => assumption); (case nh => walk_at "hp"))
  | (refine Ne.symm (L2.ne_of_none (H := ?nH) (o := ?nO) ?nh ?nn); (case nn => assumption); (case nh => walk_at "hp")))
local macro_rules | `(tactic| walk_at "len") => `(tactic| (rw [PySem.sizeLine_eq]; omega))
local macro_rules | `(tactic| walk_at "nin") => `(tactic| first
  | exact List.not_mem_nil
  | (refine L2.Rx.nin1 ?_; walk_at "ne"))
local macro_rules | `(tactic| walk_at "none") => `(tactic| first
  | assumption
  | (refine L2.Rx.Kp.none0 (by assumption) ?_ ?_; (focus walk_at "nin"); (focus walk_at "none")))
namespace L2.Rx
open PySem PySem.Spec PyProof.Rows
/-! ### sorted of a list or a tuple of alike data -/
open PySem.W in
theorem sortsAt_few {prog : Program} {w : World} {A : Around} {s : Shared} {vs : List Value} {ds : List PyData} (e : EachIs (fun v d => ∃ as, Reads s.heap v d as) vs ds) (hal : AllAlike ds) (hn : ∀ d ∈ ds, d ≠ .none) (hl : vs.length < 2) (hu : ∀ d, d ∈ ds → A.units + d.depth < cLine) :
    SortsAt prog w A s (dataKind s.heap ds) vs := by
  refine ⟨fun v hv => ?_, general', ?_, fun h2 => absurd hl (by omega)⟩
  · obtain ⟨d, hd, as, r⟩ := e.left v hv
    exact ⟨_, dataKind_some hal hd r⟩
  · intro E x y a b Q ha hb hq
    obtain ⟨d, as, hd, ra, rfl⟩ := dataKind_inv ha
    obtain ⟨d', as', hd', rb, rfl⟩ := dataKind_inv hb
    show wpAny _ _ (oneLt' false x y) _ _ _
    exact oneLt_alike (fun z => nomatch z) ra rb (hal d hd d' hd') (hn d hd) (Nat.lt_of_le_of_lt (Nat.add_le_add_left (Nat.min_le_left _ _) _) (hu d hd)) hq
/-- what may be sorted: alike data, none of them None, all tuples with an item or none a tuple; or fewer than two -/
def Sb (ds : List PyData) : Prop := PySem.W.AllAlike ds ∧ (∀ d ∈ ds, d.depth ≤ 60 ∧ d ≠ .none) ∧ (PySem.W.Sortable ds ∨ ds.length < 2)
theorem EachIs_zip {K : PySem.W.Frag} {H : Hp} {X : Cx} {pins : List (Addr × Obj)} {σ : St} {s : Shared} (I : Inv X pins σ H s) : ∀ {ds : List PyData} {ys : List V} {us : List Value}, DpAll X.K H ys ds → Vals ys us →
    PySem.W.EachIs (fun u (p : PyData × V) => RelV p.2 u) us (ds.zip ys) ∧ PySem.W.EachIs (fun u (p : PyData × V) => ∃ as, Reads s.heap u p.1 as) us (ds.zip ys)
  | [], _, _, h, r => by
    cases h
    cases r
    exact ⟨.nil, .nil⟩
  | d :: ds, _, _, h, r => by
    cases h with
    | cons h1 h2 =>
      cases r with
      | cons r1 r2 =>
        obtain ⟨a, b⟩ := EachIs_zip (K := K) I h2 r2
        exact ⟨.cons r1 a, .cons (Dp.reads I d _ _ h1 r1) b⟩
theorem vals_of_each : ∀ {us : List Value} {bs : List (PyData × V)}, PySem.W.EachIs (fun u p => RelV p.2 u) us bs → Vals (bs.map Prod.snd) us
  | _, _, .nil => .nil
  | _, _, .cons h t => .cons h (vals_of_each t)
def rSortV (K : PySem.W.Frag) : List V → Hp → VK → Prop := fun xs H Q => ∃ (a : Addr) (ys : List V) (ds : List PyData), xs = [.ref a] ∧ (SqL K H a ys ∨ SqT K H a ys) ∧ DpAll K H ys ds ∧ Sb ds ∧
  ∀ p, H p = none → Q (.ref p) (upd H p (.lst (((ds.zip ys).mergeSort (PySem.W.dataLe false Prod.fst)).map Prod.snd)))
theorem dpAll_len {K : PySem.W.Frag} {H : Hp} : ∀ {ys : List V} {ds : List PyData}, DpAll K H ys ds → ys.length = ds.length
  | _, [], h => by
    cases h
    rfl
  | _, d :: ds, h => by
    cases h with
    | cons _ h2 => rw [List.length_cons, List.length_cons, dpAll_len h2]
theorem zip_fst {α β : Type} : ∀ (xs : List α) (ys : List β), ys.length = xs.length → (xs.zip ys).map Prod.fst = xs
  | [], _, _ => rfl
  | x :: xs, [], h => by simp at h
  | x :: xs, y :: ys, h => by rw [List.zip_cons_cons, List.map_cons, zip_fst xs ys (by simpa using h)]
theorem zip_snd {α β : Type} : ∀ (xs : List α) (ys : List β), ys.length = xs.length → (xs.zip ys).map Prod.snd = ys
  | [], [], _ => rfl
  | [], y :: ys, h => by simp at h
  | x :: xs, [], h => by simp at h
  | x :: xs, y :: ys, h => by rw [List.zip_cons_cons, List.map_cons, zip_snd xs ys (by simpa using h)]
open PySem.W in
theorem call_sortV {X : Cx} {k : Nat} (hr : RoomG k X.A) : CallR X (.builtin "sorted") (rSortV X.K) := by
  intro pins s σ H xs us Q I r h
  obtain ⟨a, ys, ds, rfl, hs, hd, ⟨hal, hdep, hk⟩, q⟩ := h
  obtain ⟨u, rfl, ru⟩ := vals1 r
  cases ru
  obtain ⟨its, T, o, n, rv, hT, ho, hc, hdt, hz⟩ : ∃ (its : List Value) (T : String) (o : Obj) (n : Nat), Vals ys its ∧ (T = "list" ∨ T = "tuple") ∧ s.heap.get? a = some o ∧ o.cls = .type T ∧ o.data = .seq its.toArray n ∧ its.length ≤ sizeLine := by
    rcases hs with hs | hs
    · obtain ⟨its, rv, ⟨o, n, ho, hc, _, hd⟩, hz⟩ := I.list hs
      exact ⟨its, "list", o, n, rv, .inl rfl, ho, hc, hd, by rw [← rv.length]; exact hz⟩
    · obtain ⟨its, rv, ⟨o, ho, hc, n, hd⟩, hz⟩ := I.tuple hs
      exact ⟨its, "tuple", o, n, rv, .inr rfl, ho, hc, hd, by rw [← rv.length]; exact hz⟩
  refine Calls.call_function_entry kind_sorted plain_sorted entry_sorted (args_sorted1 _) ?_
  unfold Builtin.«sorted»
  refine wpAny_bind (m := checkCount "sorted" 1 1 _) (wpAny_pure (wpAny_bind (wpAny_collect_seq a hT ho hc hdt (fun h' hk' => ?_) (by simpa using hz))))
  have I1 : Inv X pins σ H { s with heap := h' } := I.kept (t' := s.toks) hk'
  rw [show its.toArray.toList = its from rfl]
  refine wpAny_bind (wpAny_newList ?_ hz)
  have hoL : (h'.push (seqObj "list" its.toArray 0)).get? h'.objs.size = some (seqObj "list" its.toArray 0) := Heap.get?_push_size _ rfl
  have I2 : Inv X pins σ H { s with heap := h'.push (seqObj "list" its.toArray 0) } := I1.kept (t' := s.toks) fun b o e => Heap.get?_push_of_some _ e
  have hlen : ys.length = ds.length := dpAll_len hd
  have old : ∀ b o, (h'.push (seqObj "list" its.toArray 0)).get? b = some o → b ≠ h'.objs.size → (sortingHeap (h'.push (seqObj "list" its.toArray 0)) h'.objs.size its).get? b = some o := fun b o e ne => sortingHeap_old ne e
  have hkeep : ∀ b o, h'.get? b = some o → (sortingHeap (h'.push (seqObj "list" its.toArray 0)) h'.objs.size its).get? b = some o := fun b o e => old b o (Heap.get?_push_of_some _ e) (Nat.ne_of_lt (Heap.lt_size e))
  have J : Inv X pins σ H { s with heap := sortingHeap (h'.push (seqObj "list" its.toArray 0)) h'.objs.size its } := I1.kept (t' := s.toks) hkeep
  obtain ⟨e1, _⟩ := EachIs_zip (K := X.K) I hd rv
  obtain ⟨_, e2⟩ := EachIs_zip (K := X.K) J hd rv
  have hmap : (ds.zip ys).map Prod.fst = ds := zip_fst _ _ hlen
  have e3 : EachIs (fun v d => ∃ as, Reads (sortingHeap (h'.push (seqObj "list" its.toArray 0)) h'.objs.size its) v d as) its ((ds.zip ys).map Prod.fst) := each_map (R := fun v d => ∃ as, Reads (sortingHeap (h'.push (seqObj "list" its.toArray 0)) h'.objs.size its) v d as) Prod.fst e2
  have hun : ∀ d ∈ (ds.zip ys).map Prod.fst, X.A.in1.in1.units + d.depth < cLine := fun d m => by
    rw [hmap] at m
    have h1 := (hdep d m).1
    have h2 := hr.units
    show X.A.units + 1 + 1 + d.depth < cLine
    omega
  have S : SortsAt X.prog X.w X.A.in1.in1 { s with heap := sortingHeap (h'.push (seqObj "list" its.toArray 0)) h'.objs.size its } (dataKind (sortingHeap (h'.push (seqObj "list" its.toArray 0)) h'.objs.size its) ((ds.zip ys).map Prod.fst)) its := by
    rcases hk with hk | hk
    · exact SortsAt.data (s := { s with heap := sortingHeap (h'.push (seqObj "list" its.toArray 0)) h'.objs.size its }) e3 (by rw [hmap]; exact hal) (by rw [hmap]; exact hk) hun
    · exact sortsAt_few (s := { s with heap := sortingHeap (h'.push (seqObj "list" its.toArray 0)) h'.objs.size its }) e3 (by rw [hmap]; exact hal) (fun d m => (hdep d (by rw [hmap] at m; exact m)).2) (by rw [← rv.length, hlen]; exact hk) hun
  show wpAny _ _ _ _ _ { s with heap := h'.push (seqObj "list" its.toArray 0) }
  refine wpAny_bind (wpAny_holding (wpAny_call_entry slot_list_sort ⟨_, hoL, rfl⟩ entry_list_sort ?body (args_list_sort _)))
  case body =>
    show wpAny (model X.prog X.w) X.A.in1.in1 (Builtin.«list.sort» ⟨[.ref h'.objs.size], []⟩) _ _ _
    refine list_sort_vals (s := { s with heap := h'.push (seqObj "list" its.toArray 0) }) hoL S hz ⟨_, rfl, wpAny_pure ⟨_, rfl, ?_⟩⟩
    obtain ⟨ep, he⟩ := sortedHeap_at (vs := its) (out := (sortVals (dataKind (sortingHeap (h'.push (seqObj "list" its.toArray 0)) h'.objs.size its) ((ds.zip ys).map Prod.fst)) false its its).toArray) hoL
    have out := sortVals_data (R := fun u (p : PyData × V) => RelV p.2 u) (h' := sortingHeap (h'.push (seqObj "list" its.toArray 0)) h'.objs.size its) false e1 e2 (by rw [hmap]; exact hal)
    have ov := vals_of_each out
    have ol : (((ds.zip ys).mergeSort (dataLe false Prod.fst)).map Prod.snd).length ≤ sizeLine := by
      rw [List.length_map, List.length_mergeSort, List.length_zip, hlen, Nat.min_self, ← hlen, rv.length]
      exact hz
    refine ⟨.ref h'.objs.size, _, I1.laid (t' := s.toks) (a := h'.objs.size) (o := .lst (((ds.zip ys).mergeSort (dataLe false Prod.fst)).map Prod.snd)) (fun b u e => ?_) (Nat.le_refl _) ⟨ol, _, ep, ov, he⟩, rfl, q _ (I1.hok.fresh (Nat.le_refl _))⟩
    have hb : b < h'.objs.size := Heap.lt_size e
    rw [sortedHeap_old (Nat.ne_of_lt hb) (by rw [size_push']; exact Nat.lt_succ_of_lt hb)]
    exact Heap.get?_push_of_some _ e
/-! ### cuts; wide powers; small rules -/
section
variable {σ : St} {H : Hp} {Q : VK} {nx : St → Hp → Prop} {rt : VK} {bk ct : St → Hp → Prop}
theorem r_cut {te : TE} (P : V → Hp → Prop) (key : ∀ v H', P v H' → Q v H') (h : ∀ Q' : VK, (∀ v H', P v H' → Q' v H') → te σ H Q') : te σ H Q := h Q key
theorem r_cutT {t : TT} {Q : Bool → Hp → Prop} (P : Bool → Hp → Prop) (key : ∀ v H', P v H' → Q v H') (h : ∀ Q' : Bool → Hp → Prop, (∀ v H', P v H' → Q' v H') → t σ H Q') : t σ H Q := h Q key
theorem r_cutS {t : TS} (P : St → Hp → Prop) (key : ∀ σ' H', P σ' H' → nx σ' H') (h : ∀ nx', (∀ σ' H', P σ' H' → nx' σ' H') → t ⟨nx', rt, bk, ct⟩ σ H) : t ⟨nx, rt, bk, ct⟩ σ H := h nx key
def CPowW (i j : Int) : Prop := 0 ≤ j ∧ (Builtin.Int.intBits i : Int) * j ≤ 2 ^ 27
theorem op_powW {X : Cx} : OpR X (binaryOp .Pow) (rI CPowW fun i j => .int (i ^ j.toNat)) := opI fun _ _ _ _ _ _ _ hc q => pow_int hc.1 hc.2 q
theorem r_powW {i j : Int} (h0 : 0 ≤ j) (h1 : (Builtin.Int.intBits i : Int) * j ≤ 2 ^ 27) (q : Q (.int (i ^ j.toNat)) H) : rI CPowW (fun i j => .int (i ^ j.toNat)) (.int i) (.int j) H Q := ⟨i, j, rfl, rfl, ⟨h0, h1⟩, q⟩
def rLenQ (K : PySem.W.Frag) : List V → Hp → VK → Prop := fun xs H Q => ∃ p ys, xs = [.ref p] ∧ (SqL K H p ys ∨ SqT K H p ys) ∧ Q (.int ys.length) H
def rLenS : List V → Hp → VK → Prop := fun xs H Q => ∃ z, xs = [.str z] ∧ z.length ≤ sizeLine ∧ Q (.int z.length) H
def rAbs : List V → Hp → VK → Prop := fun xs H Q => ∃ i, xs = [.int i] ∧ Q (.int (if i < 0 then -i else i)) H
def rMax2 : List V → Hp → VK → Prop := fun xs H Q => ∃ i j, xs = [.int i, .int j] ∧ Q (.int (if j > i then j else i)) H
def rMin2 : List V → Hp → VK → Prop := fun xs H Q => ∃ i j, xs = [.int i, .int j] ∧ Q (.int (if j < i then j else i)) H
def rInt1 : List V → Hp → VK → Prop := fun xs H Q => (∃ i, xs = [.int i] ∧ Q (.int i) H) ∨ ∃ k, xs = [.bl k] ∧ Q (.int (if k then 1 else 0)) H
variable {X : Cx} {K : PySem.W.Frag}
theorem c_len : CallR X (.builtin "len") (rLenQ X.K) := call_len_seq
theorem c_lenS : CallR X (.builtin "len") rLenS := call_len_str
theorem c_abs : CallR X (.builtin "abs") rAbs := call_abs
theorem c_max2 (hc : X.calm = true) : CallR X (.builtin "max") rMax2 := call_max2 hc
theorem c_min2 (hc : X.calm = true) : CallR X (.builtin "min") rMin2 := call_min2 hc
theorem c_int1 : CallR X (.type "int") rInt1 := call_int1
theorem r_len {p : Addr} {ys : List V} (h : SqL K H p ys ∨ SqT K H p ys) (q : Q (.int ys.length) H) : rLenQ K [.ref p] H Q := ⟨p, ys, rfl, h, q⟩
theorem r_lenh {p : Addr} {ys : List V} (h : H p = some (.lst ys)) (q : Q (.int ys.length) H) : rLenQ K [.ref p] H Q := ⟨p, ys, rfl, .inl (.inl (.inl h)), q⟩
theorem r_lenS {z : Str} (h : z.length ≤ sizeLine) (q : Q (.int z.length) H) : rLenS [.str z] H Q := ⟨z, rfl, h, q⟩
theorem r_abs {i : Int} (h : ∀ r, 0 ≤ r → Q (.int r) H) : rAbs [.int i] H Q := by
  refine ⟨i, rfl, ?_⟩
  split
  · exact h _ (by omega)
  · exact h _ (by omega)
theorem r_max2 {i j : Int} (h : Q (.int (max i j)) H) : rMax2 [.int i, .int j] H Q := by
  refine ⟨i, j, rfl, ?_⟩
  have e : (if j > i then j else i) = max i j := by split <;> omega
  rw [e]
  exact h
theorem r_min2 {i j : Int} (h : Q (.int (min i j)) H) : rMin2 [.int i, .int j] H Q := by
  refine ⟨i, j, rfl, ?_⟩
  have e : (if j < i then j else i) = min i j := by split <;> omega
  rw [e]
  exact h
theorem r_int1i {i : Int} (h : Q (.int i) H) : rInt1 [.int i] H Q := .inl ⟨i, rfl, h⟩
theorem r_int1b {k : Bool} (h : ∀ r, 0 ≤ r → r ≤ 1 → Q (.int r) H) : rInt1 [.bl k] H Q := by
  refine .inr ⟨k, rfl, ?_⟩
  split
  · exact h _ (by omega) (by omega)
  · exact h _ (by omega) (by omega)
end
/-- the law's box stands at b: its own digits, its seed, how many were drawn; n more may be drawn -/
def Box (H : Hp) (b : Addr) (n : Nat) : Prop := ∃ o m c : Int, H b = some (.lst [.int o, .int m, .int c]) ∧ 0 ≤ o ∧ 0 ≤ m ∧ m < 2305843009213693951 ∧ 0 ≤ c ∧ c + (n : Int) ≤ 1000000000
theorem Box.mono {H : Hp} {b : Addr} {n m : Nat} (B : Box H b n) (h : m ≤ n) : Box H b m := by
  obtain ⟨o, s, c, e, h1, h2, h3, h4, h5⟩ := B
  exact ⟨o, s, c, e, h1, h2, h3, h4, by omega⟩
theorem Box.keep {H H' : Hp} {b : Addr} {n : Nat} (B : Box H b n) (k : Kp [] H H') : Box H' b n := by
  obtain ⟨o, s, c, e, r⟩ := B
  exact ⟨o, s, c, k.at0 e, r⟩
theorem Box.lst {H : Hp} {b : Addr} {n : Nat} (B : Box H b n) : ∃ xs, H b = some (.lst xs) := by
  obtain ⟨o, s, c, e, _⟩ := B
  exact ⟨_, e⟩
/-! ### what is carried over -/
section
variable {K : PySem.W.Frag} {H H' : Hp} {S : List Addr} {p b : Addr} {xs : List V} {o : HO}
theorem kp_rd {u : HO} (k : Kp S H H') (n : p ∉ S) (h : Rd H p u) : Rd H' p u := by
  rcases h with h | ⟨o, h⟩
  · exact .inl (k p _ n h)
  · exact .inr ⟨o, k p _ n h⟩
theorem kp_sqL (k : Kp S H H') (n : p ∉ S) (h : SqL K H p xs) : SqL K H' p xs := by
  rcases h with h | h
  · exact .inl (kp_rd k n h)
  · exact .inr h
theorem kp_sqT (k : Kp S H H') (n : p ∉ S) (h : SqT K H p xs) : SqT K H' p xs := by
  rcases h with h | h
  · exact .inl (kp_rd k n h)
  · exact .inr h
theorem kp1_sqL (k : Kp [b] H H') (n : p ≠ b) (h : SqL K H p xs) : SqL K H' p xs := kp_sqL k (by simpa using n) h
/-- a tuple is not what may change -/
def Mu (H : Hp) (S : List Addr) : Prop := ∀ b ∈ S, Mut (H b)
theorem Mu.nil {H : Hp} : Mu H [] := fun _ h => nomatch h
theorem Mu.lst {ys : List V} (h : H b = some (.lst ys)) : Mu H [b] := fun c hc => by
  have e : c = b := by simpa using hc
  rw [e, h]
  exact True.intro
theorem Mu.cons (m : Mut (H b)) (h : Mu H S) : Mu H (b :: S) := fun c hc => by
  rcases List.mem_cons.mp hc with e | e
  · rw [e]
    exact m
  · exact h c e
theorem mu_sqT (k : Kp S H H') (m : Mu H S) (h : SqT K H p xs) : SqT K H' p xs := by
  rcases h with h | h
  · left
    rcases h with h | ⟨o, h⟩
    · exact .inl (k p _ (fun z => by have := m p z; rw [h] at this; exact this) h)
    · exact .inr ⟨o, k p _ (fun z => by have := m p z; rw [h] at this; exact this) h⟩
  · exact .inr h
end
section
variable {H : Hp} {Q : VK} {X : Cx} {K : PySem.W.Frag}
/-- len of a list, a tuple, a text -/
def rLenV (K : PySem.W.Frag) : List V → Hp → VK → Prop := fun xs H Q => rLenQ K xs H Q ∨ rLenS xs H Q
theorem c_lenV : CallR X (.builtin "len") (rLenV X.K) := c_len.or c_lenS
end
/-! ### comprehensions, loops -/
section
variable {σ : St} {H : Hp} {Q : VK} {R : It → Hp → Prop}
theorem r_lc {wi : TI} {g : TG} {tt : TT} {te : TE} {vs : List Nat} (h : wi σ H fun J H1 => ∀ D, H1 D = none → ∃ W : Nat → Nat → Hp → Prop, (∃ m, W 0 m (upd H1 D (.lst []))) ∧ ∀ i m H, W i m H →
  (J.stop i H ∧ Q (.ref D) H) ∨ (J.go i H ∧ ∃ Nx : Hp → Prop, (∀ H', Nx H' → ∃ m', m' < m ∧ W (i + 1) m' H') ∧ ∀ x H', J.yld i H x H' → g x (wipe σ vs) H' fun σ2 H2 => wipe σ2 vs = wipe σ vs ∧ tt σ2 H2 fun b H3 =>
    if b = true then te σ2 H3 fun y H4 => ∃ acc, H4 D = some (.lst acc) ∧ acc.length < sizeLine ∧ Nx (upd H4 D (.lst (acc ++ [y]))) else Nx H3)) : tLc wi g tt te vs σ H Q := h
theorem r_rng1 {ta : TA} (h : ta σ H fun vs H1 => ∃ j : Int, vs = [.int j] ∧ -(2 ^ 62) ≤ j ∧ j < 2 ^ 62 ∧ R (Itr 0 j.toNat) H1) : iRng1 ta σ H R := h
theorem r_rngv {j : Int} {q : Int → Prop} (h0 : -(2 ^ 62) ≤ j) (h1 : j < 2 ^ 62) (h : q j) : ∃ j', [V.int j] = [V.int j'] ∧ -(2 ^ 62) ≤ j' ∧ j' < 2 ^ 62 ∧ q j' := ⟨j, rfl, h0, h1, h⟩
theorem r_yes {Q : Bool → Hp → Prop} (h : Q true H) : tYes σ H Q := h
theorem r_tt {A B : Prop} (h : A) : if true = true then A else B := by rw [if_pos rfl]; exact h
theorem r_ff {A B : Prop} (h : B) : if false = true then A else B := by rw [if_neg Bool.false_ne_true]; exact h
theorem r_m1 {r : V → List V → Hp → VK → Prop} {to te : TE} (h : to σ H fun x H1 => (∃ a, x = .str a) ∧ te σ H1 fun y H2 => r x [y] H2 Q) : tM1 r to te σ H Q := h
theorem r_m0 {r : V → List V → Hp → VK → Prop} {to : TE} (h : to σ H fun x H1 => (∃ a, x = .str a) ∧ r x [] H1 Q) : tM0 r to σ H Q := h
theorem r_isS {z : Str} {q : Prop} (h : q) : (∃ a, V.str z = V.str a) ∧ q := ⟨⟨z, rfl⟩, h⟩
end
/-- what a comprehension has made so far stands at D -/
def PvL (D : Addr) (R : Nat → List V → Hp → Prop) (i : Nat) (H : Hp) : Prop := ∃ acc, H D = some (.lst acc) ∧ acc.length ≤ i ∧ R i acc H
theorem PvL.step {D : Addr} {R : Nat → List V → Hp → Prop} {i : Nat} {H : Hp} {acc : List V} {y : V} (h : H D = some (.lst acc)) (l : acc.length ≤ i) (li : i < 1000000) (r : R (i + 1) (acc ++ [y]) (upd H D (.lst (acc ++ [y])))) :
    ∃ acc, H D = some (.lst acc) ∧ acc.length < sizeLine ∧ PvL D R (i + 1) (upd H D (.lst (acc ++ [y]))) :=
  ⟨acc, h, by rw [sizeLine_eq]; omega, acc ++ [y], upd_same, by rw [List.length_append, List.length_singleton]; omega, r⟩
theorem PvL.skip {D : Addr} {R : Nat → List V → Hp → Prop} {i : Nat} {H : Hp} {acc : List V} (h : H D = some (.lst acc)) (l : acc.length ≤ i) (r : R (i + 1) acc H) : PvL D R (i + 1) H := ⟨acc, h, by omega, r⟩
/-! ### cells -/
def Cell (c : Str) : Prop := 1 ≤ c.length ∧ c.length ≤ 8 ∧ ∀ x ∈ c.cps.toList, 97 ≤ x ∧ x ≤ 122
def Cells (cs : List Str) : Prop := cs.Nodup ∧ ∀ c ∈ cs, Cell c
/-! ### texts -/
section
variable {σ : St} {H : Hp} {Q : VK} {X : Cx} {K : PySem.W.Frag}
def rAddS : R2 := fun x y H Q => ∃ i j, x = .str i ∧ y = .str j ∧ i.length + j.length ≤ sizeLine ∧ Q (.str (i ++ j)) H
theorem op_addS : OpR X (binaryOp .Add) rAddS := op_add_str
theorem r_addS {i j : Str} (l : i.length + j.length ≤ sizeLine) (h : Q (.str (i ++ j)) H) : rAddS (.str i) (.str j) H Q := ⟨i, j, rfl, rfl, l, h⟩
def rJoin (K : PySem.W.Frag) : V → List V → Hp → VK → Prop := fun x xs H Q => ∃ a p, ∃ ys : List Str, x = .str a ∧ xs = [.ref p] ∧ (SqL K H p (ys.map V.str) ∨ SqT K H p (ys.map V.str)) ∧ (ys.map (·.length)).sum + ys.length * a.length ≤ 16777216 ∧ Q (.str (Txt.join a ys)) H
theorem pe_joinV {o e : Expr} {to te : TE} {apos pos : Pos} (ho : PE X o to) (he : PE X e te) (hs : starEach [e] X.env = [(false, eval e X.env)] := by rfl) (hbase : attributeBase o "join" X.env (eval o X.env) = eval o X.env := by rfl) (hline : (apos.endLine == pos.line) = true := by rfl) :
    PE X (.Call (.Attribute o "join" apos) [e] [] pos) (tM1 (rJoin X.K) to te) := pe_join ho he hs hbase hline
theorem r_join {a : Str} {p : Addr} {ys : List Str} (h : H p = some (.lst (ys.map V.str))) (l : (ys.map (·.length)).sum + ys.length * a.length ≤ 16777216) (q : Q (.str (Txt.join a ys)) H) : rJoin K (.str a) [.ref p] H Q := ⟨a, p, ys, rfl, rfl, .inl (.inl (.inl h)), l, q⟩
theorem r_slS {z : Str} {lo hi : Option Int} (l : z.length ≤ sizeLine) (q : Q (.str (cutS z lo hi)) H) : rSlS (.str z) lo hi H Q := ⟨z, rfl, l, q⟩
theorem r_ixS {z : Str} {i : Int} {c : Nat} (l : z.length ≤ sizeLine) (a : atI z.cps.toList i = some c) (q : Q (.str ⟨#[c]⟩) H) : rIxS (.str z) (.int i) H Q := ⟨z, i, c, rfl, rfl, l, a, q⟩
theorem r_gtup {n : Nat} {t : TGs} {p : Addr} {xs : List V} {Q : St → Hp → Prop} (h : H p = some (.tup xs)) (l : xs.length = n) (q : t xs σ H Q) : gTup K n t (.ref p) σ H Q := ⟨p, xs, rfl, .inl (.inl h), l, q⟩
theorem r_gtupS {n : Nat} {t : TGs} {p : Addr} {xs : List V} {Q : St → Hp → Prop} (h : SqT K H p xs) (l : xs.length = n) (q : t xs σ H Q) : gTup K n t (.ref p) σ H Q := ⟨p, xs, rfl, h, l, q⟩
theorem r_gcons {t : TG} {u : TGs} {v : V} {r : List V} {Q : St → Hp → Prop} (h : t v σ H fun σ' H' => u r σ' H' Q) : gCons t u (v :: r) σ H Q := ⟨v, r, rfl, h⟩
theorem r_gnil {Q : St → Hp → Prop} (h : Q σ H) : gNil [] σ H Q := ⟨rfl, h⟩
end
abbrev low (l : List Nat) : Prop := ∀ x ∈ l, 97 ≤ x ∧ x ≤ 122
theorem len_tl (z : Str) : z.length = z.cps.toList.length := by simp [Str.length]
theorem joinL_flat : ∀ ps : List (List Nat), TL.joinL [] ps = ps.flatten
  | [] => rfl
  | [p] => by simp [TL.joinL]
  | p :: q :: r => by
    show p ++ ([] ++ TL.joinL [] (q :: r)) = _
    rw [joinL_flat (q :: r), List.nil_append]
    rfl
theorem tl_joined {e : Str} (he : e.cps.toList = []) (ys : List Str) : (Txt.join e ys).cps.toList = (ys.map fun z => z.cps.toList).flatten := by
  rw [TL.join_eq]
  have := TL.tl_join e ys
  rw [show TL.tl e = [] from he, joinL_flat] at this
  exact this
/-! ### new objects, at a letter of a heap -/
@[elab_as_elim] theorem gen_new {P : Hp → Prop} {H : Hp} {p : Addr} {o : HO} (np : H p = none) (h : ∀ H', Kp [] H H' → H' p = some o → P H') : P (upd H p o) := h _ (Kp.new np) upd_same
theorem Kp.to1 {S : List Addr} {H H' : Hp} (k : Kp [] H H') : Kp S H H' := fun a o _ e => k a o (by simp) e
theorem Kp.none0 {H H' : Hp} {S : List Addr} {a : Addr} (k : Kp S H H') (n : a ∉ S) (e : H' a = none) : H a = none := by
  cases q : H a with
  | none => rfl
  | some o =>
    rw [k a o n q] at e
    cases e
theorem Kp.new0 {S : List Addr} {p : Addr} {H H' : Hp} {o : HO} (k : Kp S H H') (n : H p = none) : Kp S H (L2.upd H' p o) := fun a u h e => by
  rw [L2.upd_ne (ne_of_none e n)]
  exact k a u h e
theorem Kp.putNew {b p : Addr} {H H' : Hp} {o : HO} (k : Kp [b] H H') (n : H p = none) : Kp [b] H (L2.upd H' p o) := fun a u h e => by
  rw [L2.upd_ne (ne_of_none e n)]
  exact k a u h e
theorem nin1 {a b : Addr} (h : a ≠ b) : a ∉ [b] := by simpa using h
theorem str_ext {x y : Str} (h : x.cps.toList = y.cps.toList) : x = y := by
  have e : x.cps = y.cps := Array.toList_inj.mp h
  cases x
  cases y
  cases e
  rfl
theorem tl_cat (x y : Str) : (x ++ y).cps.toList = x.cps.toList ++ y.cps.toList := TL.tl_append x y
theorem cut_lo (z : Str) (c : Nat) : (cutS z none (some (c : Int))).cps.toList = z.cps.toList.take c := by
  unfold cutS
  show List.take (HT.sIx z.length z.length (some (c : Int)) - HT.sIx z.length 0 none) (List.drop (HT.sIx z.length 0 none) z.cps.toList) = _
  rw [HT.sIx_nat, HT.sIx_none, List.drop_zero, Nat.sub_zero, len_tl]
  by_cases h : c ≤ z.cps.toList.length
  · rw [Nat.min_eq_left h]
  · rw [Nat.min_eq_right (by omega), List.take_of_length_le (Nat.le_refl _), List.take_of_length_le (by omega)]
theorem cut_hi (z : Str) (c : Nat) : (cutS z (some (c : Int)) none).cps.toList = z.cps.toList.drop c := by
  unfold cutS
  show List.take (HT.sIx z.length z.length none - HT.sIx z.length 0 (some (c : Int))) (List.drop (HT.sIx z.length 0 (some (c : Int))) z.cps.toList) = _
  rw [HT.sIx_nat, HT.sIx_none, len_tl]
  by_cases h : c ≤ z.cps.toList.length
  · rw [Nat.min_eq_left h, List.take_of_length_le (by rw [List.length_drop]; omega)]
  · rw [Nat.min_eq_right (by omega), List.drop_of_length_le (Nat.le_refl _), List.drop_of_length_le (by omega), List.take_nil]
/-! ### sorted, in words -/
section
variable {H : Hp} {Q : VK} {K : PySem.W.Frag} {X : Cx}
theorem sort_facts (zs : List (PyData × V)) : (zs.mergeSort (PySem.W.dataLe false Prod.fst)).Perm zs ∧ (zs.mergeSort (PySem.W.dataLe false Prod.fst)).Pairwise (fun a b => PySem.W.dataLt b.1 a.1 = false) := by
  refine ⟨List.mergeSort_perm _ _, ?_⟩
  have h := PySem.W.sort_pairwise (PySem.W.sortLe_total (listOrd itemOrd) false fun b : PyData × V => PySem.W.keyToks b.1) zs
  refine h.imp fun {a b} e => ?_
  have e' : (!PySem.W.dataLt b.1 a.1) = true := e
  simpa using e'
theorem r_sort {a : Addr} {ys : List V} {ds : List PyData} (hs : SqL K H a ys ∨ SqT K H a ys) (hd : DpAll K H ys ds) (sb : Sb ds)
    (h : ∀ (p : Addr) (zs : List (PyData × V)), zs.Perm (ds.zip ys) → zs.Pairwise (fun a b => PySem.W.dataLt b.1 a.1 = false) → H p = none → Q (.ref p) (upd H p (.lst (zs.map Prod.snd)))) : rSortV K [.ref a] H Q :=
  ⟨a, ys, ds, rfl, hs, hd, sb, fun p np => h p _ (sort_facts _).1 (sort_facts _).2 np⟩
theorem perm_map_inv {α β : Type} {f : α → β} {g : β → α} (hg : ∀ a, g (f a) = a) {xs : List α} {zs : List β} (h : zs.Perm (xs.map f)) : ∃ ys : List α, ys.Perm xs ∧ zs = ys.map f := by
  refine ⟨zs.map g, ?_, ?_⟩
  · have := h.map g
    rw [List.map_map, show g ∘ f = id from funext hg, List.map_id] at this
    exact this
  · rw [List.map_map]
    refine (List.map_congr_left (g := id) fun z hz => ?_).trans (List.map_id _) |>.symm
    obtain ⟨x, _, rfl⟩ := List.mem_map.mp (h.mem_iff.mp hz)
    show f (g (f x)) = f x
    rw [hg]
theorem dpAll_ints : ∀ ns : List Int, DpAll K H (ns.map V.int) (ns.map PyData.int)
  | [] => .nil
  | n :: r => .cons (.int n) (dpAll_ints r)
theorem dpAll_strs : ∀ ns : List Str, DpAll K H (ns.map V.str) (ns.map PyData.str)
  | [] => .nil
  | n :: r => .cons (.str n) (dpAll_strs r)
theorem zip_maps {α β γ : Type} (f : α → β) (g : α → γ) : ∀ xs : List α, (xs.map f).zip (xs.map g) = xs.map fun x => (f x, g x)
  | [] => rfl
  | x :: xs => by rw [List.map_cons, List.map_cons, List.zip_cons_cons, zip_maps f g xs, List.map_cons]
theorem sb_ints (ns : List Int) : Sb (ns.map PyData.int) := by
  refine ⟨PySem.W.AllAlike.of fun _ _ => by simp [PySem.W.alike], fun d hd => ?_, .inl (PySem.W.Sortable.others fun _ => ⟨by simp, by simp⟩)⟩
  obtain ⟨n, _, rfl⟩ := List.mem_map.mp hd
  exact ⟨by simp [PyData.depth], by simp⟩
theorem sb_strs (ns : List Str) : Sb (ns.map PyData.str) := by
  refine ⟨PySem.W.AllAlike.of fun _ _ => by simp [PySem.W.alike], fun d hd => ?_, .inl (PySem.W.Sortable.others fun _ => ⟨by simp, by simp⟩)⟩
  obtain ⟨n, _, rfl⟩ := List.mem_map.mp hd
  exact ⟨by simp [PyData.depth], by simp⟩
theorem r_sortI {a : Addr} {ns : List Int} (hs : SqL K H a (ns.map V.int) ∨ SqT K H a (ns.map V.int)) (h : ∀ (p : Addr) (ms : List Int), ms.Perm ns → ms.Pairwise (· ≤ ·) → H p = none → Q (.ref p) (upd H p (.lst (ms.map V.int)))) : rSortV K [.ref a] H Q := by
  refine r_sort hs (dpAll_ints ns) (sb_ints ns) fun p zs hp hw np => ?_
  rw [zip_maps] at hp
  obtain ⟨ms, pm, rfl⟩ := perm_map_inv (f := fun n : Int => (PyData.int n, V.int n)) (g := fun z => match z.1 with | .int i => i | _ => 0) (fun _ => rfl) hp
  rw [List.map_map]
  refine h p ms pm ?_ np
  rw [List.pairwise_map] at hw
  refine hw.imp fun {x y} e => ?_
  rw [PySem.W.dataLt_int] at e
  have := of_decide_eq_false e
  omega
theorem r_sortS {a : Addr} {ns : List Str} (hs : SqL K H a (ns.map V.str) ∨ SqT K H a (ns.map V.str)) (h : ∀ (p : Addr) (ms : List Str), ms.Perm ns → ms.Pairwise (fun x y => ¬ y.cps.toList < x.cps.toList) → H p = none → Q (.ref p) (upd H p (.lst (ms.map V.str)))) : rSortV K [.ref a] H Q := by
  refine r_sort hs (dpAll_strs ns) (sb_strs ns) fun p zs hp hw np => ?_
  rw [zip_maps] at hp
  obtain ⟨ms, pm, rfl⟩ := perm_map_inv (f := fun n : Str => (PyData.str n, V.str n)) (g := fun z => match z.1 with | .str i => i | _ => Str.empty) (fun _ => rfl) hp
  rw [List.map_map]
  refine h p ms pm ?_ np
  rw [List.pairwise_map] at hw
  refine hw.imp fun {x y} e => ?_
  rw [PySem.W.dataLt_str] at e
  exact of_decide_eq_false e
/-! in, not in: a list of ints, of texts -/
theorem inV_int (i : Int) : ∀ ns : List Int, inV (.int i) (ns.map V.int) = decide (i ∈ ns)
  | [] => by simp [inV]
  | n :: r => by
    have ih := inV_int i r
    unfold inV at ih ⊢
    rw [List.map_cons, List.any_cons, ih, Bool.eq_iff_iff]
    simp [eqV]
    exact or_congr eq_comm Iff.rfl
theorem inV_str (i : Str) : ∀ ns : List Str, inV (.str i) (ns.map V.str) = decide (i ∈ ns)
  | [] => by simp [inV]
  | n :: r => by
    have ih := inV_str i r
    unfold inV at ih ⊢
    rw [List.map_cons, List.any_cons, ih, Bool.eq_iff_iff]
    simp [eqV]
    exact or_congr eq_comm Iff.rfl
theorem flat_ints (ns : List Int) : (ns.map V.int).all flatV = true := by
  rw [List.all_eq_true]
  intro x hx
  obtain ⟨n, _, rfl⟩ := List.mem_map.mp hx
  rfl
theorem flat_strs (ns : List Str) : (ns.map V.str).all flatV = true := by
  rw [List.all_eq_true]
  intro x hx
  obtain ⟨n, _, rfl⟩ := List.mem_map.mp hx
  rfl
theorem r_inI {p : Addr} {i : Int} {ns : List Int} (h : SqL K H p (ns.map V.int) ∨ SqT K H p (ns.map V.int)) (q : Q (.bl (decide (i ∈ ns))) H) : rIn K false (.int i) (.ref p) H Q := ⟨p, _, rfl, h, rfl, flat_ints ns, by rw [inV_int]; exact q⟩
theorem r_notinI {p : Addr} {i : Int} {ns : List Int} (h : SqL K H p (ns.map V.int) ∨ SqT K H p (ns.map V.int)) (q : Q (.bl (!decide (i ∈ ns))) H) : rIn K true (.int i) (.ref p) H Q := ⟨p, _, rfl, h, rfl, flat_ints ns, by rw [inV_int]; exact q⟩
theorem r_inS {p : Addr} {i : Str} {ns : List Str} (h : SqL K H p (ns.map V.str) ∨ SqT K H p (ns.map V.str)) (q : Q (.bl (decide (i ∈ ns))) H) : rIn K false (.str i) (.ref p) H Q := ⟨p, _, rfl, h, rfl, flat_strs ns, by rw [inV_str]; exact q⟩
theorem r_notinS {p : Addr} {i : Str} {ns : List Str} (h : SqL K H p (ns.map V.str) ∨ SqT K H p (ns.map V.str)) (q : Q (.bl (!decide (i ∈ ns))) H) : rIn K true (.str i) (.ref p) H Q := ⟨p, _, rfl, h, rfl, flat_strs ns, by rw [inV_str]; exact q⟩
end
section
variable {σ : St} {H : Hp} {Q : VK} {K : PySem.W.Frag} {nx : St → Hp → Prop} {rt : VK} {bk ct : St → Hp → Prop}
theorem r_for {wi : TI} {g : TG} {tb : TS} {D : Ends} (h : wi σ H fun J H1 => ∃ W : Nat → Nat → St → Hp → Prop, (∃ m, W 0 m σ H1) ∧ ∀ i m σ H, W i m σ H →
  (J.stop i H ∧ D.nx σ H) ∨ (J.go i H ∧ ∃ N : St → Hp → Prop, (∀ σ' H', N σ' H' → ∃ m', m' < m ∧ W (i + 1) m' σ' H') ∧ ∀ x H', J.yld i H x H' → g x σ H' fun σ2 H2 => tb { D with nx := N, ct := N, bk := D.nx } σ2 H2)) : tFor wi g tb D σ H := h
theorem r_ilist {tl : TE} {R : It → Hp → Prop} (h : tl σ H fun x H1 => ∃ a, x = .ref a ∧ (∃ xs, SqL K H1 a xs) ∧ R (Itl K a) H1) : iList K tl σ H R := h
theorem r_itup {tl : TE} {R : It → Hp → Prop} (h : tl σ H fun x H1 => ∃ a, x = .ref a ∧ (∃ xs, SqT K H1 a xs) ∧ R (Itt K a) H1) : iTup K tl σ H R := h
theorem r_walkL {a : Addr} {xs : List V} {q : Addr → Prop} (h : SqL K H a xs) (k : q a) : ∃ a', V.ref a = .ref a' ∧ (∃ xs, SqL K H a' xs) ∧ q a' := ⟨a, rfl, ⟨xs, h⟩, k⟩
theorem r_walkT {a : Addr} {xs : List V} {q : Addr → Prop} (h : SqT K H a xs) (k : q a) : ∃ a', V.ref a = .ref a' ∧ (∃ xs, SqT K H a' xs) ∧ q a' := ⟨a, rfl, ⟨xs, h⟩, k⟩
theorem r_pickI {p : Addr} {ns : List Int} {i : Int} (h : SqL K H p (ns.map V.int)) (h0 : 0 ≤ i) (h1 : i < ns.length) (q : ∀ m ∈ ns, Q (.int m) H) : rIxL K (.ref p) (.int i) H Q := by
  obtain ⟨v, e, m⟩ := atI_int (xs := ns.map V.int) h0 (by rw [List.length_map]; exact h1)
  obtain ⟨j, hj, rfl⟩ := List.mem_map.mp m
  exact r_ixL h e (q j hj)
theorem r_app {l : Addr} {xs : List V} {y : V} (h : H l = some (.lst xs)) (z : xs.length < 1000000) (q : Q .non (upd H l (.lst (xs ++ [y])))) : tyV K "list" (.ref l) H ∧ rAppend (.ref l) [y] H Q :=
  ⟨.inl ⟨rfl, xs, .inl (.inl h)⟩, l, xs, y, rfl, rfl, h, by rw [sizeLine_eq]; omega, q⟩
end
section
variable {X : Cx} {K : PySem.W.Frag} {H : Hp} {Q : VK}
/-- a tuple made here: its object has no dict of its own -/
def Tm (H : Hp) (a : Addr) (xs : List V) : Prop := ∃ o : Obj, H a = some (.frz o (.tup xs)) ∧ o.dict = none
theorem Tm.sq {a : Addr} {xs : List V} (h : Tm H a xs) : SqT K H a xs := by
  obtain ⟨o, e, _⟩ := h
  exact .inl (.inr ⟨o, e⟩)
theorem Tm.keep {S : List Addr} {H' : Hp} {a : Addr} {xs : List V} (h : Tm H a xs) (k : Kp S H H') (n : a ∉ S) : Tm H' a xs := by
  obtain ⟨o, e, d⟩ := h
  exact ⟨o, k a _ n e, d⟩
theorem Tm.keep0 {H' : Hp} {a : Addr} {xs : List V} (h : Tm H a xs) (k : Kp [] H H') : Tm H' a xs := h.keep k (by simp)
theorem Tm.keepM {S : List Addr} {H' : Hp} {a : Addr} {xs : List V} (h : Tm H a xs) (k : Kp S H H') (m : Mu H S) : Tm H' a xs := by
  refine h.keep k fun z => ?_
  obtain ⟨o, e, _⟩ := h
  have := m a z
  rw [e] at this
  exact this
def tTupF (t : TA) : TE := fun σ H Q => t σ H fun xs H1 => xs.length ≤ sizeLine ∧ ∀ (p : Addr) (o : Obj), H1 p = none → o.dict = none → Q (.ref p) (upd H1 p (.frz o (.tup xs)))
theorem pe_tupF {es : List Expr} {t : TA} {pos : Pos} {x1 : Nat} (h : PA X es t) : PE X (.Tuple es x1 pos) (tTupF t) := by
  refine ⟨fun pins s σ H Q I hq => ?_⟩
  refine wpAny_Tuple_spliced (thn (h.run pos pins s σ H _ I hq) fun us s1 ⟨xs, H1, I1, r, z, q⟩ => ⟨by rw [← r.length]; exact z, ?_⟩)
  have hf : H1 s1.heap.objs.size = none := I1.hok.fresh (Nat.le_refl _)
  refine ⟨.ref s1.heap.objs.size, upd H1 s1.heap.objs.size (.frz _ (.tup xs)), I1.laid (t' := s1.toks) (fun b u e => Heap.get?_push_of_some _ e) (Nat.le_refl _) ⟨Heap.get?_push_size _ rfl, ?_⟩, rfl, q _ _ hf rfl⟩
  exact ⟨z, us, r, ⟨_, Heap.get?_push_size _ rfl, rfl, _, rfl⟩⟩
theorem r_tupF {σ : St} {t : TA} (h : t σ H fun xs H1 => xs.length ≤ sizeLine ∧ ∀ (p : Addr) (o : Obj), H1 p = none → o.dict = none → Q (.ref p) (upd H1 p (.frz o (.tup xs)))) : tTupF t σ H Q := h
theorem r_newT {xs : List V} (e : Nat.ble xs.length 1000 = true) (h : ∀ (p : Addr) (H' : Hp), H p = none → Kp [] H H' → Tm H' p xs → Q (.ref p) H') : xs.length ≤ sizeLine ∧ ∀ (p : Addr) (o : Obj), H p = none → o.dict = none → Q (.ref p) (upd H p (.frz o (.tup xs))) :=
  ⟨Nat.le_of_lt (small1000 (Nat.le_of_ble_eq_true e)), fun p o np od => h p _ np (Kp.new np) ⟨o, upd_same, od⟩⟩
theorem r_newF {xs : List V} {q : Addr → Obj → Prop} (e : Nat.ble xs.length 1000 = true) (h : ∀ (p : Addr) (o : Obj), H p = none → o.dict = none → q p o) : xs.length ≤ sizeLine ∧ ∀ (p : Addr) (o : Obj), H p = none → o.dict = none → q p o :=
  ⟨Nat.le_of_lt (small1000 (Nat.le_of_ble_eq_true e)), h⟩
@[elab_as_elim] theorem gen_newT {P : Hp → Prop} {p : Addr} {o : Obj} {xs : List V} (np : H p = none) (od : o.dict = none) (h : ∀ H', Kp [] H H' → Tm H' p xs → P H') : P (upd H p (.frz o (.tup xs))) := h _ (Kp.new np) ⟨o, upd_same, od⟩
/-- tuple(x), list(x), x a list or a tuple -/
def rTupOf (K : PySem.W.Frag) : List V → Hp → VK → Prop := fun xs H Q => ∃ p ys, xs = [.ref p] ∧ ((SqL K H p ys ∧ ∀ (l : Addr) (o : Obj), H l = none → o.dict = none → Q (.ref l) (upd H l (.frz o (.tup ys)))) ∨ (SqT K H p ys ∧ Q (.ref p) H))
def rListOf (K : PySem.W.Frag) : List V → Hp → VK → Prop := fun xs H Q => ∃ p ys, xs = [.ref p] ∧ (SqL K H p ys ∨ SqT K H p ys) ∧ ∀ l, H l = none → Q (.ref l) (upd H l (.lst ys))
theorem c_tuple : CallR X (.type "tuple") (rTupOf X.K) := by
  intro pins s σ H xs us Q I r h
  obtain ⟨p, ys, rfl, h⟩ := h
  obtain ⟨u, rfl, rx⟩ := vals1 r
  cases rx
  rcases h with ⟨hq, q⟩ | ⟨hq, q⟩
  · obtain ⟨its, r', pl, hz⟩ := I.list hq
    have hlen := r'.length
    refine call_tuple_list pl.isList (fun h' kp => ?_) (by simp only [List.size_toArray] <;> omega)
    have I1 : Inv X pins σ H { s with heap := h' } := I.kept (t' := s.toks) kp
    have I2 : Inv X pins σ (upd H h'.objs.size (.frz { cls := .type "tuple", data := .seq its.toArray } (.tup ys))) { s with heap := h'.push { cls := .type "tuple", data := .seq its.toArray } } :=
      I1.laid (t' := s.toks) (fun b o e => Heap.get?_push_of_some _ e) (Nat.le_refl _) (show ObjOk X.prog X.w _ _ _ (.frz _ (.tup ys)) from ⟨Heap.get?_push_size _ rfl, hz, its, r', IsTup.new _ _⟩)
    exact ⟨.ref h'.objs.size, _, I2, rfl, q _ _ (I1.hok.fresh (Nat.le_refl _)) rfl⟩
  · obtain ⟨its, r', pl, hz⟩ := I.tuple hq
    exact call_tuple_same pl ⟨.ref p, H, I, rfl, q⟩
theorem c_list : CallR X (.type "list") (rListOf X.K) := call_list_of
theorem r_tupL {p : Addr} {ys : List V} (h : H p = some (.lst ys)) (q : ∀ (l : Addr) (H' : Hp), H l = none → Kp [] H H' → Tm H' l ys → Q (.ref l) H') : rTupOf K [.ref p] H Q := ⟨p, ys, rfl, .inl ⟨.inl (.inl h), fun l o nl od => q l _ nl (Kp.new nl) ⟨o, upd_same, od⟩⟩⟩
theorem r_listOf {p : Addr} {ys : List V} (h : SqL K H p ys ∨ SqT K H p ys) (q : ∀ l, H l = none → Q (.ref l) (upd H l (.lst ys))) : rListOf K [.ref p] H Q := ⟨p, ys, rfl, h, q⟩
theorem r_gtupP {σ : St} {n : Nat} {t : TGs} {p : Addr} {xs : List V} {Q : St → Hp → Prop} (h : Tm H p xs) (l : xs.length = n) (q : t xs σ H Q) : gTup K n t (.ref p) σ H Q := ⟨p, xs, rfl, h.sq, l, q⟩
/-- t + u -/
def rCatF (K : PySem.W.Frag) : R2 := fun x y H Q => ∃ a b xs ys, x = .ref a ∧ y = .ref b ∧ SqT K H a xs ∧ SqT K H b ys ∧ xs.length + ys.length ≤ sizeLine ∧
  (xs = [] → Q (.ref b) H) ∧ (xs ≠ [] → ys = [] → Q (.ref a) H) ∧ (xs ≠ [] → ys ≠ [] → ∀ (p : Addr) (o : Obj), H p = none → o.dict = none → Q (.ref p) (upd H p (.frz o (.tup (xs ++ ys)))))
theorem nil_of {xs : List V} {us : List Value} (r : Vals xs us) : us = [] ↔ xs = [] := by
  cases r with
  | nil => simp
  | cons _ _ => simp
theorem op_catF : OpR X (binaryOp .Add) (rCatF X.K) := by
  intro pins s σ H x y v u Q I rx ry h
  obtain ⟨a, b, xs, ys, rfl, rfl, ha, hb, hz, q0, q1, q2⟩ := h
  cases rx
  cases ry
  obtain ⟨its, r1, p1, _⟩ := I.tuple ha
  obtain ⟨its2, r2, p2, _⟩ := I.tuple hb
  by_cases hx : xs = []
  · subst hx
    cases r1
    exact L2.cat_tup0 p1 p2 ⟨.ref b, H, I, rfl, q0 rfl⟩
  · refine HT.cat_tup p1 p2 (fun z => hx ((nil_of r1).mp z)) (fun z => ⟨.ref a, H, I, rfl, q1 hx ((nil_of r2).mp z)⟩) (fun z => ?_) (by rw [← r1.length, ← r2.length]; exact hz)
    refine ⟨.ref s.heap.objs.size, _, I.laid (t' := s.toks) (o := .frz _ (.tup (xs ++ ys))) (fun b ob q => Heap.get?_push_of_some _ q) (Nat.le_refl _) ⟨Heap.get?_push_size _ rfl, ?_⟩, rfl, q2 hx (fun w => z ((nil_of r2).mpr w)) _ _ (I.hok.fresh (Nat.le_refl _)) rfl⟩
    exact ⟨by rw [List.length_append]; exact hz, _, r1.append r2, IsTup.new _ _⟩
theorem r_catF {a b : Addr} {xs ys : List V} (ha : Tm H a xs) (hb : Tm H b ys) (l : xs.length + ys.length ≤ 1000000) (h : ∀ (p : Addr) (H' : Hp), Kp [] H H' → Tm H' p (xs ++ ys) → Q (.ref p) H') : rCatF K (.ref a) (.ref b) H Q := by
  refine ⟨a, b, xs, ys, rfl, rfl, ha.sq, hb.sq, by rw [sizeLine_eq]; omega, fun e => ?_, fun e e2 => ?_, fun e e2 p o np od => ?_⟩
  · refine h b H Kp.refl ?_
    rw [e]
    exact hb
  · refine h a H Kp.refl ?_
    rw [e2, List.append_nil]
    exact ha
  · exact h p _ (Kp.new np) ⟨o, upd_same, od⟩
/-- dict(x), x a list of pairs or a tuple of pairs made here -/
def rDictP (K : PySem.W.Frag) : List V → Hp → VK → Prop := fun xs H Q => ∃ (a : Addr) (ps : List Addr) (kvs : List (Key × V)), xs = [.ref a] ∧ (SqL K H a (ps.map V.ref) ∨ Tm H a (ps.map V.ref)) ∧ Paired (fun p kv => SqT K H p [kV kv.1, kv.2]) ps kvs ∧
  ∀ p, H p = none → Q (.ref p) (upd H p (.dK (mergeK [] kvs)))
theorem c_dictP (hcalm : X.calm = true) : CallR X (.type "dict") (rDictP X.K) := by
  intro pins s σ H xs us Q I r h
  obtain ⟨a, ps, kvs, ex, hq, hp, q⟩ := h
  rcases hq with hq | hq
  · exact call_dictP hcalm pins s σ H xs us Q I r ⟨a, ps, kvs, ex, hq, hp, q⟩
  subst ex
  obtain ⟨u, eu, rx⟩ := vals1 r
  subst eu
  cases rx
  obtain ⟨ob, eo, od⟩ := hq
  obtain ⟨ho, hz, its, rv, ⟨ob', ho', hc, n, hd⟩⟩ := (show ObjOk X.prog X.w H s.heap a (.frz ob (.tup (ps.map V.ref))) from I.hok a _ eo)
  have ee : ob' = ob := Option.some.inj (ho'.symm.trans ho)
  subst ee
  have ei := refs_at rv
  subst ei
  rw [List.length_map] at hz
  obtain ⟨prs, rel, hl, hpr⟩ := pairs_of I hp
  let us : Nat → Value := fun j => match ps[j]? with
    | some b => match s.heap.get? b with
      | some o => match o.data with
        | .seq its _ => its.getD 0 .none
        | _ => .none
      | none => .none
    | none => .none
  have hus : ∀ (j : Nat) (q : Key × Value), prs[j]? = some q → ∃ b, ps[j]? = some b ∧ IsTup s.heap b #[us j, q.2] ∧ (mixKind X.prog X.w).is q.1 (us j) = true := by
    intro j q' e
    obtain ⟨b, u, e1, e2, e3⟩ := hpr j q' e
    have eu : us j = u := by
      obtain ⟨o, g1, g2, m, g3⟩ := e2
      show (match ps[j]? with
        | some b => match s.heap.get? b with
          | some o => match o.data with
            | .seq its _ => its.getD 0 .none
            | _ => .none
          | none => .none
        | none => .none) = u
      rw [e1]
      simp only [g1, g3]
      rfl
    rw [eu]
    exact ⟨b, e1, e2, e3⟩
  have hlz : ((List.range prs.length).map fun j => (us j, ((prs[j]?.map Prod.snd).getD .none))).length = prs.length := by rw [List.length_map, List.length_range]
  have hat : ∀ j k v, ((List.range prs.length).map fun j => (us j, ((prs[j]?.map Prod.snd).getD .none)))[j]? = some (k, v) → ∃ q, prs[j]? = some q ∧ k = us j ∧ v = q.2 := by
    intro j k v e
    rw [List.getElem?_map] at e
    by_cases hj : j < prs.length
    · rw [List.getElem?_range hj] at e
      have e' : (us j, ((prs[j]?.map Prod.snd).getD .none)) = (k, v) := Option.some.inj e
      rw [List.getElem?_eq_getElem hj] at e' ⊢
      injection e' with e1 e2
      exact ⟨_, rfl, e1.symm, e2.symm⟩
    · rw [List.getElem?_eq_none (by rw [List.length_range]; omega)] at e
      cases e
  refine PySem.call_dict_pairs (knd := mixKind X.prog X.w) (kvs := prs) (PySem.PairArg.tuple a (ps.map Value.ref).toArray (fun j => (ps[j]?).getD 0) ((List.range prs.length).map fun j => (us j, ((prs[j]?.map Prod.snd).getD .none)))) (I.ok.hd hcalm)
    ⟨⟨_, n, ho, hc, od, hd⟩, by rw [hlz, List.size_toArray, List.length_map, hl], fun j k v e => ?_⟩ ⟨hlz.symm, fun j k v e => ?_⟩ (by rw [hlz, hl]; exact hz) fun h' tk hd' k => ?_
  · obtain ⟨q', e1, rfl, rfl⟩ := hat j k v e
    obtain ⟨b, e2, e3, e4⟩ := hus j q' e1
    have eb : (fun j => (ps[j]?).getD 0) j = b := by
      show (ps[j]?).getD 0 = b
      rw [e2]
      rfl
    rw [eb]
    exact ⟨by simp [e2], .inl e3⟩
  · obtain ⟨q', e1, rfl, rfl⟩ := hat j k v e
    obtain ⟨b, e2, e3, e4⟩ := hus j q' e1
    exact ⟨q'.1, e1, e4⟩
  · have hm : (s.heap.objs.size == sysModules) = false := beq_eq_false_iff_ne.mpr (Nat.ne_of_gt I.big)
    have hlen : (mergeK [] kvs).length ≤ sizeLine := by
      refine Nat.le_trans (length_mergeK kvs []) ?_
      rw [List.length_nil, Nat.zero_add, rel.length, hl]
      exact hz
    exact ⟨.ref s.heap.objs.size, upd H s.heap.objs.size (.dK (mergeK [] kvs)), I.laid (t' := tk) (fun b o e => k b o (by simp) e) (Nat.le_refl _) (show ObjOk X.prog X.w _ _ _ (.dK (mergeK [] kvs)) from ⟨hlen, hm, merged [] prs, KV.merge rel .nil, hd'⟩), rfl, q _ (I.hok.fresh (Nat.le_refl _))⟩
theorem r_dictP {a : Addr} {ps : List Addr} {kvs : List (Key × V)} (h : SqL K H a (ps.map V.ref) ∨ Tm H a (ps.map V.ref)) (g : Paired (fun p kv => SqT K H p [kV kv.1, kv.2]) ps kvs) (q : ∀ p, H p = none → Q (.ref p) (upd H p (.dK (mergeK [] kvs)))) : rDictP K [.ref a] H Q := ⟨a, ps, kvs, rfl, h, g, q⟩
end
end L2.Rx

end
section
set_option Elab.async false
set_option linter.all false
set_option maxRecDepth 100000
set_option maxHeartbeats 4000000
local macro_rules | `(tactic| walk_at "rd1") => `(tactic| with_reducible first
  | refine L2.Rx.r_seq ?_ | refine L2.Rx.r_asg ?_ | refine L2.Rx.r_gname ?_ | refine L2.Rx.r_op ?_ | refine L2.Rx.r_c ?_
  | refine L2.Rx.r_var rfl ?_
  | refine L2.Rx.r_rI0 ?_ | refine L2.Rx.r_test ?_ | refine L2.Rx.r_bl ?_ | refine L2.Rx.r_if ?_ | refine L2.Rx.r_ret ?_
  | refine L2.Rx.r_cons ?_ | refine L2.Rx.r_nil ?_ | refine L2.Rx.r_call ?_ | refine L2.Rx.r_cb ?_ | refine L2.Rx.r_next ?_ | refine L2.Rx.r_drop ?_
  | refine L2.Rx.r_gsub ?_ | refine L2.Rx.r_tupF ?_ | refine L2.Rx.r_lst ?_ | refine L2.Rx.r_par ?_ | refine L2.Rx.r_par2 ?_
  | refine L2.Rx.r_un ?_ | refine L2.Rx.r_tb ?_ | refine L2.Rx.r_and ?_ | refine L2.Rx.r_or ?_ | refine L2.Rx.r_not ?_
  | refine L2.Rx.r_andV ?_ | refine L2.Rx.r_orV ?_ | refine L2.Rx.r_notV ?_ | refine L2.Rx.r_ifx ?_ | refine L2.Rx.r_chain ?_
  | refine L2.Rx.r_sl ?_ | refine L2.Rx.r_nopart ?_ | refine L2.Rx.r_part ?_ | refine L2.Rx.r_exint ?_ | refine L2.Rx.r_bm0 ?_ | refine L2.Rx.r_bm ?_
  | refine L2.Rx.r_lc ?_ | refine L2.Rx.r_rng1 ?_ | refine L2.Rx.r_yes ?_ | refine L2.Rx.r_tt ?_ | refine L2.Rx.r_ff ?_ | refine L2.Rx.r_m1 ?_ | refine L2.Rx.r_m0 ?_ | refine L2.Rx.r_isS ?_
  | (refine L2.Rx.r_wipe (by with_unfolding_all rfl) ?_) | (refine L2.Rx.r_tyL (by walk_at "hp") ?_)
  | refine L2.Rx.r_addS (by walk_at "len") ?_ | refine L2.Rx.r_lenS (by walk_at "len") ?_ | refine L2.Rx.r_slS (by walk_at "len") ?_
  | refine L2.Rx.r_dnotin ?_ | refine L2.Rx.r_dget ?_ | refine L2.Rx.r_dget1 ?_ | refine L2.Rx.r_dput ?_ | refine L2.Rx.r_dpop1 ?_ | refine L2.Rx.r_isN ?_
  | refine L2.Rx.r_for ?_ | refine L2.Rx.r_ilist ?_ | refine L2.Rx.r_itup ?_
  | refine L2.Rx.r_gcons ?_ | refine L2.Rx.r_gnil ?_ | (refine L2.Rx.r_gtupP (by assumption) (by walk_at "at") ?_)
  | (refine L2.Rx.r_rEq rfl ?_) | (refine L2.Rx.r_rNe rfl ?_)
  | refine L2.Rx.r_rU ?_ | refine L2.Rx.r_max2 ?_ | refine L2.Rx.r_min2 ?_ | refine L2.Rx.r_int1i ?_ | (refine L2.Rx.r_lenh (by walk_at "hp") ?_)
  | (refine L2.Rx.r_ixLh (by walk_at "hp") (by walk_at "at") ?_)
  | (refine L2.Rx.r_setL (by walk_at "hp") (by walk_at "at") ?_))
local macro_rules | `(tactic| walk_at "at") => `(tactic| with_unfolding_all rfl)
local macro_rules | `(tactic| walk_at "rd") => `(tactic| (repeat walk_at "rd1"))
local macro_rules | `(tactic| walk_at "hp") => `(tactic| first
  | assumption
  | exact L2.upd_same
  | (refine Eq.trans (L2.upd_ne ?_) ?_; (focus walk_at "ne"); (focus walk_at "hp"))
  | (refine L2.Rx.Kp.at0 (by assumption) ?_; walk_at "hp")
  | (refine L2.Rx.Kp.at1 (by assumption) ?_ ?_; (focus walk_at "ne"); (focus walk_at "hp")))
local macro_rules | `(tactic| walk_at "ne") => `(tactic| first
  | assumption | exact Ne.symm (by assumption)
  | (refine L2.ne_of_none (H := ?nH) (o := ?nO) ?nh ?nn; (case nn => assumption); (case nh => walk_at "hp"))
  | (refine Ne.symm (L2.ne_of_none (H := ?nH) (o := ?nO) ?nh ?nn); (case nn => assumption); (case nh => walk_at "hp")))
local macro_rules | `(tactic| walk_at "len") => `(tactic| (rw [PySem.sizeLine_eq]; omega))
local macro_rules | `(tactic| walk_at "nin") => `(tactic| first
  | exact List.not_mem_nil
  | (refine L2.Rx.nin1 ?_; walk_at "ne"))
local macro_rules | `(tactic| walk_at "none") => `(tactic| first
  | assumption
  | (refine L2.Rx.Kp.none0 (by assumption) ?_ ?_; (focus walk_at "nin"); (focus walk_at "none")))
namespace L2.Rx
open PySem PySem.Spec PyProof.Rows
/-! ### data: none, bools, ints, texts, tuples of these: what may change does not reach it -/
mutual
def noL : PyData → Bool
  | .list _ => false
  | .dict _ => false
  | .tuple ds => noLs ds
  | .none => true
  | .bool _ => true
  | .int _ => true
  | .str _ => true
def noLs : List PyData → Bool
  | [] => true
  | d :: ds => noL d && noLs ds
end
mutual
/-- small enough to compare and to show -/
def shp : PyData → Bool
  | .list ds => shps ds
  | .dict _ => false
  | .tuple ds => shps ds
  | .str x => PyData.strOk x
  | .none => true
  | .bool _ => true
  | .int _ => true
def shps : List PyData → Bool
  | [] => true
  | d :: ds => shp d && shps ds
end
mutual
/-- data whose tuples are made here -/
inductive Dq (K : PySem.W.Frag) (H : Hp) : V → PyData → Prop
  | non : Dq K H .non .none
  | bl (b : Bool) : Dq K H (.bl b) (.bool b)
  | int (i : Int) : Dq K H (.int i) (.int i)
  | str (x : Str) : Dq K H (.str x) (.str x)
  | lst {a : Addr} {xs : List V} {ds : List PyData} : SqL K H a xs → DqAll K H xs ds → Dq K H (.ref a) (.list ds)
  | tup {a : Addr} {xs : List V} {ds : List PyData} : Tm H a xs → DqAll K H xs ds → Dq K H (.ref a) (.tuple ds)
inductive DqAll (K : PySem.W.Frag) (H : Hp) : List V → List PyData → Prop
  | nil : DqAll K H [] []
  | cons {v : V} {vs : List V} {d : PyData} {ds : List PyData} : Dq K H v d → DqAll K H vs ds → DqAll K H (v :: vs) (d :: ds)
end
section
variable {K : PySem.W.Frag} {H H' : Hp} {S : List Addr} {p b : Addr} {xs : List V}
mutual
theorem Dq.dp : ∀ (d : PyData) (v : V), Dq K H v d → Dp K H v d
  | .none, _, h => by cases h; exact .non
  | .bool b, _, h => by cases h; exact .bl b
  | .int i, _, h => by cases h; exact .int i
  | .str x, _, h => by cases h; exact .str x
  | .list ds, _, h => by
    cases h with
    | lst h1 h2 => exact .lst h1 (DqAll.dp ds _ h2)
  | .tuple ds, _, h => by
    cases h with
    | tup h1 h2 => exact .tup h1.sq (DqAll.dp ds _ h2)
  | .dict _, _, h => by cases h
theorem DqAll.dp : ∀ (ds : List PyData) (vs : List V), DqAll K H vs ds → DpAll K H vs ds
  | [], _, h => by cases h; exact .nil
  | d :: ds, _, h => by
    cases h with
    | cons h1 h2 => exact .cons (Dq.dp d _ h1) (DqAll.dp ds _ h2)
end
theorem dqAll_strs : ∀ ns : List Str, DqAll K H (ns.map V.str) (ns.map PyData.str)
  | [] => .nil
  | n :: r => .cons (.str n) (dqAll_strs r)
theorem dqAll_len {ys : List V} {ds : List PyData} (h : DqAll K H ys ds) : ys.length = ds.length := dpAll_len (DqAll.dp _ _ h)
mutual
theorem Dq.keep0 (k : Kp [] H H') : ∀ (d : PyData) (v : V), Dq K H v d → Dq K H' v d
  | .none, _, h => by cases h; exact .non
  | .bool b, _, h => by cases h; exact .bl b
  | .int i, _, h => by cases h; exact .int i
  | .str x, _, h => by cases h; exact .str x
  | .list ds, _, h => by
    cases h with
    | lst h1 h2 => exact .lst (kp_sqL k (by simp) h1) (DqAll.keep0 k ds _ h2)
  | .tuple ds, _, h => by
    cases h with
    | tup h1 h2 => exact .tup (h1.keep0 k) (DqAll.keep0 k ds _ h2)
  | .dict _, _, h => by cases h
theorem DqAll.keep0 (k : Kp [] H H') : ∀ (ds : List PyData) (vs : List V), DqAll K H vs ds → DqAll K H' vs ds
  | [], _, h => by cases h; exact .nil
  | d :: ds, _, h => by
    cases h with
    | cons h1 h2 => exact .cons (Dq.keep0 k d _ h1) (DqAll.keep0 k ds _ h2)
end
mutual
theorem Dq.keepS (k : Kp S H H') (m : Mu H S) : ∀ (d : PyData) (v : V), noL d = true → Dq K H v d → Dq K H' v d
  | .none, _, _, h => by cases h; exact .non
  | .bool b, _, _, h => by cases h; exact .bl b
  | .int i, _, _, h => by cases h; exact .int i
  | .str x, _, _, h => by cases h; exact .str x
  | .list ds, _, n, h => by rw [noL] at n; cases n
  | .tuple ds, _, n, h => by
    rw [noL] at n
    cases h with
    | tup h1 h2 => exact .tup (h1.keepM k m) (DqAll.keepS k m ds _ n h2)
  | .dict _, _, _, h => by cases h
theorem DqAll.keepS (k : Kp S H H') (m : Mu H S) : ∀ (ds : List PyData) (vs : List V), noLs ds = true → DqAll K H vs ds → DqAll K H' vs ds
  | [], _, _, h => by cases h; exact .nil
  | d :: ds, _, n, h => by
    rw [noLs, Bool.and_eq_true] at n
    cases h with
    | cons h1 h2 => exact .cons (Dq.keepS k m d _ n.1 h1) (DqAll.keepS k m ds _ n.2 h2)
end
mutual
theorem shp_lay : ∀ d : PyData, shp d = true → d.canLay0 = true
  | .none, _ => by rw [PyData.canLay0]
  | .bool b, _ => by rw [PyData.canLay0]
  | .int i, _ => by rw [PyData.canLay0]
  | .str x, h => by rw [PyData.canLay0]; rw [shp] at h; exact h
  | .list ds, h => by rw [PyData.canLay0]; rw [shp] at h; exact shps_lay ds h
  | .tuple ds, h => by rw [PyData.canLay0]; rw [shp] at h; exact shps_lay ds h
  | .dict _, h => by rw [shp] at h; cases h
theorem shps_lay : ∀ ds : List PyData, shps ds = true → PyData.canLayAll0 ds = true
  | [], _ => by rw [PyData.canLayAll0]
  | d :: ds, h => by
    rw [shps, Bool.and_eq_true] at h
    rw [PyData.canLayAll0, shp_lay d h.1, shps_lay ds h.2]
    rfl
end
theorem shaped_of {d : PyData} (h : shp d = true) (n : d.depth ≤ 64) : PySem.SeqAt.shaped d = true := by
  rw [PySem.SeqAt.shaped, shp_lay d h]
  exact decide_eq_true n
theorem shps_mem : ∀ {ds : List PyData}, (∀ d ∈ ds, shp d = true) → shps ds = true
  | [], _ => by rw [shps]
  | d :: ds, h => by rw [shps, h d (List.mem_cons_self ..), shps_mem fun e m => h e (List.mem_cons_of_mem _ m)]; rfl
theorem noLs_mem : ∀ {ds : List PyData}, (∀ d ∈ ds, noL d = true) → noLs ds = true
  | [], _ => by rw [noLs]
  | d :: ds, h => by rw [noLs, h d (List.mem_cons_self ..), noLs_mem fun e m => h e (List.mem_cons_of_mem _ m)]; rfl
theorem depth_mem : ∀ {ds : List PyData} {n : Nat}, (∀ d ∈ ds, d.depth ≤ n) → PyData.depthAll ds ≤ n
  | [], n, _ => by rw [PyData.depthAll]; omega
  | d :: ds, n, h => by
    rw [PyData.depthAll]
    have := h d (List.mem_cons_self ..)
    have := depth_mem (ds := ds) (n := n) fun e m => h e (List.mem_cons_of_mem _ m)
    omega
/-! taken apart -/
theorem dp_int {v : V} {i : Int} (h : Dq K H v (.int i)) : v = .int i := by cases h; rfl
theorem dp_str {v : V} {i : Str} (h : Dq K H v (.str i)) : v = .str i := by cases h; rfl
theorem dp_tup {v : V} {ds : List PyData} (h : Dq K H v (.tuple ds)) : ∃ a xs, v = .ref a ∧ Tm H a xs ∧ DqAll K H xs ds := by
  cases h with
  | tup h1 h2 => exact ⟨_, _, rfl, h1, h2⟩
theorem dp_nil {xs : List V} (h : DqAll K H xs []) : xs = [] := by cases h; rfl
theorem dp_cons {xs : List V} {d : PyData} {ds : List PyData} (h : DqAll K H xs (d :: ds)) : ∃ v vs, xs = v :: vs ∧ Dq K H v d ∧ DqAll K H vs ds := by
  cases h with
  | cons h1 h2 => exact ⟨_, _, rfl, h1, h2⟩
theorem DqAll.append {xs ys : List V} {ds es : List PyData} (h : DqAll K H xs ds) (g : DqAll K H ys es) : DqAll K H (xs ++ ys) (ds ++ es) := by
  induction ds generalizing xs with
  | nil => cases h; exact g
  | cons d ds ih =>
    cases h with
    | cons h1 h2 => exact .cons h1 (ih h2)
theorem DqAll.at {xs : List V} {ds : List PyData} {i : Nat} {v : V} (h : DqAll K H xs ds) (e : xs[i]? = some v) : ∃ d, ds[i]? = some d ∧ Dq K H v d := by
  induction ds generalizing xs i with
  | nil => cases h; cases e
  | cons d ds ih =>
    cases h with
    | cons h1 h2 =>
      cases i with
      | zero => cases e; exact ⟨d, rfl, h1⟩
      | succ i => exact ih h2 e
theorem dpL_strs {l : Addr} {ns : List Str} (h : SqL K H l (ns.map V.str)) : Dq K H (.ref l) (.list (ns.map PyData.str)) := .lst h (dqAll_strs ns)
/-! compared with () and [] -/
variable {Q : VK}
theorem eqvAll_nil : ∀ ds : List PyData, PyData.eqvAll ds [] = ds.isEmpty
  | [] => by rw [PyData.eqvAll]; rfl
  | d :: ds => by rw [PyData.eqvAll]; rfl
theorem r_eqL0 {v : V} {e : Addr} {ds : List PyData} (h : Dq K H v (.list ds)) (s : shp (.list ds) = true) (n : (PyData.list ds).depth ≤ 64) (he : H e = some (.lst [])) (q : Q (.bl ds.isEmpty) H) : rEqD K v (.ref e) H Q :=
  ⟨_, _, Dq.dp _ _ h, .lst (.inl (.inl he)) .nil, shaped_of s n, by decide +kernel, by rw [PyData.eqv, eqvAll_nil]; exact q⟩
theorem r_neL0 {v : V} {e : Addr} {ds : List PyData} (h : Dq K H v (.list ds)) (s : shp (.list ds) = true) (n : (PyData.list ds).depth ≤ 64) (he : H e = some (.lst [])) (q : Q (.bl (!ds.isEmpty)) H) : rNeD K v (.ref e) H Q :=
  ⟨_, _, Dq.dp _ _ h, .lst (.inl (.inl he)) .nil, shaped_of s n, by decide +kernel, by rw [PyData.eqv, eqvAll_nil]; exact q⟩
theorem r_eqT0 {v : V} {e : Addr} {ds : List PyData} (h : Dq K H v (.tuple ds)) (s : shp (.tuple ds) = true) (n : (PyData.tuple ds).depth ≤ 64) (he : Tm H e []) (q : Q (.bl ds.isEmpty) H) : rEqD K v (.ref e) H Q :=
  ⟨_, _, Dq.dp _ _ h, .tup he.sq .nil, shaped_of s n, by decide +kernel, by rw [PyData.eqv, eqvAll_nil]; exact q⟩
theorem r_neT0 {v : V} {e : Addr} {ds : List PyData} (h : Dq K H v (.tuple ds)) (s : shp (.tuple ds) = true) (n : (PyData.tuple ds).depth ≤ 64) (he : Tm H e []) (q : Q (.bl (!ds.isEmpty)) H) : rNeD K v (.ref e) H Q :=
  ⟨_, _, Dq.dp _ _ h, .tup he.sq .nil, shaped_of s n, by decide +kernel, by rw [PyData.eqv, eqvAll_nil]; exact q⟩
/-! cells -/
theorem Cell.ok {c : Str} (h : Cell c) : PyData.strOk c = true := by
  rw [PyData.strOk, ← Array.all_toList, List.all_eq_true]
  intro x hx
  have := h.2.2 x hx
  exact decide_eq_true (by omega)
theorem Cells.shps {cs : List Str} (h : Cells cs) : shp (.list (cs.map PyData.str)) = true := by
  rw [shp]
  refine shps_mem fun d hd => ?_
  obtain ⟨c, hc, rfl⟩ := List.mem_map.mp hd
  rw [shp]
  exact (h.2 c hc).ok
theorem depth_strs (cs : List Str) : (PyData.list (cs.map PyData.str)).depth ≤ 1 := by
  rw [PyData.depth]
  have := depth_mem (ds := cs.map PyData.str) (n := 0) fun d hd => by
    obtain ⟨c, hc, rfl⟩ := List.mem_map.mp hd
    rw [PyData.depth]
    exact Nat.le_refl _
  omega
theorem Kp.dropT {S T : List Addr} {H H1 H2 : Hp} (k : Kp S H H1) (j : Kp T H1 H2) (h : ∀ a ∈ T, a ∈ S ∨ H a = none) : Kp S H H2 := fun a o n e => by
  refine j a o (fun z => ?_) (k a o n e)
  rcases h a z with q | q
  · exact n q
  · rw [q] at e
    cases e
theorem Kp.upd1 {S : List Addr} {H H1 : Hp} {p : Addr} {o : HO} (k : Kp S H H1) (h : p ∈ S ∨ H p = none) : Kp S H (L2.upd H1 p o) := Kp.dropT k (Kp.put (b := p)) fun a m => by
  have e : a = p := by simpa using m
  rw [e]
  exact h
theorem _root_.L2.Rx.Box.keepS {S : List Addr} {H H' : Hp} {b : Addr} {n : Nat} (B : Box H b n) (k : Kp S H H') (h : b ∉ S) : Box H' b n := by
  obtain ⟨o, s, c, e, r⟩ := B
  exact ⟨o, s, c, k b _ h e, r⟩
theorem _root_.L2.Rx.Box.mu {H : Hp} {b : Addr} {n : Nat} (B : Box H b n) : Mu H [b] := by
  obtain ⟨o, s, c, e, r⟩ := B
  exact Mu.lst e
theorem r_popAt {l : Addr} {xs : List V} {i : Int} {v : V} (h : H l = some (.lst xs)) (h0 : 0 ≤ i) (h1 : i < 1000000000) (e : xs[i.toNat]? = some v) (q : Q v (upd H l (.lst (xs.eraseIdx i.toNat)))) : rPopAt (.ref l) [.int i] H Q := by
  have hl : i.toNat < xs.length := (List.getElem?_eq_some_iff.mp e).1
  refine ⟨l, xs, i, i.toNat, v, rfl, rfl, h, by omega, by omega, ?_, e, q⟩
  simp [PySem.seqIndex?, show ¬ i < 0 by omega, h0]
  omega
theorem eraseIdx_map' {α β : Type} (f : α → β) : ∀ (xs : List α) (i : Nat), (xs.map f).eraseIdx i = (xs.eraseIdx i).map f
  | [], _ => rfl
  | x :: xs, 0 => rfl
  | x :: xs, i + 1 => by rw [List.map_cons, List.eraseIdx_cons_succ, List.eraseIdx_cons_succ, List.map_cons, eraseIdx_map' f xs i]
@[elab_as_elim] theorem gen_put {P : Hp → Prop} {H : Hp} {p : Addr} {o : HO} (h : ∀ H', Kp [p] H H' → H' p = some o → P H') : P (L2.upd H p o) := h _ Kp.put L2.upd_same
/-! ### trees -/
inductive Tr | lf | nd (c : Str) (bs : List (Int × Tr))
mutual
def Tr.d : Tr → PyData
  | .lf => .tuple []
  | .nd c bs => .tuple [.str c, .tuple (brd bs)]
def brd : List (Int × Tr) → List PyData
  | [] => []
  | (v, t) :: r => .tuple [.int v, t.d] :: brd r
end
theorem brd_eq : ∀ bs : List (Int × Tr), brd bs = bs.map fun p => .tuple [.int p.1, p.2.d]
  | [] => by rw [brd]; rfl
  | (v, t) :: r => by rw [brd, brd_eq r]; rfl
/-- a tree over these cells, each path of which is of at most n nodes -/
inductive Okt : Nat → List Str → Tr → Prop
  | lf (n : Nat) (cs : List Str) : Okt n cs .lf
  | nd {n : Nat} {cs cs' : List Str} {c : Str} {bs : List (Int × Tr)} : c ∈ cs → c ∉ cs' → (∀ x ∈ cs', x ∈ cs) → bs ≠ [] → bs.length ≤ 3 → (bs.map Prod.fst).Pairwise (· < ·) → (∀ p ∈ bs, 0 ≤ p.1 ∧ p.1 ≤ 1000000000) → (∀ p ∈ bs, Okt n cs' p.2) → Okt (n + 1) cs (.nd c bs)
theorem Okt.noL {n : Nat} {cs : List Str} {t : Tr} (h : Okt n cs t) : noL t.d = true := by
  induction h with
  | lf n cs => rw [Tr.d, Rx.noL, noLs]
  | nd h1 h2 h3 h4 h5 h6 h7 h8 ih =>
    rw [Tr.d, Rx.noL, noLs, noLs, noLs, Rx.noL, Rx.noL]
    rw [show noLs (brd _) = true from ?_]
    · rfl
    · refine noLs_mem fun d hd => ?_
      rw [brd_eq] at hd
      obtain ⟨p, hp, rfl⟩ := List.mem_map.mp hd
      rw [Rx.noL, noLs, noLs, noLs, Rx.noL, ih p hp]
      rfl
theorem Okt.shp {n : Nat} {cs : List Str} {t : Tr} (h : Okt n cs t) (hc : ∀ c ∈ cs, Cell c) : shp t.d = true := by
  induction h with
  | lf n cs => rw [Tr.d, Rx.shp, Rx.shps]
  | nd h1 h2 h3 h4 h5 h6 h7 h8 ih =>
    rw [Tr.d, Rx.shp, Rx.shps, Rx.shps, Rx.shps, Rx.shp, Rx.shp, (hc _ h1).ok]
    rw [show Rx.shps (brd _) = true from ?_]
    · rfl
    · refine shps_mem fun d hd => ?_
      rw [brd_eq] at hd
      obtain ⟨p, hp, rfl⟩ := List.mem_map.mp hd
      rw [Rx.shp, Rx.shps, Rx.shps, Rx.shps, Rx.shp, ih p hp fun c m => hc c (h3 c m)]
      rfl
theorem Okt.depth {n : Nat} {cs : List Str} {t : Tr} (h : Okt n cs t) : t.d.depth ≤ 3 * n + 1 := by
  induction h with
  | lf n cs => rw [Tr.d, PyData.depth, PyData.depthAll]; omega
  | @nd n cs cs' c bs h1 h2 h3 h4 h5 h6 h7 h8 ih =>
    rw [Tr.d, PyData.depth, PyData.depthAll, PyData.depthAll, PyData.depthAll, PyData.depth, PyData.depth]
    have : PyData.depthAll (brd bs) ≤ 3 * n + 2 := by
      refine depth_mem fun d hd => ?_
      rw [brd_eq] at hd
      obtain ⟨p, hp, rfl⟩ := List.mem_map.mp hd
      rw [PyData.depth, PyData.depthAll, PyData.depthAll, PyData.depthAll, PyData.depth]
      have := ih p hp
      omega
    omega
end
end L2.Rx

end
section
set_option Elab.async false
set_option linter.all false
set_option maxRecDepth 100000
set_option maxHeartbeats 4000000
local macro_rules | `(tactic| walk_at "rd1") => `(tactic| with_reducible first
  | refine L2.Rx.r_seq ?_ | refine L2.Rx.r_asg ?_ | refine L2.Rx.r_gname ?_ | refine L2.Rx.r_op ?_ | refine L2.Rx.r_c ?_
  | refine L2.Rx.r_var rfl ?_
  | refine L2.Rx.r_rI0 ?_ | refine L2.Rx.r_test ?_ | refine L2.Rx.r_bl ?_ | refine L2.Rx.r_if ?_ | refine L2.Rx.r_ret ?_
  | refine L2.Rx.r_cons ?_ | refine L2.Rx.r_nil ?_ | refine L2.Rx.r_call ?_ | refine L2.Rx.r_cb ?_ | refine L2.Rx.r_next ?_ | refine L2.Rx.r_drop ?_
  | refine L2.Rx.r_gsub ?_ | refine L2.Rx.r_tupF ?_ | refine L2.Rx.r_lst ?_ | refine L2.Rx.r_par ?_ | refine L2.Rx.r_par2 ?_
  | refine L2.Rx.r_un ?_ | refine L2.Rx.r_tb ?_ | refine L2.Rx.r_and ?_ | refine L2.Rx.r_or ?_ | refine L2.Rx.r_not ?_
  | refine L2.Rx.r_andV ?_ | refine L2.Rx.r_orV ?_ | refine L2.Rx.r_notV ?_ | refine L2.Rx.r_ifx ?_ | refine L2.Rx.r_chain ?_
  | refine L2.Rx.r_sl ?_ | refine L2.Rx.r_nopart ?_ | refine L2.Rx.r_part ?_ | refine L2.Rx.r_exint ?_ | refine L2.Rx.r_bm0 ?_ | refine L2.Rx.r_bm ?_
  | refine L2.Rx.r_lc ?_ | refine L2.Rx.r_rng1 ?_ | refine L2.Rx.r_yes ?_ | refine L2.Rx.r_tt ?_ | refine L2.Rx.r_ff ?_ | refine L2.Rx.r_m1 ?_ | refine L2.Rx.r_m0 ?_ | refine L2.Rx.r_isS ?_
  | (refine L2.Rx.r_wipe (by with_unfolding_all rfl) ?_) | (refine L2.Rx.r_tyL (by walk_at "hp") ?_)
  | refine L2.Rx.r_addS (by walk_at "len") ?_ | refine L2.Rx.r_lenS (by walk_at "len") ?_ | refine L2.Rx.r_slS (by walk_at "len") ?_
  | refine L2.Rx.r_dnotin ?_ | refine L2.Rx.r_dget ?_ | refine L2.Rx.r_dget1 ?_ | refine L2.Rx.r_dput ?_ | refine L2.Rx.r_dpop1 ?_ | refine L2.Rx.r_isN ?_
  | refine L2.Rx.r_for ?_ | refine L2.Rx.r_ilist ?_ | refine L2.Rx.r_itup ?_
  | refine L2.Rx.r_gcons ?_ | refine L2.Rx.r_gnil ?_ | (refine L2.Rx.r_gtupP (by assumption) (by walk_at "at") ?_)
  | (refine L2.Rx.r_rEq rfl ?_) | (refine L2.Rx.r_rNe rfl ?_)
  | refine L2.Rx.r_rU ?_ | refine L2.Rx.r_max2 ?_ | refine L2.Rx.r_min2 ?_ | refine L2.Rx.r_int1i ?_ | (refine L2.Rx.r_lenh (by walk_at "hp") ?_)
  | (refine L2.Rx.r_ixLh (by walk_at "hp") (by walk_at "at") ?_)
  | (refine L2.Rx.r_setL (by walk_at "hp") (by walk_at "at") ?_))
local macro_rules | `(tactic| walk_at "at") => `(tactic| with_unfolding_all rfl)
local macro_rules | `(tactic| walk_at "rd") => `(tactic| (repeat walk_at "rd1"))
local macro_rules | `(tactic| walk_at "hp") => `(tactic| first
  | assumption
  | exact L2.upd_same
  | (refine Eq.trans (L2.upd_ne ?_) ?_; (focus walk_at "ne"); (focus walk_at "hp"))
  | (refine L2.Rx.Kp.at0 (by assumption) ?_; walk_at "hp")
  | (refine L2.Rx.Kp.at1 (by assumption) ?_ ?_; (focus walk_at "ne"); (focus walk_at "hp")))
local macro_rules | `(tactic| walk_at "ne") => `(tactic| first
  | assumption | exact Ne.symm (by assumption)
  | (refine L2.ne_of_none (H := ?nH) (o := ?nO) ?nh ?nn; (case nn => assumption); (case nh => walk_at "hp"))
  | (refine Ne.symm (L2.ne_of_none (H := ?nH) (o := ?nO) ?nh ?nn); (case nn => assumption); (case nh => walk_at "hp")))
local macro_rules | `(tactic| walk_at "len") => `(tactic| (rw [PySem.sizeLine_eq]; omega))
local macro_rules | `(tactic| walk_at "nin") => `(tactic| first
  | exact List.not_mem_nil
  | (refine L2.Rx.nin1 ?_; walk_at "ne"))
local macro_rules | `(tactic| walk_at "none") => `(tactic| first
  | assumption
  | (refine L2.Rx.Kp.none0 (by assumption) ?_ ?_; (focus walk_at "nin"); (focus walk_at "none")))
namespace L2.Rx
open PySem PySem.Spec PyProof.Rows
theorem perm_map_lift {α β : Type} {f : α → β} {bs cs : List β} (h : bs.Perm cs) : ∀ {zs : List α}, cs = zs.map f → ∃ zs' : List α, zs'.Perm zs ∧ bs = zs'.map f := by
  induction h with
  | nil =>
    intro zs e
    exact ⟨zs, List.Perm.refl _, e⟩
  | @cons x l1 l2 h ih =>
    intro zs e
    cases zs with
    | nil => cases e
    | cons z zs =>
      injection e with e1 e2
      obtain ⟨zs', p, e3⟩ := ih e2
      exact ⟨z :: zs', p.cons z, by rw [List.map_cons, e1, e3]⟩
  | @swap x y l =>
    intro zs e
    cases zs with
    | nil => cases e
    | cons z zs =>
      injection e with e1 e2
      cases zs with
      | nil => cases e2
      | cons z2 zs =>
        injection e2 with e2 e3
        exact ⟨z2 :: z :: zs, List.Perm.swap _ _ _, by rw [List.map_cons, List.map_cons, e1, e2, e3]⟩
  | trans h1 h2 ih1 ih2 =>
    intro zs e
    obtain ⟨zs', p, e2⟩ := ih2 e
    obtain ⟨zs'', p2, e3⟩ := ih1 e2
    exact ⟨zs'', p2.trans p, e3⟩
section
variable {K : PySem.W.Frag} {H H' : Hp} {Q : VK} {σ : St}
theorem dpAll_mem {ys : List V} {ds : List PyData} : DqAll K H ys ds → ∀ z ∈ ds.zip ys, Dq K H z.2 z.1 := by
  intro h
  induction ds generalizing ys with
  | nil => intro z hz; cases h; cases hz
  | cons d ds ih =>
    intro z hz
    cases h with
    | cons h1 h2 =>
      rw [List.zip_cons_cons] at hz
      rcases List.mem_cons.mp hz with e | e
      · rw [e]
        exact h1
      · exact ih h2 z e
theorem dpAll_of {zs : List (PyData × V)} (h : ∀ z ∈ zs, Dq K H z.2 z.1) : DqAll K H (zs.map Prod.snd) (zs.map Prod.fst) := by
  induction zs with
  | nil => exact .nil
  | cons z zs ih => exact .cons (h z (List.mem_cons_self ..)) (ih fun y m => h y (List.mem_cons_of_mem _ m))
/-- sorted of data that stand for things of Lean -/
theorem r_sortD {α : Type} {enc : α → PyData} {a : Addr} {ys : List V} {as : List α} (hs : SqL K H a ys ∨ SqT K H a ys) (hd : DqAll K H ys (as.map enc)) (sb : Sb (as.map enc))
    (h : ∀ (p : Addr) (bs : List α) (ys' : List V), bs.Perm as → bs.Pairwise (fun x y => PySem.W.dataLt (enc y) (enc x) = false) → DqAll K H ys' (bs.map enc) → H p = none → Q (.ref p) (upd H p (.lst ys'))) : rSortV K [.ref a] H Q := by
  refine r_sort hs (DqAll.dp _ _ hd) sb fun p zs hp hw np => ?_
  have hl : ys.length = (as.map enc).length := dqAll_len hd
  have e1 : (zs.map Prod.fst).Perm (as.map enc) := by
    have := hp.map Prod.fst
    rw [zip_fst _ _ hl] at this
    exact this
  obtain ⟨bs, pb, eb⟩ := perm_map_lift e1 rfl
  refine h p bs _ pb ?_ ?_ np
  · have : (zs.map Prod.fst).Pairwise (fun a b => PySem.W.dataLt b a = false) := by
      rw [List.pairwise_map]
      exact hw
    rw [eb, List.pairwise_map] at this
    exact this
  · rw [← eb]
    exact dpAll_of fun z hz => dpAll_mem hd z (hp.mem_iff.mp hz)
theorem r_extend {l b : Addr} {xs zs : List V} (h : H l = some (.lst xs)) (g : H b = some (.lst zs)) (z : xs.length + zs.length ≤ 1000000) (q : Q .non (upd H l (.lst (xs ++ zs)))) : rExtend (.ref l) [.ref b] H Q :=
  ⟨l, b, xs, zs, rfl, rfl, h, g, by rw [sizeLine_eq]; omega, q⟩
theorem r_pop {l : Addr} {xs : List V} {y : V} (h : H l = some (.lst (xs ++ [y]))) (q : Q y (upd H l (.lst xs))) : rPop (.ref l) [] H Q := by
  refine ⟨l, xs ++ [y], y, rfl, rfl, h, ?_, ?_⟩
  · rw [List.length_append, List.length_singleton, Nat.add_sub_cancel, List.getElem?_append_right (Nat.le_refl _), Nat.sub_self]
    rfl
  · rw [List.dropLast_concat]
    exact q
theorem r_ixT {p : Addr} {xs : List V} {i : Int} {v : V} (h : SqT K H p xs) (a : atI xs i = some v) (q : Q v H) : rIxT K (.ref p) (.int i) H Q := ⟨p, xs, i, v, rfl, rfl, h, a, q⟩
theorem r_while {c : TT} {tb : TS} {D : Ends} (h : ∃ W : Nat → St → Hp → Prop, (∃ m, W m σ H) ∧ ∀ m σ H, W m σ H →
  c σ H fun b H1 => if b = true then ∃ N : St → Hp → Prop, (∀ σ' H', N σ' H' → ∃ m', m' < m ∧ W m' σ' H') ∧ tb { D with nx := N, ct := N, bk := D.nx } σ H1 else D.nx σ H1) : tWhile c tb D σ H := h
/-! ### pairs, logs, paths -/
def prD (z : Str × Int) : PyData := .tuple [.str z.1, .int z.2]
def logD (l : List (Str × Int)) : PyData := .tuple (l.map prD)
mutual
def Tr.paths : Tr → List (List (Str × Int))
  | .lf => [[]]
  | .nd c bs => brp c bs
def brp (c : Str) : List (Int × Tr) → List (List (Str × Int))
  | [] => []
  | (v, t) :: r => t.paths.map ((c, v) :: ·) ++ brp c r
end
mutual
def Tr.size : Tr → Nat
  | .lf => 1
  | .nd _ bs => 1 + brz bs
def brz : List (Int × Tr) → Nat
  | [] => 0
  | (_, t) :: r => t.size + brz r
end
theorem brp_eq (c : Str) : ∀ bs : List (Int × Tr), brp c bs = bs.flatMap fun z => z.2.paths.map ((c, z.1) :: ·)
  | [] => by rw [brp]; rfl
  | (v, t) :: r => by rw [brp, brp_eq c r]; rfl
theorem brz_eq : ∀ bs : List (Int × Tr), brz bs = (bs.map fun z => z.2.size).sum
  | [] => by rw [brz]; rfl
  | (v, t) :: r => by rw [brz, brz_eq r, List.map_cons, List.sum_cons]
theorem Okt.paths_pos {n : Nat} {cs : List Str} {t : Tr} (h : Okt n cs t) : 1 ≤ t.paths.length := by
  induction h with
  | lf n cs => rw [Tr.paths]; exact Nat.le_refl _
  | @nd n cs cs' c bs h1 h2 h3 h4 h5 h6 h7 h8 ih =>
    cases bs with
    | nil => exact absurd rfl h4
    | cons z r =>
      obtain ⟨v, t⟩ := z
      rw [Tr.paths, brp, List.length_append, List.length_map]
      have := ih (v, t) (List.mem_cons_self ..)
      show 1 ≤ t.paths.length + _
      have : 1 ≤ t.paths.length := this
      omega
theorem Okt.paths_le {n : Nat} {cs : List Str} {t : Tr} (h : Okt n cs t) : t.paths.length ≤ 3 ^ n := by
  induction h with
  | lf n cs => rw [Tr.paths]; exact Nat.one_le_pow _ _ (by decide)
  | @nd n cs cs' c bs h1 h2 h3 h4 h5 h6 h7 h8 ih =>
    have : ∀ r : List (Int × Tr), (∀ z ∈ r, z.2.paths.length ≤ 3 ^ n) → (brp c r).length ≤ r.length * 3 ^ n := by
      intro r
      induction r with
      | nil => intro _; rw [brp]; simp
      | cons z r ihr =>
        intro hz
        obtain ⟨v, t⟩ := z
        rw [brp, List.length_append, List.length_map, List.length_cons, Nat.succ_mul]
        have a := ihr fun y m => hz y (List.mem_cons_of_mem _ m)
        have b : t.paths.length ≤ 3 ^ n := hz (v, t) (List.mem_cons_self ..)
        omega
    have a := this bs ih
    have b : bs.length * 3 ^ n ≤ 3 * 3 ^ n := Nat.mul_le_mul_right _ h5
    rw [Tr.paths, Nat.pow_succ]
    omega
theorem pair_noL (z : Str × Int) : noL (prD z) = true := by rw [prD, noL, noLs, noLs, noLs, noL, noL]; rfl
theorem log_noL (l : List (Str × Int)) : noL (logD l) = true := by
  rw [logD, noL]
  refine noLs_mem fun d hd => ?_
  obtain ⟨z, _, rfl⟩ := List.mem_map.mp hd
  exact pair_noL z
theorem pair_depth (z : Str × Int) : (prD z).depth = 1 := by
  rw [prD, PyData.depth, PyData.depthAll, PyData.depthAll, PyData.depthAll, PyData.depth, PyData.depth]
  rfl
theorem log_depth (l : List (Str × Int)) : (logD l).depth ≤ 2 := by
  rw [logD, PyData.depth]
  have := depth_mem (ds := l.map prD) (n := 1) fun d hd => by
    obtain ⟨z, _, rfl⟩ := List.mem_map.mp hd
    rw [pair_depth]
    exact Nat.le_refl _
  omega
theorem pair_alike (x y : Str × Int) : PySem.W.alike (prD x) (prD y) = true := by
  simp [prD, PySem.W.alike, PySem.W.alikeAll]
theorem pairs_alikeAll : ∀ l m : List (Str × Int), PySem.W.alikeAll (l.map prD) (m.map prD) = true
  | [], _ => by rw [List.map_nil, PySem.W.alikeAll]
  | _ :: _, [] => by rw [List.map_cons, List.map_nil, PySem.W.alikeAll]
  | x :: l, y :: m => by rw [List.map_cons, List.map_cons, PySem.W.alikeAll, pair_alike, pairs_alikeAll l m]; rfl
theorem log_alike (l m : List (Str × Int)) : PySem.W.alike (logD l) (logD m) = true := by
  rw [logD, logD, PySem.W.alike]
  exact pairs_alikeAll l m
theorem sb_pairs (l : List (Str × Int)) : Sb (l.map prD) := by
  refine ⟨PySem.W.AllAlike.of fun _ _ => pair_alike _ _, fun d hd => ?_, .inl (PySem.W.Sortable.tuples fun z => ⟨_, _, rfl⟩)⟩
  obtain ⟨z, _, rfl⟩ := List.mem_map.mp hd
  exact ⟨by rw [pair_depth]; decide, by rw [prD]; exact fun z => nomatch z⟩
theorem sb_logs (ls : List (List (Str × Int))) (h : (∀ l ∈ ls, l ≠ []) ∨ ls.length < 2) : Sb (ls.map logD) := by
  refine ⟨PySem.W.AllAlike.of fun _ _ => log_alike _ _, fun d hd => ?_, ?_⟩
  · obtain ⟨z, _, rfl⟩ := List.mem_map.mp hd
    exact ⟨Nat.le_trans (log_depth z) (by decide), by rw [logD]; exact fun z => nomatch z⟩
  · rcases h with h | h
    · refine .inl (.inl fun d hd => ?_)
      obtain ⟨l, hl, rfl⟩ := List.mem_map.mp hd
      cases l with
      | nil => exact absurd rfl (h _ hl)
      | cons z r => exact ⟨prD z, r.map prD, rfl⟩
    · right
      rw [List.length_map]
      exact h
end
end L2.Rx

end
section
set_option Elab.async false
set_option linter.all false
set_option maxRecDepth 100000
set_option maxHeartbeats 4000000
local macro_rules | `(tactic| walk_at "rd1") => `(tactic| with_reducible first
  | refine L2.Rx.r_seq ?_ | refine L2.Rx.r_asg ?_ | refine L2.Rx.r_gname ?_ | refine L2.Rx.r_op ?_ | refine L2.Rx.r_c ?_
  | refine L2.Rx.r_var rfl ?_
  | refine L2.Rx.r_rI0 ?_ | refine L2.Rx.r_test ?_ | refine L2.Rx.r_bl ?_ | refine L2.Rx.r_if ?_ | refine L2.Rx.r_ret ?_
  | refine L2.Rx.r_cons ?_ | refine L2.Rx.r_nil ?_ | refine L2.Rx.r_call ?_ | refine L2.Rx.r_cb ?_ | refine L2.Rx.r_next ?_ | refine L2.Rx.r_drop ?_
  | refine L2.Rx.r_gsub ?_ | refine L2.Rx.r_tupF ?_ | refine L2.Rx.r_lst ?_ | refine L2.Rx.r_par ?_ | refine L2.Rx.r_par2 ?_
  | refine L2.Rx.r_un ?_ | refine L2.Rx.r_tb ?_ | refine L2.Rx.r_and ?_ | refine L2.Rx.r_or ?_ | refine L2.Rx.r_not ?_
  | refine L2.Rx.r_andV ?_ | refine L2.Rx.r_orV ?_ | refine L2.Rx.r_notV ?_ | refine L2.Rx.r_ifx ?_ | refine L2.Rx.r_chain ?_
  | refine L2.Rx.r_sl ?_ | refine L2.Rx.r_nopart ?_ | refine L2.Rx.r_part ?_ | refine L2.Rx.r_exint ?_ | refine L2.Rx.r_bm0 ?_ | refine L2.Rx.r_bm ?_
  | refine L2.Rx.r_lc ?_ | refine L2.Rx.r_rng1 ?_ | refine L2.Rx.r_yes ?_ | refine L2.Rx.r_tt ?_ | refine L2.Rx.r_ff ?_ | refine L2.Rx.r_m1 ?_ | refine L2.Rx.r_m0 ?_ | refine L2.Rx.r_isS ?_
  | (refine L2.Rx.r_wipe (by with_unfolding_all rfl) ?_) | (refine L2.Rx.r_tyL (by walk_at "hp") ?_)
  | refine L2.Rx.r_addS (by walk_at "len") ?_ | refine L2.Rx.r_lenS (by walk_at "len") ?_ | refine L2.Rx.r_slS (by walk_at "len") ?_
  | refine L2.Rx.r_dnotin ?_ | refine L2.Rx.r_dget ?_ | refine L2.Rx.r_dget1 ?_ | refine L2.Rx.r_dput ?_ | refine L2.Rx.r_dpop1 ?_ | refine L2.Rx.r_isN ?_
  | refine L2.Rx.r_for ?_ | refine L2.Rx.r_ilist ?_ | refine L2.Rx.r_itup ?_
  | refine L2.Rx.r_gcons ?_ | refine L2.Rx.r_gnil ?_ | (refine L2.Rx.r_gtupP (by assumption) (by walk_at "at") ?_)
  | (refine L2.Rx.r_rEq rfl ?_) | (refine L2.Rx.r_rNe rfl ?_)
  | refine L2.Rx.r_rU ?_ | refine L2.Rx.r_max2 ?_ | refine L2.Rx.r_min2 ?_ | refine L2.Rx.r_int1i ?_ | (refine L2.Rx.r_lenh (by walk_at "hp") ?_)
  | (refine L2.Rx.r_ixLh (by walk_at "hp") (by walk_at "at") ?_)
  | (refine L2.Rx.r_setL (by walk_at "hp") (by walk_at "at") ?_))
local macro_rules | `(tactic| walk_at "at") => `(tactic| with_unfolding_all rfl)
local macro_rules | `(tactic| walk_at "rd") => `(tactic| (repeat walk_at "rd1"))
local macro_rules | `(tactic| walk_at "hp") => `(tactic| first
  | assumption
  | exact L2.upd_same
  | (refine Eq.trans (L2.upd_ne ?_) ?_; (focus walk_at "ne"); (focus walk_at "hp"))
  | (refine L2.Rx.Kp.at0 (by assumption) ?_; walk_at "hp")
  | (refine L2.Rx.Kp.at1 (by assumption) ?_ ?_; (focus walk_at "ne"); (focus walk_at "hp")))
local macro_rules | `(tactic| walk_at "ne") => `(tactic| first
  | assumption | exact Ne.symm (by assumption)
  | (refine L2.ne_of_none (H := ?nH) (o := ?nO) ?nh ?nn; (case nn => assumption); (case nh => walk_at "hp"))
  | (refine Ne.symm (L2.ne_of_none (H := ?nH) (o := ?nO) ?nh ?nn); (case nn => assumption); (case nh => walk_at "hp")))
local macro_rules | `(tactic| walk_at "len") => `(tactic| (rw [PySem.sizeLine_eq]; omega))
local macro_rules | `(tactic| walk_at "nin") => `(tactic| first
  | exact List.not_mem_nil
  | (refine L2.Rx.nin1 ?_; walk_at "ne"))
local macro_rules | `(tactic| walk_at "none") => `(tactic| first
  | assumption
  | (refine L2.Rx.Kp.none0 (by assumption) ?_ ?_; (focus walk_at "nin"); (focus walk_at "none")))
namespace L2.Rx
open PySem PySem.Spec PyProof.Rows
theorem ms_1 {X : Cx} {o : Expr} {m : Str} {apos : Pos} {e : Expr} {cpos : Pos} (h1 : attributeBase o m X.env (eval o X.env) = eval o X.env := by rfl)
    (h2 : ((backTo cpos (starEach [e] X.env)).all (fun x => !x.1) && (backToKw cpos (keywordEach [] X.env)).all (fun x => x.1.isSome) && decide (([e] : List Expr).length + ([] : List Keyword).length + (if ([] : List Keyword).isEmpty then 0 else 1) < 30)) = true := by rfl)
    (h3 : (apos.endLine == cpos.line) = true := by rfl) (h4 : backTo cpos (starEach [e] X.env) = [(false, eval e X.env)] := by rfl) : M1 X o m apos e cpos := ⟨h1, h2, h3, h4⟩
/-! ### dicts, in words -/
section
variable {σ : St} {H : Hp} {Q : VK} {K : PySem.W.Frag}
theorem r_dnotin {ty td : TE} (h : ty σ H fun y H1 => td σ H1 fun x H2 => ∃ a o, x = .ref a ∧ DGet H2 a y o ∧ Q (.bl (!o.isSome)) H2) : tDNotIn ty td σ H Q := h
theorem r_dget {ty td : TE} (h : td σ H fun x H1 => ty σ H1 fun y H2 => ∃ a v, x = .ref a ∧ DGet H2 a y (some v) ∧ Q v H2) : tDGet td ty σ H Q := h
theorem r_dget1 {ty td : TE} (h : td σ H fun x H1 => ∃ a, x = .ref a ∧ IsD H1 a ∧ ty σ H1 fun y H2 => ∃ o, DGet H2 a y o ∧ Q (o.getD .non) H2) : tDGet1 td ty σ H Q := h
theorem r_dhas {a : Addr} {kvs : List (Key × V)} {c : Str} {q : Option V → Prop} (e : H a = some (.dK kvs)) (h : q (valV kvs (.inr c))) : ∃ a' o, V.ref a = .ref a' ∧ DGet H a' (.str c) o ∧ q o := ⟨a, _, rfl, DGet.k (k := .inr c) e, h⟩
theorem r_dat {a : Addr} {kvs : List (Key × V)} {c : Str} {v : V} {q : V → Prop} (e : H a = some (.dK kvs)) (g : valV kvs (.inr c) = some v) (h : q v) : ∃ a' v, V.ref a = .ref a' ∧ DGet H a' (.str c) (some v) ∧ q v := by
  refine ⟨a, v, rfl, ?_, h⟩
  rw [← g]
  exact DGet.k (k := .inr c) e
theorem r_dref {a : Addr} {kvs : List (Key × V)} {q : Addr → Prop} (e : H a = some (.dK kvs)) (h : q a) : ∃ a', V.ref a = .ref a' ∧ IsD H a' ∧ q a' := ⟨a, rfl, .inl ⟨kvs, .inl e⟩, h⟩
theorem r_dgetI {a : Addr} {kvs : List (Key × V)} {i : Int} {q : Option V → Prop} (e : H a = some (.dK kvs)) (h : q (valV kvs (.inl i))) : ∃ o, DGet H a (.int i) o ∧ q o := ⟨_, DGet.k (k := .inl i) e, h⟩
theorem r_isN {A : Prop} (h : A) : V.non = V.non ∧ A := ⟨rfl, h⟩
end
theorem mergeK_app : ∀ (kvs acc : List (Key × V)), ((acc ++ kvs).map Prod.fst).Nodup → mergeK acc kvs = acc ++ kvs
  | [], acc, _ => by rw [List.append_nil]; rfl
  | kv :: kvs, acc, h => by
    have e : putK acc kv.1 kv.2 = acc ++ [kv] := by
      unfold putK
      rw [if_neg]
      intro z
      obtain ⟨x, hx, e⟩ := List.any_eq_true.mp z
      have e' := of_decide_eq_true e
      rw [List.map_append, List.nodup_append] at h
      exact h.2.2 x.1 (List.mem_map_of_mem hx) kv.1 (List.mem_map_of_mem (List.mem_cons_self ..)) e'
    show mergeK (putK acc kv.1 kv.2) kvs = _
    rw [e, mergeK_app kvs (acc ++ [kv]) (by rw [List.append_assoc]; exact h), List.append_assoc]
    rfl
theorem mergeK_nd {kvs : List (Key × V)} (h : (kvs.map Prod.fst).Nodup) : mergeK [] kvs = kvs := mergeK_app kvs [] h
/-! ### a run of a reader -/
def lookB (bs : List (Int × Tr)) (i : Int) : Option Tr := (bs.find? fun z => decide (z.1 = i)).map (·.2)
def run (env : Str → Option Int) : Nat → Tr → List Str → Str × List Str × Option Str
  | 0, _, acc => (Str.ofString "done", acc, none)
  | _ + 1, .lf, acc => (Str.ofString "done", acc, none)
  | n + 1, .nd c bs, acc => match env c with
    | none => (Str.ofString "unknown", acc, some c)
    | some i => match lookB bs i with
      | none => (Str.ofString "open", acc ++ [c], some c)
      | some t => run env n t (acc ++ [c])
def resD (r : Str × List Str × Option Str) : PyData := .tuple [.str r.1, .tuple (r.2.1.map PyData.str), match r.2.2 with | none => .none | some c => .str c]
theorem run_lf (env : Str → Option Int) (n : Nat) (acc : List Str) : run env n .lf acc = (Str.ofString "done", acc, none) := by
  cases n <;> rfl
theorem run_u {env : Str → Option Int} {n : Nat} {c : Str} {bs : List (Int × Tr)} {acc : List Str} (h : env c = none) : run env (n + 1) (.nd c bs) acc = (Str.ofString "unknown", acc, some c) := by
  rw [run, h]
theorem run_o {env : Str → Option Int} {n : Nat} {c : Str} {bs : List (Int × Tr)} {acc : List Str} {i : Int} (h : env c = some i) (g : lookB bs i = none) : run env (n + 1) (.nd c bs) acc = (Str.ofString "open", acc ++ [c], some c) := by
  rw [run, h]
  simp only [g]
theorem run_g {env : Str → Option Int} {n : Nat} {c : Str} {bs : List (Int × Tr)} {acc : List Str} {i : Int} {t : Tr} (h : env c = some i) (g : lookB bs i = some t) : run env (n + 1) (.nd c bs) acc = run env n t (acc ++ [c]) := by
  rw [run, h]
  simp only [g]
/-- what a dict of ints says of a cell -/
def envK (kvs : List (Key × V)) (c : Str) : Option Int := match valV kvs (.inr c) with
  | some (.int i) => some i
  | _ => none
def IntVals (kvs : List (Key × V)) : Prop := ∀ k v, valV kvs k = some v → ∃ i, v = .int i
theorem env_none {kvs : List (Key × V)} {c : Str} (h : valV kvs (.inr c) = none) : envK kvs c = none := by
  unfold envK
  rw [h]
theorem env_some {kvs : List (Key × V)} {c : Str} {i : Int} (h : valV kvs (.inr c) = some (.int i)) : envK kvs c = some i := by
  unfold envK
  rw [h]
theorem lookB_mem {bs : List (Int × Tr)} {i : Int} {t : Tr} (h : lookB bs i = some t) : ∃ z ∈ bs, z.1 = i ∧ z.2 = t := by
  unfold lookB at h
  cases e : bs.find? fun z => decide (z.1 = i) with
  | none => rw [e] at h; cases h
  | some z =>
    rw [e] at h
    exact ⟨z, List.mem_of_find?_eq_some e, of_decide_eq_true (List.find?_some (p := fun z : Int × Tr => decide (z.1 = i)) e), Option.some.inj h⟩
theorem brs_pairs {K : PySem.W.Frag} {H : Hp} : ∀ {bs : List (Int × Tr)} {bys : List V}, DqAll K H bys (brd bs) → ∃ (ps : List Addr) (kvs : List (Key × V)), bys = ps.map V.ref ∧ Paired (fun p kv => SqT K H p [kV kv.1, kv.2]) ps kvs ∧ kvs.map Prod.fst = bs.map (fun z => .inl z.1) ∧
    ∀ i, (valV kvs (.inl i) = none ∧ lookB bs i = none) ∨ ∃ a t, valV kvs (.inl i) = some (.ref a) ∧ lookB bs i = some t ∧ Dq K H (.ref a) t.d
  | [], bys, h => by
    rw [brd] at h
    obtain rfl := dp_nil h
    exact ⟨[], [], rfl, .nil, rfl, fun i => .inl ⟨rfl, rfl⟩⟩
  | (v, t) :: r, bys, h => by
    rw [brd] at h
    obtain ⟨x, vs, rfl, dx, dr⟩ := dp_cons h
    obtain ⟨ps, kvs, e1, pr, ek, look⟩ := brs_pairs dr
    obtain ⟨a, _, rfl, sa, d1⟩ := dp_tup dx
    obtain ⟨y, _, rfl, dv, d2⟩ := dp_cons d1
    obtain rfl := dp_int dv
    obtain ⟨w, _, rfl, dw, d3⟩ := dp_cons d2
    obtain rfl := dp_nil d3
    obtain ⟨wa, rfl⟩ : ∃ wa, w = .ref wa := by
      cases t with
      | lf => rw [Tr.d] at dw; obtain ⟨a, _, e, _⟩ := dp_tup dw; exact ⟨a, e⟩
      | nd c bs => rw [Tr.d] at dw; obtain ⟨a, _, e, _⟩ := dp_tup dw; exact ⟨a, e⟩
    refine ⟨a :: ps, (.inl v, .ref wa) :: kvs, by rw [e1]; rfl, .cons sa.sq pr, by rw [List.map_cons, List.map_cons, ek], fun i => ?_⟩
    by_cases hv : v = i
    · subst hv
      exact .inr ⟨wa, t, by simp [valV], by simp [lookB], dw⟩
    · have h1 : valV ((Sum.inl v, V.ref wa) :: kvs) (.inl i) = valV kvs (.inl i) := by simp [valV, hv]
      have h2 : lookB ((v, t) :: r) i = lookB r i := by simp [lookB, hv]
      rw [h1, h2]
      exact look i
/-- dict(l), l the pairs of a log -/
def kvsL (l : List (Str × Int)) : List (Key × V) := l.map fun z => (.inr z.1, .int z.2)
theorem log_pairs {K : PySem.W.Frag} {H : Hp} : ∀ {l : List (Str × Int)} {ys : List V}, DqAll K H ys (l.map prD) → ∃ ps : List Addr, ys = ps.map V.ref ∧ Paired (fun p kv => SqT K H p [kV kv.1, kv.2]) ps (kvsL l)
  | [], ys, h => by
    obtain rfl := dp_nil h
    exact ⟨[], rfl, .nil⟩
  | z :: r, ys, h => by
    obtain ⟨x, vs, rfl, dx, dr⟩ := dp_cons h
    obtain ⟨ps, e1, pr⟩ := log_pairs dr
    obtain ⟨a, _, rfl, sa, d1⟩ := dp_tup dx
    obtain ⟨y, _, rfl, dv, d2⟩ := dp_cons d1
    obtain rfl := dp_str dv
    obtain ⟨w, _, rfl, dw, d3⟩ := dp_cons d2
    obtain rfl := dp_int dw
    obtain rfl := dp_nil d3
    exact ⟨a :: ps, by rw [e1]; rfl, .cons sa.sq pr⟩
theorem putK_int {kvs : List (Key × V)} {k : Key} {i : Int} (h : ∀ kv ∈ kvs, ∃ i, kv.2 = V.int i) : ∀ kv ∈ putK kvs k (.int i), ∃ i, kv.2 = V.int i := by
  intro kv hkv
  unfold putK at hkv
  split at hkv
  · obtain ⟨x, hx, rfl⟩ := List.mem_map.mp hkv
    split
    · exact ⟨i, rfl⟩
    · exact h x hx
  · rcases List.mem_append.mp hkv with q | q
    · exact h kv q
    · have e : kv = (k, .int i) := by simpa using q
      subst e
      exact ⟨i, rfl⟩
theorem mergeK_int : ∀ {more kvs : List (Key × V)}, (∀ kv ∈ kvs, ∃ i, kv.2 = V.int i) → (∀ kv ∈ more, ∃ i, kv.2 = V.int i) → ∀ kv ∈ mergeK kvs more, ∃ i, kv.2 = V.int i
  | [], kvs, h, _ => h
  | m :: more, kvs, h, g => by
    obtain ⟨i, e⟩ := g m (List.mem_cons_self ..)
    show ∀ kv ∈ mergeK (putK kvs m.1 m.2) more, _
    rw [e]
    exact mergeK_int (putK_int h) fun kv q => g kv (List.mem_cons_of_mem _ q)
theorem intVals_of {kvs : List (Key × V)} (h : ∀ kv ∈ kvs, ∃ i, kv.2 = V.int i) : IntVals kvs := by
  intro k v e
  unfold valV at e
  cases f : kvs.find? fun kv => decide (kv.1 = k) with
  | none => rw [f] at e; cases e
  | some kv =>
    rw [f] at e
    obtain ⟨i, q⟩ := h kv (List.mem_of_find?_eq_some f)
    exact ⟨i, by rw [← q]; exact (Option.some.inj e).symm⟩
theorem intVals_log (l : List (Str × Int)) : IntVals (mergeK [] (kvsL l)) := intVals_of (mergeK_int (fun _ h => nomatch h) fun kv h => by
  obtain ⟨z, _, rfl⟩ := List.mem_map.mp h
  exact ⟨z.2, rfl⟩)
/-! ### dicts of texts and ints -/
def putE (es : List (Str × Int)) (c : Str) (i : Int) : List (Str × Int) := if (es.any fun z => decide (z.1 = c)) = true then es.map (fun z => if z.1 = c then (z.1, i) else z) else es ++ [(c, i)]
theorem putK_L (es : List (Str × Int)) (c : Str) (i : Int) : putK (kvsL es) (.inr c) (.int i) = kvsL (putE es c i) := by
  have e : ((kvsL es).any fun kv => decide (kv.1 = Sum.inr c)) = es.any fun z => decide (z.1 = c) := by
    rw [kvsL, List.any_map]
    congr 1
    funext z
    simp
  unfold putK putE
  rw [e]
  split
  · rw [kvsL, kvsL, List.map_map, List.map_map]
    refine List.map_congr_left fun z _ => ?_
    show (if (Sum.inr z.1 : Key) = Sum.inr c then _ else _) = _
    by_cases h : z.1 = c
    · rw [if_pos (by rw [h])]
      simp [h]
    · rw [if_neg (fun q => h (Sum.inr.inj q))]
      simp [h]
  · rw [kvsL, kvsL, List.map_append]
    rfl
theorem putE_len (es : List (Str × Int)) (c : Str) (i : Int) : (putE es c i).length ≤ es.length + 1 := by
  unfold putE
  split
  · rw [List.length_map]
    omega
  · rw [List.length_append]
    exact Nat.le_refl _
theorem putE_has (es : List (Str × Int)) (c : Str) (i : Int) : c ∈ (putE es c i).map Prod.fst ∧ ∀ x ∈ es.map Prod.fst, x ∈ (putE es c i).map Prod.fst := by
  unfold putE
  split
  · next h =>
    obtain ⟨z, hz, e⟩ := List.any_eq_true.mp h
    have e' := of_decide_eq_true e
    have same : (es.map (fun z => if z.1 = c then (z.1, i) else z)).map Prod.fst = es.map Prod.fst := by
      rw [List.map_map]
      refine List.map_congr_left fun z _ => ?_
      show (if z.1 = c then (z.1, i) else z).1 = z.1
      split <;> rfl
    rw [same]
    exact ⟨e' ▸ List.mem_map_of_mem hz, fun x hx => hx⟩
  · rw [List.map_append]
    exact ⟨List.mem_append_right _ (List.mem_cons_self ..), fun x hx => List.mem_append_left _ hx⟩
theorem mergeK_L : ∀ (l acc : List (Str × Int)), ∃ es, mergeK (kvsL acc) (kvsL l) = kvsL es ∧ es.length ≤ acc.length + l.length ∧ ∀ x, x ∈ acc.map Prod.fst ∨ x ∈ l.map Prod.fst → x ∈ es.map Prod.fst
  | [], acc => ⟨acc, rfl, Nat.le_refl _, fun x h => h.elim id fun z => nomatch z⟩
  | z :: l, acc => by
    obtain ⟨es, e, hl, hm⟩ := mergeK_L l (putE acc z.1 z.2)
    have z1 := putE_len acc z.1 z.2
    have z2 := putE_has acc z.1 z.2
    refine ⟨es, ?_, by rw [List.length_cons]; omega, fun x hx => hm x ?_⟩
    · rw [← e, ← putK_L]
      rfl
    · rcases hx with h | h
      · exact .inl (z2.2 x h)
      · rw [List.map_cons] at h
        rcases List.mem_cons.mp h with q | q
        · exact .inl (q ▸ z2.1)
        · exact .inr q
theorem valV_L {es : List (Str × Int)} {c : Str} (h : c ∈ es.map Prod.fst) : ∃ i, valV (kvsL es) (.inr c) = some (.int i) := by
  induction es with
  | nil => cases h
  | cons z r ih =>
    by_cases e : z.1 = c
    · exact ⟨z.2, by simp [valV, kvsL, e]⟩
    · rw [List.map_cons] at h
      obtain ⟨i, hi⟩ := ih ((List.mem_cons.mp h).resolve_left fun q => e q.symm)
      refine ⟨i, ?_⟩
      rw [← hi]
      simp [valV, kvsL, e]
theorem dropK_L (es : List (Str × Int)) (c : Str) : ∃ es', dropK (kvsL es) (.inr c) = kvsL es' ∧ es'.length ≤ es.length := by
  refine ⟨es.filter fun z => decide (z.1 ≠ c), ?_, List.length_filter_le _ _⟩
  unfold dropK
  rw [kvsL, kvsL, List.filter_map]
  congr 1
  refine List.filter_congr fun z _ => ?_
  simp
def rSortDS : List V → Hp → VK → Prop := fun xs H Q => ∃ (a : Addr) (kvs : List (Key × V)) (ks : List Str), xs = [.ref a] ∧ Rd H a (.dK kvs) ∧ kvs.map (·.1) = ks.map Sum.inr ∧ ks.length < 64 ∧
    ∀ ys p, ys.Perm ks → sortedS ys = true → H p = none → Q (.ref p) (upd H p (.lst (ys.map V.str)))
theorem c_sortDS {X : Cx} (hcalm : X.calm = true) : CallR X (.builtin "sorted") rSortDS := call_sortedD hcalm
section
variable {σ : St} {H : Hp} {Q : VK} {K : PySem.W.Frag} {nx : St → Hp → Prop} {rt : VK} {bk ct : St → Hp → Prop}
theorem r_sortDS {a : Addr} {es : List (Str × Int)} (h : H a = some (.dK (kvsL es))) (l : es.length < 64) (q : ∀ (ys : List Str) (p : Addr), ys.Perm (es.map Prod.fst) → H p = none → Q (.ref p) (upd H p (.lst (ys.map V.str)))) : rSortDS [.ref a] H Q :=
  ⟨a, kvsL es, es.map Prod.fst, rfl, .inl h, by rw [kvsL, List.map_map, List.map_map]; rfl, by rw [List.length_map]; exact l, fun ys p pm _ np => q ys p pm np⟩
theorem r_dput {td ty tv : TE} {D : Ends} (h : tv σ H fun v H1 => td σ H1 fun x H2 => ty σ H2 fun y H3 => ∃ a H4, x = .ref a ∧ DPut H3 a y v H4 ∧ D.nx σ H4) : sDPut td ty tv D σ H := h
theorem r_putL {a : Addr} {es : List (Str × Int)} {c : Str} {i : Int} {q : Hp → Prop} (h : H a = some (.dK (kvsL es))) (l : es.length ≤ 1000) (g : q (upd H a (.dK (kvsL (putE es c i))))) : ∃ a' H4, V.ref a = .ref a' ∧ DPut H a' (.str c) (.int i) H4 ∧ q H4 := by
  refine ⟨a, _, rfl, DPut.k (k := .inr c) h ?_, ?_⟩
  · rw [kvsL, List.length_map, sizeLine_eq]
    omega
  · rw [putK_L]
    exact g
theorem r_dpop1 {td ty : TE} (h : td σ H fun x H1 => ∃ a, x = .ref a ∧ IsD H1 a ∧ ty σ H1 fun y H2 => ∃ kvs k v, H2 a = some (.dK kvs) ∧ y = kV k ∧ valV kvs k = some v ∧ Q v (upd H2 a (.dK (dropK kvs k)))) : tDPop1 td ty σ H Q := h
theorem r_popL {a : Addr} {es : List (Str × Int)} {c : Str} {q : V → Hp → Prop} (h : H a = some (.dK (kvsL es))) (m : c ∈ es.map Prod.fst) (g : ∀ (v : V) (es' : List (Str × Int)), es'.length ≤ es.length → q v (upd H a (.dK (kvsL es')))) :
    ∃ kvs k v, H a = some (.dK kvs) ∧ V.str c = kV k ∧ valV kvs k = some v ∧ q v (upd H a (.dK (dropK kvs k))) := by
  obtain ⟨i, hi⟩ := valV_L m
  obtain ⟨es', e, l⟩ := dropK_L es c
  exact ⟨_, .inr c, _, h, rfl, hi, by rw [e]; exact g _ es' l⟩
theorem dq_mem {ys : List V} {ds : List PyData} {v : V} (h : DqAll K H ys ds) (m : v ∈ ys) : ∃ d ∈ ds, Dq K H v d := by
  obtain ⟨j, hj, e⟩ := List.mem_iff_getElem.mp m
  obtain ⟨d, hd, q⟩ := DqAll.at h (i := j) (by rw [List.getElem?_eq_getElem hj, e])
  exact ⟨d, List.mem_of_getElem? hd, q⟩
end
theorem log_shp {l : List (Str × Int)} (h : ∀ z ∈ l, Cell z.1) : shp (logD l) = true := by
  rw [logD, shp]
  refine shps_mem fun d hd => ?_
  obtain ⟨z, hz, rfl⟩ := List.mem_map.mp hd
  rw [prD, shp, shps, shps, shps, shp, shp, (h z hz).ok]
  rfl
end L2.Rx

end
section
set_option Elab.async false
set_option linter.all false
set_option maxRecDepth 100000
set_option maxHeartbeats 4000000
local macro_rules | `(tactic| walk_at "rd1") => `(tactic| with_reducible first
  | refine L2.Rx.r_seq ?_ | refine L2.Rx.r_asg ?_ | refine L2.Rx.r_gname ?_ | refine L2.Rx.r_op ?_ | refine L2.Rx.r_c ?_
  | refine L2.Rx.r_var rfl ?_
  | refine L2.Rx.r_rI0 ?_ | refine L2.Rx.r_test ?_ | refine L2.Rx.r_bl ?_ | refine L2.Rx.r_if ?_ | refine L2.Rx.r_ret ?_
  | refine L2.Rx.r_cons ?_ | refine L2.Rx.r_nil ?_ | refine L2.Rx.r_call ?_ | refine L2.Rx.r_cb ?_ | refine L2.Rx.r_next ?_ | refine L2.Rx.r_drop ?_
  | refine L2.Rx.r_gsub ?_ | refine L2.Rx.r_tupF ?_ | refine L2.Rx.r_lst ?_ | refine L2.Rx.r_par ?_ | refine L2.Rx.r_par2 ?_
  | refine L2.Rx.r_un ?_ | refine L2.Rx.r_tb ?_ | refine L2.Rx.r_and ?_ | refine L2.Rx.r_or ?_ | refine L2.Rx.r_not ?_
  | refine L2.Rx.r_andV ?_ | refine L2.Rx.r_orV ?_ | refine L2.Rx.r_notV ?_ | refine L2.Rx.r_ifx ?_ | refine L2.Rx.r_chain ?_
  | refine L2.Rx.r_sl ?_ | refine L2.Rx.r_nopart ?_ | refine L2.Rx.r_part ?_ | refine L2.Rx.r_exint ?_ | refine L2.Rx.r_bm0 ?_ | refine L2.Rx.r_bm ?_
  | refine L2.Rx.r_lc ?_ | refine L2.Rx.r_rng1 ?_ | refine L2.Rx.r_yes ?_ | refine L2.Rx.r_tt ?_ | refine L2.Rx.r_ff ?_ | refine L2.Rx.r_m1 ?_ | refine L2.Rx.r_m0 ?_ | refine L2.Rx.r_isS ?_
  | (refine L2.Rx.r_wipe (by with_unfolding_all rfl) ?_) | (refine L2.Rx.r_tyL (by walk_at "hp") ?_)
  | refine L2.Rx.r_addS (by walk_at "len") ?_ | refine L2.Rx.r_lenS (by walk_at "len") ?_ | refine L2.Rx.r_slS (by walk_at "len") ?_
  | refine L2.Rx.r_dnotin ?_ | refine L2.Rx.r_dget ?_ | refine L2.Rx.r_dget1 ?_ | refine L2.Rx.r_dput ?_ | refine L2.Rx.r_dpop1 ?_ | refine L2.Rx.r_isN ?_
  | refine L2.Rx.r_for ?_ | refine L2.Rx.r_ilist ?_ | refine L2.Rx.r_itup ?_
  | refine L2.Rx.r_gcons ?_ | refine L2.Rx.r_gnil ?_ | (refine L2.Rx.r_gtupP (by assumption) (by walk_at "at") ?_)
  | (refine L2.Rx.r_rEq rfl ?_) | (refine L2.Rx.r_rNe rfl ?_)
  | refine L2.Rx.r_rU ?_ | refine L2.Rx.r_max2 ?_ | refine L2.Rx.r_min2 ?_ | refine L2.Rx.r_int1i ?_ | (refine L2.Rx.r_lenh (by walk_at "hp") ?_)
  | (refine L2.Rx.r_ixLh (by walk_at "hp") (by walk_at "at") ?_)
  | (refine L2.Rx.r_setL (by walk_at "hp") (by walk_at "at") ?_))
local macro_rules | `(tactic| walk_at "at") => `(tactic| with_unfolding_all rfl)
local macro_rules | `(tactic| walk_at "rd") => `(tactic| (repeat walk_at "rd1"))
local macro_rules | `(tactic| walk_at "hp") => `(tactic| first
  | assumption
  | exact L2.upd_same
  | (refine Eq.trans (L2.upd_ne ?_) ?_; (focus walk_at "ne"); (focus walk_at "hp"))
  | (refine L2.Rx.Kp.at0 (by assumption) ?_; walk_at "hp")
  | (refine L2.Rx.Kp.at1 (by assumption) ?_ ?_; (focus walk_at "ne"); (focus walk_at "hp")))
local macro_rules | `(tactic| walk_at "ne") => `(tactic| first
  | assumption | exact Ne.symm (by assumption)
  | (refine L2.ne_of_none (H := ?nH) (o := ?nO) ?nh ?nn; (case nn => assumption); (case nh => walk_at "hp"))
  | (refine Ne.symm (L2.ne_of_none (H := ?nH) (o := ?nO) ?nh ?nn); (case nn => assumption); (case nh => walk_at "hp")))
local macro_rules | `(tactic| walk_at "len") => `(tactic| (rw [PySem.sizeLine_eq]; omega))
local macro_rules | `(tactic| walk_at "nin") => `(tactic| first
  | exact List.not_mem_nil
  | (refine L2.Rx.nin1 ?_; walk_at "ne"))
local macro_rules | `(tactic| walk_at "none") => `(tactic| first
  | assumption
  | (refine L2.Rx.Kp.none0 (by assumption) ?_ ?_; (focus walk_at "nin"); (focus walk_at "none")))
namespace L2.Rx
open PySem PySem.Spec PyProof.Rows
/-! ### repr -/
mutual
def fine : PyData → Bool
  | .list ds => fines ds
  | .dict _ => false
  | .tuple ds => fines ds
  | .str x => PyData.strOk x
  | .none => true
  | .bool _ => true
  | .int i => decide (i.natAbs < 10 ^ 12)
def fines : List PyData → Bool
  | [] => true
  | d :: ds => fine d && fines ds
end
theorem log2_small {n : Nat} (h : n < 10 ^ 12) : n.log2 < 1920 := by
  by_cases z : n = 0
  · subst z
    decide
  · exact (Nat.log2_lt z).mpr (Nat.lt_trans h (by decide +kernel))
mutual
theorem fine_all : ∀ d : PyData, fine d = true → d.showable = true ∧ d.intsShort 13 = true ∧ d.canLay0 = true
  | .none, _ => ⟨by rw [PyData.showable], by rw [PyData.intsShort], by rw [PyData.canLay0]⟩
  | .bool b, _ => ⟨by rw [PyData.showable], by rw [PyData.intsShort], by rw [PyData.canLay0]⟩
  | .int i, h => by
    rw [fine] at h
    have h' := of_decide_eq_true h
    exact ⟨by rw [PyData.showable]; exact decide_eq_true (log2_small h'), by rw [PyData.intsShort]; exact decide_eq_true (PyData.shown_int_le h'), by rw [PyData.canLay0]⟩
  | .str x, h => ⟨by rw [PyData.showable], by rw [PyData.intsShort], by rw [PyData.canLay0]; rw [fine] at h; exact h⟩
  | .list ds, h => by
    rw [fine] at h
    obtain ⟨a, b, c⟩ := fines_all ds h
    exact ⟨by rw [PyData.showable]; exact a, by rw [PyData.intsShort]; exact b, by rw [PyData.canLay0]; exact c⟩
  | .tuple ds, h => by
    rw [fine] at h
    obtain ⟨a, b, c⟩ := fines_all ds h
    exact ⟨by rw [PyData.showable]; exact a, by rw [PyData.intsShort]; exact b, by rw [PyData.canLay0]; exact c⟩
  | .dict _, h => by rw [fine] at h; cases h
theorem fines_all : ∀ ds : List PyData, fines ds = true → PyData.showableAll ds = true ∧ PyData.intsShortAll 13 ds = true ∧ PyData.canLayAll0 ds = true
  | [], _ => ⟨by rw [PyData.showableAll], by rw [PyData.intsShortAll], by rw [PyData.canLayAll0]⟩
  | d :: ds, h => by
    rw [fines, Bool.and_eq_true] at h
    obtain ⟨a, b, c⟩ := fine_all d h.1
    obtain ⟨a', b', c'⟩ := fines_all ds h.2
    exact ⟨by rw [PyData.showableAll, a, a']; rfl, by rw [PyData.intsShortAll, b, b']; rfl, by rw [PyData.canLayAll0, c, c']; rfl⟩
end
theorem fines_mem : ∀ {ds : List PyData}, (∀ d ∈ ds, fine d = true) → fines ds = true
  | [], _ => by rw [fines]
  | d :: ds, h => by rw [fines, h d (List.mem_cons_self ..), fines_mem fun e m => h e (List.mem_cons_of_mem _ m)]; rfl
theorem weight_mem {k : Nat} : ∀ {ds : List PyData}, (∀ d ∈ ds, d.weight ≤ k) → PyData.weightAll ds ≤ ds.length * (k + 1)
  | [], _ => by rw [PyData.weightAll]; simp
  | d :: ds, h => by
    rw [PyData.weightAll, List.length_cons, Nat.succ_mul]
    have := h d (List.mem_cons_self ..)
    have := weight_mem (k := k) (ds := ds) fun e m => h e (List.mem_cons_of_mem _ m)
    omega
theorem r_repr {K : PySem.W.Frag} {H : Hp} {Q : VK} {v : V} {d : PyData} (h : Dq K H v d) (f : fine d = true) (n : d.depth ≤ 60) (w : d.weight ≤ 2 ^ 20) (q : Q (.str d.shown) H) : rRepr K [v] H Q := by
  obtain ⟨a, b, c⟩ := fine_all d f
  exact ⟨v, d, rfl, Dq.dp _ _ h, a, n, PyData.shown_fits_of_layable0 (B := 13) (by decide) (by decide) (by
    show (d.canLay0 && decide (d.depth ≤ 64) && decide (d.weight ≤ 2 ^ 20)) = true
    rw [c, decide_eq_true (show d.depth ≤ 64 by omega), decide_eq_true w]
    rfl) b, q⟩
def wTree : Nat → Nat
  | 0 => 0
  | n + 1 => 3 * wTree n + 150
theorem Okt.weight {n : Nat} {cs : List Str} {t : Tr} (h : Okt n cs t) (hc : ∀ c ∈ cs, Cell c) : t.d.weight ≤ wTree n := by
  induction h with
  | lf n cs => rw [Tr.d, PyData.weight, PyData.weightAll]; omega
  | @nd n cs cs' c bs h1 h2 h3 h4 h5 h6 h7 h8 ih =>
    rw [Tr.d, PyData.weight, PyData.weightAll, PyData.weightAll, PyData.weightAll, PyData.weight, PyData.weight, wTree]
    have c8 : c.cps.size ≤ 8 := (hc c h1).2.1
    have hb : PyData.weightAll (brd bs) ≤ bs.length * (wTree n + 32 + 1) := by
      have := weight_mem (k := wTree n + 32) (ds := brd bs) fun d hd => by
        rw [brd_eq] at hd
        obtain ⟨p, hp, rfl⟩ := List.mem_map.mp hd
        rw [PyData.weight, PyData.weightAll, PyData.weightAll, PyData.weightAll, PyData.weight]
        have w1 := ih p hp fun c m => hc c (h3 c m)
        have w2 : (if p.1 == 0 then 0 else p.1.natAbs.log2 + 1) ≤ 30 := by
          split
          · omega
          · next hz =>
            have hp' := h7 p hp
            have nz : p.1.natAbs ≠ 0 := by
              intro z
              apply hz
              simp
              omega
            have : p.1.natAbs.log2 < 30 := (Nat.log2_lt nz).mpr (by omega)
            omega
        omega
      rw [brd_eq, List.length_map] at this
      rw [brd_eq]
      exact this
    have h5' : bs.length * (wTree n + 32 + 1) ≤ 3 * (wTree n + 32 + 1) := Nat.mul_le_mul_right _ h5
    omega
theorem Okt.fine {n : Nat} {cs : List Str} {t : Tr} (h : Okt n cs t) (hc : ∀ c ∈ cs, Cell c) : fine t.d = true := by
  induction h with
  | lf n cs => rw [Tr.d, Rx.fine, Rx.fines]
  | nd h1 h2 h3 h4 h5 h6 h7 h8 ih =>
    rw [Tr.d, Rx.fine, Rx.fines, Rx.fines, Rx.fines, Rx.fine, Rx.fine, (hc _ h1).ok]
    rw [show Rx.fines (brd _) = true from ?_]
    · rfl
    · refine fines_mem fun d hd => ?_
      rw [brd_eq] at hd
      obtain ⟨p, hp, rfl⟩ := List.mem_map.mp hd
      have hp' := h7 p hp
      rw [Rx.fine, Rx.fines, Rx.fines, Rx.fines, Rx.fine, ih p hp fun c m => hc c (h3 c m), decide_eq_true (show p.1.natAbs < 10 ^ 12 by omega)]
      rfl
/-! the answer of a run -/
def ResOk (k : Nat) (r : Str × List Str × Option Str) : Prop := r.1.length ≤ 8 ∧ PyData.strOk r.1 = true ∧ r.2.1.length ≤ k ∧ (∀ c ∈ r.2.1, Cell c) ∧ ∀ c, r.2.2 = some c → Cell c
theorem run_ok (env : Str → Option Int) : ∀ (n : Nat) {cs : List Str} {t : Tr} (acc : List Str) (k : Nat), Okt n cs t → (∀ c ∈ cs, Cell c) → (∀ c ∈ acc, Cell c) → acc.length + n ≤ k → ResOk k (run env n t acc) := by
  have dn : ∀ (acc : List Str) (k : Nat), (∀ c ∈ acc, Cell c) → acc.length ≤ k → ResOk k (Str.ofString "done", acc, none) := fun acc k h l => ⟨(by show (Str.ofString "done").length ≤ 8; decide +kernel), (by show PyData.strOk (Str.ofString "done") = true; decide +kernel), l, h, fun c e => nomatch e⟩
  intro n
  induction n with
  | zero => intro cs t acc k ok hc ha hk; exact dn acc k ha (by omega)
  | succ n ih =>
    intro cs t acc k ok hc ha hk
    cases t with
    | lf => exact dn acc k ha (by omega)
    | nd c bs =>
      cases ok with
      | @nd _ _ cs' _ _ h1 h2 h3 h4 h5 h6 h7 h8 =>
        have ha' : ∀ x ∈ acc ++ [c], Cell x := by
          intro x hx
          rcases List.mem_append.mp hx with h | h
          · exact ha x h
          · rw [show x = c by simpa using h]
            exact hc c h1
        have la : (acc ++ [c]).length = acc.length + 1 := by rw [List.length_append]; rfl
        cases e : env c with
        | none => rw [run_u e]; exact ⟨(by show (Str.ofString "unknown").length ≤ 8; decide +kernel), (by show PyData.strOk (Str.ofString "unknown") = true; decide +kernel), by show acc.length ≤ k; omega, ha, fun x q => by rw [← Option.some.inj q]; exact hc c h1⟩
        | some i =>
          cases g : lookB bs i with
          | none => rw [run_o e g]; exact ⟨(by show (Str.ofString "open").length ≤ 8; decide +kernel), (by show PyData.strOk (Str.ofString "open") = true; decide +kernel), by show (acc ++ [c]).length ≤ k; omega, ha', fun x q => by rw [← Option.some.inj q]; exact hc c h1⟩
          | some t =>
            obtain ⟨z, hz, _, rfl⟩ := lookB_mem g
            rw [run_g e g]
            exact ih (acc ++ [c]) k (h8 z hz) (fun x m => hc x (h3 x m)) ha' (by omega)
theorem res_fine {k : Nat} {r : Str × List Str × Option Str} (h : ResOk k r) (hk : k ≤ 60) : fine (resD r) = true ∧ (resD r).depth ≤ 60 ∧ (resD r).weight ≤ 2 ^ 20 := by
  obtain ⟨w, cs, l⟩ := r
  obtain ⟨h1, h2, h3, h4, h5⟩ := h
  have f1 : fines (cs.map PyData.str) = true := fines_mem fun d hd => by
    obtain ⟨c, hc, rfl⟩ := List.mem_map.mp hd
    rw [fine]
    exact (h4 c hc).ok
  have w1 : PyData.weightAll (cs.map PyData.str) ≤ 60 * 9 := by
    have := weight_mem (k := 8) (ds := cs.map PyData.str) fun d hd => by
      obtain ⟨c, hc, rfl⟩ := List.mem_map.mp hd
      rw [PyData.weight]
      exact (h4 c hc).2.1
    rw [List.length_map] at this
    have h3' : cs.length ≤ k := h3
    have : cs.length * 9 ≤ 60 * 9 := Nat.mul_le_mul_right _ (by omega)
    omega
  have d1 : PyData.depthAll (cs.map PyData.str) ≤ 0 := depth_mem fun d hd => by
    obtain ⟨c, hc, rfl⟩ := List.mem_map.mp hd
    rw [PyData.depth]
    exact Nat.le_refl _
  have h1' : w.cps.size ≤ 8 := h1
  cases l with
  | none =>
    refine ⟨?_, ?_, ?_⟩
    · rw [resD]
      show fine (.tuple [.str w, .tuple (cs.map PyData.str), .none]) = true
      rw [fine, fines, fines, fines, fines, fine, fine, fine, f1, h2]
      rfl
    · show (PyData.tuple [.str w, .tuple (cs.map PyData.str), .none]).depth ≤ 60
      rw [PyData.depth, PyData.depthAll, PyData.depthAll, PyData.depthAll, PyData.depthAll, PyData.depth, PyData.depth, PyData.depth]
      omega
    · show (PyData.tuple [.str w, .tuple (cs.map PyData.str), .none]).weight ≤ 2 ^ 20
      rw [PyData.weight, PyData.weightAll, PyData.weightAll, PyData.weightAll, PyData.weightAll, PyData.weight, PyData.weight, PyData.weight]
      omega
  | some c =>
    have hc := h5 c rfl
    have hc8 : c.cps.size ≤ 8 := hc.2.1
    refine ⟨?_, ?_, ?_⟩
    · show fine (.tuple [.str w, .tuple (cs.map PyData.str), .str c]) = true
      rw [fine, fines, fines, fines, fines, fine, fine, fine, f1, h2, hc.ok]
      rfl
    · show (PyData.tuple [.str w, .tuple (cs.map PyData.str), .str c]).depth ≤ 60
      rw [PyData.depth, PyData.depthAll, PyData.depthAll, PyData.depthAll, PyData.depthAll, PyData.depth, PyData.depth, PyData.depth]
      omega
    · show (PyData.tuple [.str w, .tuple (cs.map PyData.str), .str c]).weight ≤ 2 ^ 20
      rw [PyData.weight, PyData.weightAll, PyData.weightAll, PyData.weightAll, PyData.weightAll, PyData.weight, PyData.weight, PyData.weight]
      omega
/-! ### calls with all arguments by name -/
theorem bindsK {K : PySem.W.Frag} {x qual : Str} {st : Stmt} {f : Addr} {fd : FuncData} {ps ks : List Str} {gv : List Value → List Value} (F : Fun K x qual st f fd)
    (h : ∀ (kV doc pm : Value) (an : Option Addr) (cdv ct : Value) (ws : List Value), (gv ws).length = ps.length → bindArgs (PySem.W.fnOf x qual (defArgs st) (defBody st) (defScope st) .none kV doc pm an cdv ct) ⟨[], ks.zip ws⟩ = pure (ps.zip (gv ws))) :
    ∀ (s : Shared) (ws : List Value), K.In s.heap → (gv ws).length = ps.length → BindsTo s fd ⟨[], ks.zip ws⟩ (ps.zip (gv ws)) := by
  obtain ⟨oc, od, kV, doc, pm, an, cdv, ct, osl, rfl, lk, hcd⟩ := F.ex
  exact fun s ws _ hl => .of_eq (h kV doc pm an cdv ct ws hl)
section
variable {X : Cx} {k j : Nat} {sp : Sp} {x : Str} {p pos : Pos} {ks : List Str} {g : List V → List V} {kws : List Keyword} {tk : TA}
theorem KnK.call (c : KnK X.prog X.w X.K X.mg X.base CX0 k x ks g sp) (hr : RoomG j X.A) (hk : k ≤ j) (hg : Gl X x) (hkw : PK X kws tk)
    (hall : (backToKw pos (keywordEach kws X.env)).all (·.1.isSome) = true := by rfl) (hks : (backToKw pos (keywordEach kws X.env)).filterMap (·.1) = ks := by rfl) (hdb : (x == ("__debug__" : Str)) = false := by decide)
    (hpl : ((backTo pos (starEach [] X.env)).any (·.1) || (backToKw pos (keywordEach kws X.env)).any (·.1.isNone)) = false := by rfl) :
    PE X (.Call (.Name x p) [] kws pos) (tKw g sp E0 tk) := by
  obtain ⟨f, fd, ps, gv, F, hm, kp, hb, hrel⟩ := c.ex
  refine ⟨fun pins s σ H Q I h => ?_⟩
  refine wpAny_Call_Name_kw (ld_glob I hg hm ?_ hdb)
  refine PySem.W.callWith_KW0 (h₀ := X.base) I.ok.mod.kin kp hall ?_ hpl
  refine thn (hkw.run pos pins s σ H _ I h) fun ws s2 ⟨zs, H2, I2, rz, q2⟩ => ⟨I2.kIn, ?_⟩
  rw [hks]
  exact callG (args := ⟨[], ks.zip ws⟩) (us := gv ws) F (hr.mono hk) pass0 I2 (fun hl => hb s2 ws I2.kIn hl) (hrel _ _ rz) q2
end
/-! ### paths -/
theorem lookB_nd {bs : List (Int × Tr)} (nd : (bs.map Prod.fst).Nodup) {z : Int × Tr} (hz : z ∈ bs) : lookB bs z.1 = some z.2 := by
  induction bs with
  | nil => cases hz
  | cons y r ih =>
    rw [List.map_cons, List.nodup_cons] at nd
    rcases List.mem_cons.mp hz with e | e
    · subst e
      simp [lookB]
    · have ne : ¬ y.1 = z.1 := fun q => nd.1 (q ▸ List.mem_map_of_mem e)
      have := ih nd.2 e
      rw [← this]
      simp [lookB, ne]
theorem path_run (env : Str → Option Int) : ∀ (n : Nat) {cs : List Str} {t : Tr} (acc : List Str) {p : List (Str × Int)}, Okt n cs t → p ∈ t.paths → (∀ z ∈ p, env z.1 = some z.2) → run env n t acc = (Str.ofString "done", acc ++ p.map Prod.fst, none) := by
  intro n
  induction n with
  | zero =>
    intro cs t acc p ok hp he
    cases ok with
    | lf => rw [Tr.paths] at hp; rw [show p = [] by simpa using hp, run_lf, List.map_nil, List.append_nil]
  | succ n ih =>
    intro cs t acc p ok hp he
    cases ok with
    | lf => rw [Tr.paths] at hp; rw [show p = [] by simpa using hp, run_lf, List.map_nil, List.append_nil]
    | @nd _ _ cs' c bs h1 h2 h3 h4 h5 h6 h7 h8 =>
      rw [Tr.paths, brp_eq] at hp
      obtain ⟨z, hz, hq⟩ := List.mem_flatMap.mp hp
      obtain ⟨s, hs, rfl⟩ := List.mem_map.mp hq
      have e := he (c, z.1) (List.mem_cons_self ..)
      have nd : (bs.map Prod.fst).Nodup := h6.imp fun {a b} h => by omega
      rw [run_g e (lookB_nd nd hz), ih (acc ++ [c]) (h8 z hz) hs (fun y hy => he y (List.mem_cons_of_mem _ hy)), List.map_cons, List.append_assoc]
      rfl
theorem path_names {n : Nat} {cs : List Str} {t : Tr} (ok : Okt n cs t) : ∀ p ∈ t.paths, (p.map Prod.fst).Nodup ∧ (∀ x ∈ p.map Prod.fst, x ∈ cs) ∧ p.length ≤ n := by
  induction ok with
  | lf n cs =>
    intro p hp
    rw [Tr.paths] at hp
    rw [show p = [] by simpa using hp]
    exact ⟨List.nodup_nil, (fun _ h => nomatch h), Nat.zero_le _⟩
  | @nd n cs cs' c bs h1 h2 h3 h4 h5 h6 h7 h8 ih =>
    intro p hp
    rw [Tr.paths, brp_eq] at hp
    obtain ⟨z, hz, hq⟩ := List.mem_flatMap.mp hp
    obtain ⟨s, hs, rfl⟩ := List.mem_map.mp hq
    obtain ⟨a, b, c'⟩ := ih z hz s hs
    rw [List.map_cons, List.nodup_cons, List.length_cons]
    refine ⟨⟨fun q => h2 (b _ q), a⟩, fun x hx => ?_, by omega⟩
    rcases List.mem_cons.mp hx with e | e
    · rw [e]
      exact h1
    · exact h3 x (b x e)
theorem env_log {l : List (Str × Int)} (nd : (l.map Prod.fst).Nodup) : ∀ z ∈ l, envK (mergeK [] (kvsL l)) z.1 = some z.2 := by
  have e : mergeK [] (kvsL l) = kvsL l := mergeK_nd (by
    rw [kvsL, List.map_map, show (Prod.fst ∘ fun z : Str × Int => ((Sum.inr z.1 : Key), V.int z.2)) = Sum.inr ∘ Prod.fst from rfl, ← List.map_map]
    exact List.Pairwise.map _ (fun a b h z => h (Sum.inr.inj z)) nd)
  rw [e]
  intro z hz
  refine env_some ?_
  clear e
  induction l with
  | nil => cases hz
  | cons y r ih =>
    rw [List.map_cons, List.nodup_cons] at nd
    rcases List.mem_cons.mp hz with q | q
    · subst q
      simp [valV, kvsL]
    · have ne : ¬ y.1 = z.1 := fun s => nd.1 (s ▸ List.mem_map_of_mem q)
      have := ih nd.2 q
      rw [← this]
      simp [valV, kvsL, ne]
theorem names_up {l : List (Str × Int)} (nd : (l.map Prod.fst).Nodup) (h : l.Pairwise fun x y => PySem.W.dataLt (prD y) (prD x) = false) : (l.map Prod.fst).Pairwise fun x y => ¬ y.cps.toList < x.cps.toList := by
  rw [List.pairwise_map]
  rw [List.nodup_iff_pairwise_ne, List.pairwise_map] at nd
  refine (h.and nd).imp fun {x y} q => ?_
  obtain ⟨q1, q2⟩ := q
  rw [prD, prD, PySem.W.dataLt_pair (by rw [PySem.W.alike]) (by rw [PySem.W.alike])] at q1
  have ne : PyData.eqv (.str y.1) (.str x.1) = false := by
    rw [PyData.eqv]
    exact beq_eq_false_iff_ne.mpr fun z => q2 z.symm
  rw [ne, if_neg Bool.false_ne_true, PySem.W.dataLt_str] at q1
  exact of_decide_eq_false q1
theorem sorted_same {a b : List Str} (p : a.Perm b) (ha : a.Pairwise fun x y => ¬ y.cps.toList < x.cps.toList) (hb : b.Pairwise fun x y => ¬ y.cps.toList < x.cps.toList) : a = b :=
  List.Perm.eq_of_pairwise (fun x y _ _ h1 h2 => str_ext (List.le_antisymm h1 h2)) ha hb p
section
variable {σ : St} {H : Hp} {Q : VK} {K : PySem.W.Frag}
theorem r_dnew (h : ∀ p, H p = none → Q (.ref p) (upd H p (.dK []))) : tDNewK σ H Q := h
theorem dq_strs : ∀ {ns : List Str} {ys : List V}, DqAll K H ys (ns.map PyData.str) → ys = ns.map V.str
  | [], ys, h => dp_nil h
  | n :: r, ys, h => by
    obtain ⟨v, vs, rfl, d1, d2⟩ := dp_cons h
    rw [dp_str d1, dq_strs d2]
    rfl
theorem r_neSame {x y : V} {d : PyData} (h : Dq K H x d) (g : Dq K H y d) (s : shp d = true) (n : d.depth ≤ 64) (q : Q (.bl (!true)) H) : rNeD K x y H Q :=
  ⟨d, d, Dq.dp _ _ h, Dq.dp _ _ g, shaped_of s n, shaped_of s n, by rw [PySem.SeqAt.eqv_refl d (shp_lay d s)]; exact q⟩
end
theorem wTree_le : ∀ n, n ≤ 6 → wTree n ≤ 2 ^ 20 := by decide +kernel
end L2.Rx

end
section
set_option Elab.async false
set_option linter.all false
set_option maxRecDepth 100000
set_option maxHeartbeats 4000000
local macro_rules | `(tactic| walk_at "rd1") => `(tactic| with_reducible first
  | refine L2.Rx.r_seq ?_ | refine L2.Rx.r_asg ?_ | refine L2.Rx.r_gname ?_ | refine L2.Rx.r_op ?_ | refine L2.Rx.r_c ?_
  | refine L2.Rx.r_var rfl ?_
  | refine L2.Rx.r_rI0 ?_ | refine L2.Rx.r_test ?_ | refine L2.Rx.r_bl ?_ | refine L2.Rx.r_if ?_ | refine L2.Rx.r_ret ?_
  | refine L2.Rx.r_cons ?_ | refine L2.Rx.r_nil ?_ | refine L2.Rx.r_call ?_ | refine L2.Rx.r_cb ?_ | refine L2.Rx.r_next ?_ | refine L2.Rx.r_drop ?_
  | refine L2.Rx.r_gsub ?_ | refine L2.Rx.r_tupF ?_ | refine L2.Rx.r_lst ?_ | refine L2.Rx.r_par ?_ | refine L2.Rx.r_par2 ?_
  | refine L2.Rx.r_un ?_ | refine L2.Rx.r_tb ?_ | refine L2.Rx.r_and ?_ | refine L2.Rx.r_or ?_ | refine L2.Rx.r_not ?_
  | refine L2.Rx.r_andV ?_ | refine L2.Rx.r_orV ?_ | refine L2.Rx.r_notV ?_ | refine L2.Rx.r_ifx ?_ | refine L2.Rx.r_chain ?_
  | refine L2.Rx.r_sl ?_ | refine L2.Rx.r_nopart ?_ | refine L2.Rx.r_part ?_ | refine L2.Rx.r_exint ?_ | refine L2.Rx.r_bm0 ?_ | refine L2.Rx.r_bm ?_
  | refine L2.Rx.r_lc ?_ | refine L2.Rx.r_rng1 ?_ | refine L2.Rx.r_yes ?_ | refine L2.Rx.r_tt ?_ | refine L2.Rx.r_ff ?_ | refine L2.Rx.r_m1 ?_ | refine L2.Rx.r_m0 ?_ | refine L2.Rx.r_isS ?_
  | (refine L2.Rx.r_wipe (by with_unfolding_all rfl) ?_) | (refine L2.Rx.r_tyL (by walk_at "hp") ?_)
  | refine L2.Rx.r_addS (by walk_at "len") ?_ | refine L2.Rx.r_lenS (by walk_at "len") ?_ | refine L2.Rx.r_slS (by walk_at "len") ?_
  | refine L2.Rx.r_dnotin ?_ | refine L2.Rx.r_dget ?_ | refine L2.Rx.r_dget1 ?_ | refine L2.Rx.r_dput ?_ | refine L2.Rx.r_dpop1 ?_ | refine L2.Rx.r_isN ?_
  | refine L2.Rx.r_for ?_ | refine L2.Rx.r_ilist ?_ | refine L2.Rx.r_itup ?_
  | refine L2.Rx.r_gcons ?_ | refine L2.Rx.r_gnil ?_ | (refine L2.Rx.r_gtupP (by assumption) (by walk_at "at") ?_)
  | (refine L2.Rx.r_rEq rfl ?_) | (refine L2.Rx.r_rNe rfl ?_)
  | refine L2.Rx.r_rU ?_ | refine L2.Rx.r_max2 ?_ | refine L2.Rx.r_min2 ?_ | refine L2.Rx.r_int1i ?_ | (refine L2.Rx.r_lenh (by walk_at "hp") ?_)
  | (refine L2.Rx.r_ixLh (by walk_at "hp") (by walk_at "at") ?_)
  | (refine L2.Rx.r_setL (by walk_at "hp") (by walk_at "at") ?_))
local macro_rules | `(tactic| walk_at "at") => `(tactic| with_unfolding_all rfl)
local macro_rules | `(tactic| walk_at "rd") => `(tactic| (repeat walk_at "rd1"))
local macro_rules | `(tactic| walk_at "hp") => `(tactic| first
  | assumption
  | exact L2.upd_same
  | (refine Eq.trans (L2.upd_ne ?_) ?_; (focus walk_at "ne"); (focus walk_at "hp"))
  | (refine L2.Rx.Kp.at0 (by assumption) ?_; walk_at "hp")
  | (refine L2.Rx.Kp.at1 (by assumption) ?_ ?_; (focus walk_at "ne"); (focus walk_at "hp")))
local macro_rules | `(tactic| walk_at "ne") => `(tactic| first
  | assumption | exact Ne.symm (by assumption)
  | (refine L2.ne_of_none (H := ?nH) (o := ?nO) ?nh ?nn; (case nn => assumption); (case nh => walk_at "hp"))
  | (refine Ne.symm (L2.ne_of_none (H := ?nH) (o := ?nO) ?nh ?nn); (case nn => assumption); (case nh => walk_at "hp")))
local macro_rules | `(tactic| walk_at "len") => `(tactic| (rw [PySem.sizeLine_eq]; omega))
local macro_rules | `(tactic| walk_at "nin") => `(tactic| first
  | exact List.not_mem_nil
  | (refine L2.Rx.nin1 ?_; walk_at "ne"))
local macro_rules | `(tactic| walk_at "none") => `(tactic| first
  | assumption
  | (refine L2.Rx.Kp.none0 (by assumption) ?_ ?_; (focus walk_at "nin"); (focus walk_at "none")))
namespace L2.Rx
open PySem PySem.Spec PyProof.Rows
/-! ### data that may hold lists and dicts, read as it stands -/
def Rp (K : PySem.W.Frag) (H : Hp) (v : V) (d : PyData) : Prop := ∀ (X : Cx) (pins : List (Addr × Obj)) (σ : St) (s : Shared) (u : Value), X.K = K → Inv X pins σ H s → RelV v u → ∃ as, Reads s.heap u d as ∧ sysModules ∉ as
def RpAll (K : PySem.W.Frag) (H : Hp) (vs : List V) (ds : List PyData) : Prop := ∀ (X : Cx) (pins : List (Addr × Obj)) (σ : St) (s : Shared) (us : List Value), X.K = K → Inv X pins σ H s → Vals vs us → ∃ as, ReadsAll s.heap us ds as ∧ sysModules ∉ as
section
variable {K : PySem.W.Frag} {H : Hp} {a : Addr} {xs : List V} {ds : List PyData}
theorem rp_non : Rp K H .non .none := fun X pins σ s u _ I r => by
  cases r
  exact ⟨_, Reads.none, by simp⟩
theorem rp_bl (b : Bool) : Rp K H (.bl b) (.bool b) := fun X pins σ s u _ I r => by
  cases r
  exact ⟨_, Reads.bool b, by simp⟩
theorem rp_int (i : Int) : Rp K H (.int i) (.int i) := fun X pins σ s u _ I r => by
  obtain ⟨t, rfl⟩ := r
  exact ⟨_, Reads.int i t, by simp⟩
theorem rp_str (x : Str) : Rp K H (.str x) (.str x) := fun X pins σ s u _ I r => by
  obtain ⟨t, rfl⟩ := r
  exact ⟨_, Reads.str x t, by simp⟩
theorem rp_nil : RpAll K H [] [] := fun X pins σ s us _ I r => by
  cases r
  exact ⟨_, ReadsAll.nil, by simp⟩
theorem rp_cons {v : V} {vs : List V} {d : PyData} {ds : List PyData} (h : Rp K H v d) (g : RpAll K H vs ds) : RpAll K H (v :: vs) (d :: ds) := fun X pins σ s us e I r => by
  cases r with
  | cons r1 r2 =>
    obtain ⟨as, q1, n1⟩ := h X pins σ s _ e I r1
    obtain ⟨bs, q2, n2⟩ := g X pins σ s _ e I r2
    exact ⟨_, ReadsAll.cons q1 q2, fun z => (List.mem_append.mp z).elim n1 n2⟩
theorem rp_tupR (h : Rd H a (.tup xs)) (g : RpAll K H xs ds) : Rp K H (.ref a) (.tuple ds) := fun X pins σ s u e I r => by
  cases r
  obtain ⟨its, rv, ⟨o, ho, hc, n, hd⟩, _⟩ := I.tuple (show SqT X.K H a xs from .inl h)
  obtain ⟨as, hr, hn⟩ := g X pins σ s _ e I rv
  exact ⟨_, Reads.tuple ho hc hd hr, hn⟩
theorem Tm.rd (h : Tm H a xs) : Rd H a (.tup xs) := by
  obtain ⟨o, e, _⟩ := h
  exact .inr ⟨o, e⟩
theorem rp_tup (h : Tm H a xs) (g : RpAll K H xs ds) : Rp K H (.ref a) (.tuple ds) := rp_tupR h.rd g
theorem rd_keep0 {H' : Hp} {u : HO} (h : Rd H a u) (k : Kp [] H H') : Rd H' a u := kp_rd k (by simp) h
theorem rd_keepM {H' : Hp} {S : List Addr} (h : Rd H a (.tup xs)) (k : Kp S H H') (m : Mu H S) : Rd H' a (.tup xs) := by
  refine kp_rd k (fun z => ?_) h
  have q := m a z
  rcases h with h | ⟨o, h⟩
  · rw [h] at q
    exact q
  · rw [h] at q
    exact q
theorem rp_lst (S : a ≠ sysModules) (h : H a = some (.lst xs)) (g : RpAll K H xs ds) : Rp K H (.ref a) (.list ds) := fun X pins σ s u e I r => by
  cases r
  obtain ⟨its, rv, ⟨o, n, ho, hc, _, hd⟩, _⟩ := I.list (show SqL X.K H a xs from .inl (.inl h))
  obtain ⟨as, hr, hn⟩ := g X pins σ s _ e I rv
  refine ⟨_, Reads.list ho hc hd hr, fun z => ?_⟩
  rcases List.mem_cons.mp z with q | q
  · exact S q.symm
  · exact hn q
theorem rp_d0 (h : H a = some (.dK [])) : Rp K H (.ref a) (.dict []) := fun X pins σ s u e I r => by
  cases r
  obtain ⟨_, hm, vs, rel, o, es, ep, ho, hx, hd, _, pr, _⟩ := dk_of I.hok h
  cases rel
  have en : es.toList = [] := by
    generalize es.toList = l at pr
    cases pr
    rfl
  refine ⟨_, Reads.dict ho hx.1 hd (as := []) (bs := []) (by rw [en]; exact ReadsAll.nil) (by rw [en]; exact ReadsAll.nil), ?_⟩
  intro z
  have z' : sysModules = a := by simpa using z
  rw [z'] at hm
  simp at hm
theorem rp_d1 {c : Str} {i : Int} (h : H a = some (.dK [(.inr c, .int i)])) : Rp K H (.ref a) (.dict [(.str c, .int i)]) := fun X pins σ s u e I r => by
  cases r
  obtain ⟨_, hm, vs, rel, o, es, ep, ho, hx, hd, _, pr, _⟩ := dk_of I.hok h
  cases rel with
  | @cons p q ps qs hq t =>
    cases t
    obtain ⟨h1, h2⟩ := hq
    obtain ⟨y, hy⟩ := h2
    generalize el : es.toList = l at pr
    cases pr with
    | @cons en kv es' kvs' k1 k2 k3 =>
      cases k3
      have k1' : keyIs q.1 en.key = true := k1
      rw [← h1] at k1'
      rcases keyIs_shape k1' with ⟨j, t, e1, e2⟩ | ⟨x, t, e1, e2⟩
      · cases e1
      · cases e1
        refine ⟨_, Reads.dict ho hx.1 hd (as := []) (bs := []) ?_ ?_, ?_⟩
        · rw [el]
          show ReadsAll _ [en.key] [.str c] []
          rw [e2]
          exact ReadsAll.cons (as := []) (bs := []) (Reads.str c t) ReadsAll.nil
        · rw [el]
          show ReadsAll _ [en.val] [.int i] []
          rw [k2, hy]
          exact ReadsAll.cons (as := []) (bs := []) (Reads.int i y) ReadsAll.nil
        · intro z
          have z' : sysModules = a := by simpa using z
          rw [z'] at hm
          simp at hm
end
/-! new lists, known not to be the table of modules -/
def tLstB (t : TA) : TE := fun σ H Q => t σ H fun xs H1 => xs.length ≤ sizeLine ∧ ∀ p, H1 p = none → p ≠ sysModules → Q (.ref p) (upd H1 p (.lst xs))
theorem pe_lstB {X : Cx} {es : List Expr} {t : TA} {pos : Pos} (h : PA X es t) : PE X (.List es pos) (tLstB t) := by
  refine ⟨fun pins s σ H Q I q0 => wpAny_List_spliced (thn (h.run pos pins s σ H _ I q0) fun us s1 ⟨xs, H1, I1, r, z, q⟩ => ⟨by rw [← r.length]; exact z, ?_⟩)⟩
  refine ⟨V.ref s1.heap.objs.size, upd H1 s1.heap.objs.size (.lst xs), I1.laid (t' := s1.toks) (fun b u e => Heap.get?_push_of_some _ e) (Nat.le_refl _) ?_, rfl, q _ (I1.hok.fresh (Nat.le_refl _)) (Nat.ne_of_gt I1.big)⟩
  exact ⟨z, us, 0, r, Heap.get?_push_size _ rfl⟩
theorem r_lstB {σ : St} {H : Hp} {Q : VK} {t : TA} (h : t σ H fun xs H1 => xs.length ≤ sizeLine ∧ ∀ p, H1 p = none → p ≠ sysModules → Q (.ref p) (upd H1 p (.lst xs))) : tLstB t σ H Q := h
theorem r_newB {H : Hp} {xs : List V} {q : Addr → Prop} (e : Nat.ble xs.length 1000 = true) (h : ∀ p, H p = none → p ≠ sysModules → q p) : xs.length ≤ sizeLine ∧ ∀ p, H p = none → p ≠ sysModules → q p := ⟨Nat.le_of_lt (small1000 (Nat.le_of_ble_eq_true e)), h⟩
def rSlLB (K : PySem.W.Frag) : V → Option Int → Option Int → Hp → VK → Prop := fun x lo hi H Q => ∃ a xs, x = .ref a ∧ SqL K H a xs ∧ ∀ p, H p = none → p ≠ sysModules → Q (.ref p) (upd H p (.lst (cutV xs lo hi)))
theorem sl_listB {X : Cx} : SlR X (rSlLB X.K) := by
  intro pins s σ H x v vl vu lo hi sl Q I rx hs pl pu h
  obtain ⟨a, xs, rfl, hx, q⟩ := h
  cases rx
  obtain ⟨its, r, ht, hz⟩ := I.list hx
  have hl := r.length
  refine ⟨"list", _, slot_list_getitem.lookup, ht.isList.typeIs, wpAny_getItem_list_slice ht.isList hs pl pu .none (by simp) ?_ (by rw [List.size_toArray] <;> omega)⟩
  rw [slicePick_cut, ← hl]
  refine ⟨V.ref s.heap.objs.size, _, I.laid (t' := s.toks) (o := .lst (cutV xs lo hi)) (fun b ob z => Heap.get?_push_of_some _ z) (Nat.le_refl _) ?_, rfl, q _ (I.hok.fresh (Nat.le_refl _)) (Nat.ne_of_gt I.big)⟩
  exact ⟨Nat.le_trans (cutV_length xs lo hi) hz, _, 0, (r.drop (HT.sIx xs.length 0 lo)).take _, Heap.get?_push_size _ rfl⟩
/-- as long as no more than S changes -/
def Sd (K : PySem.W.Frag) (S : List Addr) (H : Hp) (v : V) (d : PyData) : Prop := ∀ H', Kp S H H' → Rp K H' v d
theorem Sd.keep {K : PySem.W.Frag} {S : List Addr} {H H' : Hp} {v : V} {d : PyData} (h : Sd K S H v d) (k : Kp S H H') : Sd K S H' v d := fun H2 k2 => h H2 (k.trans k2)
theorem Sd.rp {K : PySem.W.Frag} {S : List Addr} {H : Hp} {v : V} {d : PyData} (h : Sd K S H v d) : Rp K H v d := h H Kp.refl
/-- repr of a list of such data -/
def rReprL (K : PySem.W.Frag) : List V → Hp → VK → Prop := fun xs H Q => ∃ (a : Addr) (d : PyData), xs = [.ref a] ∧ Rp K H (.ref a) d ∧ d.showable = true ∧ d.depth ≤ 60 ∧ d.shown.length ≤ sizeLine ∧ Q (.str d.shown) H
theorem call_reprL {X : Cx} {k : Nat} (hr : RoomG k X.A) : CallR X (.builtin "repr") (rReprL X.K) := by
  intro pins s σ H xs us Q I r h
  obtain ⟨a, d, rfl, hd, hs, hdp, hz, q⟩ := h
  obtain ⟨u, rfl, ru⟩ := vals1 r
  obtain ⟨as, rd, na⟩ := hd X pins σ s u rfl I ru
  cases ru
  exact repr_of_reads' rd hs (fun _ => na) hr.gd (by have := hr.units; omega) (fun _ _ e => e) (fun h' t tk hk => ⟨.str d.shown, H, I.kept hk, ⟨t, rfl⟩, q⟩) hz
end L2.Rx

end
section
set_option Elab.async false
set_option linter.all false
set_option maxRecDepth 100000
set_option maxHeartbeats 4000000
local macro_rules | `(tactic| walk_at "rd1") => `(tactic| with_reducible first
  | refine L2.Rx.r_seq ?_ | refine L2.Rx.r_asg ?_ | refine L2.Rx.r_gname ?_ | refine L2.Rx.r_op ?_ | refine L2.Rx.r_c ?_
  | refine L2.Rx.r_var rfl ?_
  | refine L2.Rx.r_rI0 ?_ | refine L2.Rx.r_test ?_ | refine L2.Rx.r_bl ?_ | refine L2.Rx.r_if ?_ | refine L2.Rx.r_ret ?_
  | refine L2.Rx.r_cons ?_ | refine L2.Rx.r_nil ?_ | refine L2.Rx.r_call ?_ | refine L2.Rx.r_cb ?_ | refine L2.Rx.r_next ?_ | refine L2.Rx.r_drop ?_
  | refine L2.Rx.r_gsub ?_ | refine L2.Rx.r_tupF ?_ | refine L2.Rx.r_lst ?_ | refine L2.Rx.r_par ?_ | refine L2.Rx.r_par2 ?_
  | refine L2.Rx.r_un ?_ | refine L2.Rx.r_tb ?_ | refine L2.Rx.r_and ?_ | refine L2.Rx.r_or ?_ | refine L2.Rx.r_not ?_
  | refine L2.Rx.r_andV ?_ | refine L2.Rx.r_orV ?_ | refine L2.Rx.r_notV ?_ | refine L2.Rx.r_ifx ?_ | refine L2.Rx.r_chain ?_
  | refine L2.Rx.r_sl ?_ | refine L2.Rx.r_nopart ?_ | refine L2.Rx.r_part ?_ | refine L2.Rx.r_exint ?_ | refine L2.Rx.r_bm0 ?_ | refine L2.Rx.r_bm ?_
  | refine L2.Rx.r_lc ?_ | refine L2.Rx.r_rng1 ?_ | refine L2.Rx.r_yes ?_ | refine L2.Rx.r_tt ?_ | refine L2.Rx.r_ff ?_ | refine L2.Rx.r_m1 ?_ | refine L2.Rx.r_m0 ?_ | refine L2.Rx.r_isS ?_
  | (refine L2.Rx.r_wipe (by with_unfolding_all rfl) ?_) | (refine L2.Rx.r_tyL (by walk_at "hp") ?_)
  | refine L2.Rx.r_addS (by walk_at "len") ?_ | refine L2.Rx.r_lenS (by walk_at "len") ?_ | refine L2.Rx.r_slS (by walk_at "len") ?_
  | refine L2.Rx.r_dnotin ?_ | refine L2.Rx.r_dget ?_ | refine L2.Rx.r_dget1 ?_ | refine L2.Rx.r_dput ?_ | refine L2.Rx.r_dpop1 ?_ | refine L2.Rx.r_isN ?_
  | refine L2.Rx.r_for ?_ | refine L2.Rx.r_ilist ?_ | refine L2.Rx.r_itup ?_
  | refine L2.Rx.r_gcons ?_ | refine L2.Rx.r_gnil ?_ | (refine L2.Rx.r_gtupP (by assumption) (by walk_at "at") ?_)
  | (refine L2.Rx.r_rEq rfl ?_) | (refine L2.Rx.r_rNe rfl ?_)
  | refine L2.Rx.r_rU ?_ | refine L2.Rx.r_max2 ?_ | refine L2.Rx.r_min2 ?_ | refine L2.Rx.r_int1i ?_ | (refine L2.Rx.r_lenh (by walk_at "hp") ?_)
  | (refine L2.Rx.r_ixLh (by walk_at "hp") (by walk_at "at") ?_)
  | (refine L2.Rx.r_setL (by walk_at "hp") (by walk_at "at") ?_))
local macro_rules | `(tactic| walk_at "at") => `(tactic| with_unfolding_all rfl)
local macro_rules | `(tactic| walk_at "rd") => `(tactic| (repeat walk_at "rd1"))
local macro_rules | `(tactic| walk_at "hp") => `(tactic| first
  | assumption
  | exact L2.upd_same
  | (refine Eq.trans (L2.upd_ne ?_) ?_; (focus walk_at "ne"); (focus walk_at "hp"))
  | (refine L2.Rx.Kp.at0 (by assumption) ?_; walk_at "hp")
  | (refine L2.Rx.Kp.at1 (by assumption) ?_ ?_; (focus walk_at "ne"); (focus walk_at "hp")))
local macro_rules | `(tactic| walk_at "ne") => `(tactic| first
  | assumption | exact Ne.symm (by assumption)
  | (refine L2.ne_of_none (H := ?nH) (o := ?nO) ?nh ?nn; (case nn => assumption); (case nh => walk_at "hp"))
  | (refine Ne.symm (L2.ne_of_none (H := ?nH) (o := ?nO) ?nh ?nn); (case nn => assumption); (case nh => walk_at "hp")))
local macro_rules | `(tactic| walk_at "len") => `(tactic| (rw [PySem.sizeLine_eq]; omega))
local macro_rules | `(tactic| walk_at "nin") => `(tactic| first
  | exact List.not_mem_nil
  | (refine L2.Rx.nin1 ?_; walk_at "ne"))
local macro_rules | `(tactic| walk_at "none") => `(tactic| first
  | assumption
  | (refine L2.Rx.Kp.none0 (by assumption) ?_ ?_; (focus walk_at "nin"); (focus walk_at "none")))
namespace L2.Rx
open PySem PySem.Spec PyProof.Rows
/-! ### objects of any kind that stand as they are, but at S something may change -/
mutual
inductive Dg (H : Hp) (S : List Addr) : V → PyData → Prop
  | non : Dg H S .non .none
  | bl (b : Bool) : Dg H S (.bl b) (.bool b)
  | int (i : Int) : Dg H S (.int i) (.int i)
  | str (x : Str) : Dg H S (.str x) (.str x)
  | tup {a : Addr} {xs : List V} {ds : List PyData} : Rd H a (.tup xs) → DgAll H S xs ds → Dg H S (.ref a) (.tuple ds)
  | lst {a : Addr} {xs : List V} {ds : List PyData} : H a = some (.lst xs) → a ∉ S → a ≠ sysModules → DgAll H S xs ds → Dg H S (.ref a) (.list ds)
  | d0 {a : Addr} : H a = some (.dK []) → a ∉ S → Dg H S (.ref a) (.dict [])
inductive DgAll (H : Hp) (S : List Addr) : List V → List PyData → Prop
  | nil : DgAll H S [] []
  | cons {v : V} {vs : List V} {d : PyData} {ds : List PyData} : Dg H S v d → DgAll H S vs ds → DgAll H S (v :: vs) (d :: ds)
end
section
variable {H H' : Hp} {S T : List Addr}
theorem Dg.ind {P : V → PyData → Prop} {R : List V → List PyData → Prop} (h1 : P .non .none) (h2 : ∀ b, P (.bl b) (.bool b)) (h3 : ∀ i, P (.int i) (.int i)) (h4 : ∀ x, P (.str x) (.str x))
    (h5 : ∀ a xs ds, Rd H a (.tup xs) → R xs ds → P (.ref a) (.tuple ds)) (h6 : ∀ a xs ds, H a = some (.lst xs) → a ∉ S → a ≠ sysModules → R xs ds → P (.ref a) (.list ds)) (h7 : ∀ a, H a = some (.dK []) → a ∉ S → P (.ref a) (.dict []))
    (h8 : R [] []) (h9 : ∀ v vs d ds, P v d → R vs ds → R (v :: vs) (d :: ds)) : (∀ {v d}, Dg H S v d → P v d) ∧ ∀ {vs ds}, DgAll H S vs ds → R vs ds :=
  ⟨fun {v d} x => Dg.rec (motive_1 := fun v d _ => P v d) (motive_2 := fun vs ds _ => R vs ds) h1 h2 h3 h4 (fun t _ ih => h5 _ _ _ t ih) (fun a b c _ ih => h6 _ _ _ a b c ih) (fun a b => h7 _ a b) h8 (fun _ _ a b => h9 _ _ _ _ a b) x,
   fun {vs ds} x => DgAll.rec (motive_1 := fun v d _ => P v d) (motive_2 := fun vs ds _ => R vs ds) h1 h2 h3 h4 (fun t _ ih => h5 _ _ _ t ih) (fun a b c _ ih => h6 _ _ _ a b c ih) (fun a b => h7 _ a b) h8 (fun _ _ a b => h9 _ _ _ _ a b) x⟩
theorem Dg.both (k : Kp S H H') (m : Mu H S) : (∀ {v d}, Dg H S v d → Dg H' S v d) ∧ ∀ {vs ds}, DgAll H S vs ds → DgAll H' S vs ds :=
  Dg.ind .non .bl .int .str (fun a xs ds t r => .tup (rd_keepM t k m) r) (fun a xs ds e n z r => .lst (k a _ n e) n z r) (fun a e n => .d0 (k a _ n e) n) .nil (fun _ _ _ _ a b => .cons a b)
theorem Dg.keep {v : V} {d : PyData} (h : Dg H S v d) (k : Kp S H H') (m : Mu H S) : Dg H' S v d := (Dg.both k m).1 h
theorem DgAll.keep {v : List V} {d : List PyData} (h : DgAll H S v d) (k : Kp S H H') (m : Mu H S) : DgAll H' S v d := (Dg.both k m).2 h
theorem Dg.keep0 {v : V} {d : PyData} (h : Dg H S v d) (k : Kp [] H H') : Dg H' S v d :=
  (Dg.ind (H := H) (S := S) (P := fun v d => Dg H' S v d) (R := fun vs ds => DgAll H' S vs ds) .non .bl .int .str (fun a xs ds t r => .tup (rd_keep0 t k) r) (fun a xs ds e n z r => .lst (k.at0 e) n z r) (fun a e n => .d0 (k.at0 e) n) .nil (fun _ _ _ _ a b => .cons a b)).1 h
theorem DgAll.keep0 {v : List V} {d : List PyData} (h : DgAll H S v d) (k : Kp [] H H') : DgAll H' S v d :=
  (Dg.ind (H := H) (S := S) (P := fun v d => Dg H' S v d) (R := fun vs ds => DgAll H' S vs ds) .non .bl .int .str (fun a xs ds t r => .tup (rd_keep0 t k) r) (fun a xs ds e n z r => .lst (k.at0 e) n z r) (fun a e n => .d0 (k.at0 e) n) .nil (fun _ _ _ _ a b => .cons a b)).2 h
theorem Dg.subs (n : ∀ a ∈ T, a ∈ S ∨ H a = none) : (∀ {v d}, Dg H S v d → Dg H T v d) ∧ ∀ {vs ds}, DgAll H S vs ds → DgAll H T vs ds := by
  have out : ∀ {a : Addr} {o : HO}, H a = some o → a ∉ S → a ∉ T := fun {a o} e h z => by
    rcases n a z with q | q
    · exact h q
    · rw [e] at q
      cases q
  exact Dg.ind .non .bl .int .str (fun a xs ds t r => .tup t r) (fun a xs ds e m z r => .lst e (out e m) z r) (fun a e m => .d0 e (out e m)) .nil (fun _ _ _ _ a b => .cons a b)
theorem Dg.sub {v : V} {d : PyData} (h : Dg H S v d) (n : ∀ a ∈ T, a ∈ S ∨ H a = none) : Dg H T v d := (Dg.subs n).1 h
theorem DgAll.sub {v : List V} {d : List PyData} (h : DgAll H S v d) (n : ∀ a ∈ T, a ∈ S ∨ H a = none) : DgAll H T v d := (Dg.subs n).2 h
theorem Dg.rps {K : PySem.W.Frag} : (∀ {v d}, Dg H S v d → Rp K H v d) ∧ ∀ {vs ds}, DgAll H S vs ds → RpAll K H vs ds :=
  Dg.ind rp_non rp_bl rp_int rp_str (fun a xs ds t r => rp_tupR t r) (fun a xs ds e _ z r => rp_lst z e r) (fun a e _ => rp_d0 e) rp_nil (fun _ _ _ _ a b => rp_cons a b)
theorem Dg.rp {K : PySem.W.Frag} {v : V} {d : PyData} (h : Dg H S v d) : Rp K H v d := Dg.rps.1 h
/-! taken apart -/
theorem dg_tup {v : V} {ds : List PyData} (h : Dg H S v (.tuple ds)) : ∃ a xs, v = .ref a ∧ Rd H a (.tup xs) ∧ DgAll H S xs ds := by
  cases h with
  | tup a b => exact ⟨_, _, rfl, a, b⟩
theorem dg_int {v : V} {i : Int} (h : Dg H S v (.int i)) : v = .int i := by cases h; rfl
theorem dg_str {v : V} {i : Str} (h : Dg H S v (.str i)) : v = .str i := by cases h; rfl
theorem dg_nil {xs : List V} (h : DgAll H S xs []) : xs = [] := by cases h; rfl
theorem dg_cons {xs : List V} {d : PyData} {ds : List PyData} (h : DgAll H S xs (d :: ds)) : ∃ v vs, xs = v :: vs ∧ Dg H S v d ∧ DgAll H S vs ds := by
  cases h with
  | cons a b => exact ⟨_, _, rfl, a, b⟩
theorem dgAll_len : ∀ {xs : List V} {ds : List PyData}, DgAll H S xs ds → xs.length = ds.length
  | _, [], h => by rw [dg_nil h]; rfl
  | _, d :: ds, h => by
    obtain ⟨v, vs, rfl, _, b⟩ := dg_cons h
    rw [List.length_cons, List.length_cons, dgAll_len b]
theorem DgAll.append : ∀ {xs ys : List V} {ds es : List PyData}, DgAll H S xs ds → DgAll H S ys es → DgAll H S (xs ++ ys) (ds ++ es)
  | _, _, [], _, h, g => by rw [dg_nil h]; exact g
  | _, _, d :: ds, _, h, g => by
    obtain ⟨v, vs, rfl, a, b⟩ := dg_cons h
    exact .cons a (DgAll.append b g)
theorem DgAll.at : ∀ {xs : List V} {ds : List PyData} {i : Nat} {v : V}, DgAll H S xs ds → xs[i]? = some v → ∃ d, ds[i]? = some d ∧ Dg H S v d
  | _, [], i, v, h, e => by rw [dg_nil h] at e; cases e
  | _, d :: ds, 0, v, h, e => by
    obtain ⟨w, ws, rfl, a, b⟩ := dg_cons h
    cases e
    exact ⟨d, rfl, a⟩
  | _, d :: ds, i + 1, v, h, e => by
    obtain ⟨w, ws, rfl, a, b⟩ := dg_cons h
    exact DgAll.at (i := i) b (by simpa using e)
theorem DgAll.take : ∀ {xs : List V} {ds : List PyData} (n : Nat), DgAll H S xs ds → DgAll H S (xs.take n) (ds.take n)
  | _, _, 0, h => .nil
  | _, [], n + 1, h => by rw [dg_nil h]; exact .nil
  | _, d :: ds, n + 1, h => by
    obtain ⟨v, vs, rfl, a, b⟩ := dg_cons h
    exact .cons a (DgAll.take n b)
theorem DgAll.drop : ∀ {xs : List V} {ds : List PyData} (n : Nat), DgAll H S xs ds → DgAll H S (xs.drop n) (ds.drop n)
  | _, _, 0, h => h
  | _, [], n + 1, h => by rw [dg_nil h]; exact .nil
  | _, d :: ds, n + 1, h => by
    obtain ⟨v, vs, rfl, a, b⟩ := dg_cons h
    exact DgAll.drop n b
theorem DgAll.reverse : ∀ {xs : List V} {ds : List PyData}, DgAll H S xs ds → DgAll H S xs.reverse ds.reverse
  | _, [], h => by rw [dg_nil h]; exact .nil
  | _, d :: ds, h => by
    obtain ⟨v, vs, rfl, a, b⟩ := dg_cons h
    rw [List.reverse_cons, List.reverse_cons]
    exact DgAll.append (DgAll.reverse b) (.cons a .nil)
mutual
theorem Dg.ofDq {K : PySem.W.Frag} : ∀ (d : PyData) (v : V), noL d = true → Dq K H v d → Dg H S v d
  | .none, _, _, h => by cases h; exact .non
  | .bool b, _, _, h => by cases h; exact .bl b
  | .int i, _, _, h => by cases h; exact .int i
  | .str x, _, _, h => by cases h; exact .str x
  | .list ds, _, n, h => by rw [noL] at n; cases n
  | .tuple ds, _, n, h => by
    rw [noL] at n
    cases h with
    | tup h1 h2 => exact .tup h1.rd (DgAll.ofDq ds _ n h2)
  | .dict _, _, _, h => by cases h
theorem DgAll.ofDq {K : PySem.W.Frag} : ∀ (ds : List PyData) (vs : List V), noLs ds = true → DqAll K H vs ds → DgAll H S vs ds
  | [], _, _, h => by cases h; exact .nil
  | d :: ds, _, n, h => by
    rw [noLs, Bool.and_eq_true] at n
    cases h with
    | cons h1 h2 => exact .cons (Dg.ofDq d _ n.1 h1) (DgAll.ofDq ds _ n.2 h2)
end
end
/-! ### its kind -/
def knd : PyData → String
  | .none => "NoneType"
  | .bool _ => "bool"
  | .int _ => "int"
  | .str _ => "str"
  | .tuple _ => "tuple"
  | .list _ => "list"
  | .dict _ => "dict"
theorem Dg.ty {K : PySem.W.Frag} {H : Hp} {S : List Addr} {v : V} {d : PyData} (h : Dg H S v d) : TyX K H v (.type (knd d)) := by
  cases h with
  | non => exact .base .non
  | bl b => exact .base (.bl b)
  | int i => exact .base (.int i)
  | str x => exact .base (.str x)
  | tup t _ => rcases t with e | ⟨o, e⟩; exact .base (.tup e); exact .fTuple e
  | lst e _ _ _ => exact .base (.lst e)
  | d0 e _ => exact .base (.dK e)
theorem r_isG {K : PySem.W.Frag} {H : Hp} {S : List Addr} {Q : VK} {v : V} {d : PyData} {T : String} {b : Bool} (h : Dg H S v d) (k : kitB (knd d) T = some b) (q : Q (.bl b) H) : rIsi K [v, .ty T] H Q := ⟨v, .ty T, _, _, b, rfl, .ty T, h.ty, kit_ty k, q⟩
theorem kit_str (d : PyData) : kitB (knd d) "str" = some (match d with | .str _ => true | _ => false) := by
  cases d with
  | none => exact (by decide +kernel : kitB "NoneType" "str" = some false)
  | bool b => exact (by decide +kernel : kitB "bool" "str" = some false)
  | int i => exact (by decide +kernel : kitB "int" "str" = some false)
  | str x => exact (by decide +kernel : kitB "str" "str" = some true)
  | list ds => exact (by decide +kernel : kitB "list" "str" = some false)
  | tuple ds => exact (by decide +kernel : kitB "tuple" "str" = some false)
  | dict ds => exact (by decide +kernel : kitB "dict" "str" = some false)
theorem kit_tup (d : PyData) : kitB (knd d) "tuple" = some (match d with | .tuple _ => true | _ => false) := by
  cases d with
  | none => exact (by decide +kernel : kitB "NoneType" "tuple" = some false)
  | bool b => exact (by decide +kernel : kitB "bool" "tuple" = some false)
  | int i => exact (by decide +kernel : kitB "int" "tuple" = some false)
  | str x => exact (by decide +kernel : kitB "str" "tuple" = some false)
  | list ds => exact (by decide +kernel : kitB "list" "tuple" = some false)
  | tuple ds => exact (by decide +kernel : kitB "tuple" "tuple" = some true)
  | dict ds => exact (by decide +kernel : kitB "dict" "tuple" = some false)
theorem kit_int (d : PyData) : kitB (knd d) "int" = some (match d with | .int _ => true | .bool _ => true | _ => false) := by
  cases d with
  | none => exact (by decide +kernel : kitB "NoneType" "int" = some false)
  | bool b => exact (by decide +kernel : kitB "bool" "int" = some true)
  | int i => exact (by decide +kernel : kitB "int" "int" = some true)
  | str x => exact (by decide +kernel : kitB "str" "int" = some false)
  | list ds => exact (by decide +kernel : kitB "list" "int" = some false)
  | tuple ds => exact (by decide +kernel : kitB "tuple" "int" = some false)
  | dict ds => exact (by decide +kernel : kitB "dict" "int" = some false)
theorem kit_bool (d : PyData) : kitB (knd d) "bool" = some (match d with | .bool _ => true | _ => false) := by
  cases d with
  | none => exact (by decide +kernel : kitB "NoneType" "bool" = some false)
  | bool b => exact (by decide +kernel : kitB "bool" "bool" = some true)
  | int i => exact (by decide +kernel : kitB "int" "bool" = some false)
  | str x => exact (by decide +kernel : kitB "str" "bool" = some false)
  | list ds => exact (by decide +kernel : kitB "list" "bool" = some false)
  | tuple ds => exact (by decide +kernel : kitB "tuple" "bool" = some false)
  | dict ds => exact (by decide +kernel : kitB "dict" "bool" = some false)
/-! ### compared with () -/
def isT0 : PyData → Bool
  | .tuple [] => true
  | _ => false
def rEqN : R2 := fun x y H Q => ∃ (d : PyData) (S : List Addr) (e : Addr), Dg H S x d ∧ y = .ref e ∧ Tm H e [] ∧ Q (.bl (isT0 d)) H
def rNeN : R2 := fun x y H Q => ∃ (ds : List PyData) (S : List Addr) (e : Addr), Dg H S x (.tuple ds) ∧ y = .ref e ∧ Tm H e [] ∧ Q (.bl (!ds.isEmpty)) H
theorem dict_declines (l b : Addr) (es : Array DictEntry) (n n2 : Nat) (items2 : Array Value) (dd dd2 : Option Addr) (sl sl2 : Array (Option Value)) :
    Meets (Builtin.«dict.__eq__» ⟨[.ref l, .ref b], []⟩) (fun _ R s => s.heap.get? l = some { cls := .type "dict", dict := dd, data := .dict es n, slots := sl } ∧ s.heap.get? b = some { cls := .type "tuple", dict := dd2, data := .seq items2 n2, slots := sl2 } ∧ R (.ok (.ret .notImplemented)) s) :=
  .of_wp fun prog w A R s h => by
    obtain ⟨hp, g, d, tk, os⟩ := s
    obtain ⟨hl, hb, h⟩ := h
    have f1 : isSubtype (.type "tuple") (.type "dict") = pure false := by rw [isSubtype_type]; kernel_rfl
    wp_walk using AutoSeq1.wpAny_loadPart' hl, AutoSeq1.wpAny_loadPart' hb
    exact ⟨_, rfl, h⟩
theorem tuple_declines (l b : Addr) (es : Array DictEntry) (n n2 : Nat) (items2 : Array Value) (dd dd2 : Option Addr) (sl sl2 : Array (Option Value)) :
    Meets (Builtin.«tuple.__eq__» ⟨[.ref b, .ref l], []⟩) (fun _ R s => s.heap.get? b = some { cls := .type "tuple", dict := dd2, data := .seq items2 n2, slots := sl2 } ∧ s.heap.get? l = some { cls := .type "dict", dict := dd, data := .dict es n, slots := sl } ∧ R (.ok (.ret .notImplemented)) s) :=
  .of_wp fun prog w A R s h => by
    obtain ⟨hp, g, d, tk, os⟩ := s
    obtain ⟨hb, hl, h⟩ := h
    have f1 : isSubtype (.type "dict") (.type "tuple") = pure false := by rw [isSubtype_type]; kernel_rfl
    wp_walk using AutoSeq1.wpAny_loadPart' hl, AutoSeq1.wpAny_loadPart' hb
    exact ⟨_, rfl, h⟩
section
open PySem.SeqAt
variable {A : Around} {s : Shared}
theorem rc_dict_tuple {l b : Addr} {es : Array DictEntry} {items2 : Array Value} (hl : ∃ o n, s.heap.get? l = some o ∧ o.cls = .type "dict" ∧ o.data = .dict es n) (hb : s.heap.IsTuple b items2) (hu : A.units < cLine) : RcAt A s (.ref l) (.ref b) false := fun prog w E Q h => by
  obtain ⟨⟨cls, dd, data, sl⟩, n, ho, hc, hd⟩ := hl
  obtain ⟨⟨cls2, dd2, data2, sl2⟩, ho2, hc2, n2, hd2⟩ := id hb
  simp only at hc hd hc2 hd2
  subst hc hd hc2 hd2
  have ne : l ≠ b := fun e => by
    subst e
    exact absurd (congrArg Obj.cls (Option.some.inj (ho.symm.trans ho2))) (by simp)
  have fs : isSubtype (.type "tuple") (.type "dict") = pure false := by rw [isSubtype_type]; kernel_rfl
  exact (rc_eq_decline_or (k := false) ⟨_, ho, rfl⟩ ⟨_, ho2, rfl⟩ (by decide) fs F.slot_dict_eq F.slot_tuple_eq_refl
    (fun _ q => call_meets F.slot_dict_eq ⟨_, ho, rfl⟩ F.entry_dict_eq (F.args_dict_eq_2 _ _) (dict_declines l b es n n2 items2 dd dd2 sl sl2) ⟨ho, ho2, q⟩)
    (fun _ q => call_meets F.slot_tuple_eq_refl ⟨_, ho2, rfl⟩ F.entry_tuple_eq (F.args_tuple_eq_2 _ _) (tuple_declines l b es n n2 items2 dd dd2 sl sl2) ⟨ho2, ho, q⟩)
    (fun _ q => wpAny_isSame_ref_other ne ho ho2 (by simp) q) (.inr hu) h)
end
section
variable {X : Cx}
theorem isTup_of {s : Shared} {a : Addr} {its : List Value} (h : IsTup s.heap a its.toArray) : s.heap.IsTuple a its.toArray := h
theorem op_eqN {k : Nat} (hr : RoomG k X.A) : OpR X (compareOp .Eq) rEqN := by
  intro pins s σ H x y v u Q I rx ry h
  obtain ⟨d, S, e, hd, rfl, he, q⟩ := h
  have hu : X.A.units < cLine := by have := hr.units; omega
  cases ry
  obtain ⟨its, r0, t0, _⟩ := I.tuple he.sq
  cases r0
  have fin : ∀ b, isT0 d = b → EP X pins σ Q (.bool b) s := fun b z => ⟨.bl b, H, I, rfl, by rw [← z]; exact q⟩
  cases hd with
  | non => cases rx; exact PySem.SeqAt.RcAt.none_tuple t0 hu X.prog X.w X.xe _ (fin _ rfl)
  | bl b => cases rx; exact PySem.SeqAt.RcAt.bool_tuple b t0 hu X.prog X.w X.xe _ (fin _ rfl)
  | int i => obtain ⟨t, rfl⟩ := rx; exact PySem.SeqAt.RcAt.int_tuple i t t0 hu X.prog X.w X.xe _ (fin _ rfl)
  | str z => obtain ⟨t, rfl⟩ := rx; exact PySem.SeqAt.RcAt.str_tuple z t t0 hu X.prog X.w X.xe _ (fin _ rfl)
  | @tup a xs ds t ha =>
    cases rx
    obtain ⟨it2, r2, t2, _⟩ := I.tuple (show SqT X.K H a xs from .inl t)
    refine PySem.SeqAt.RcAt.tuples (e := fun _ => true) t2 t0 hu (fun j h1 h2 => absurd h2 (by simp)) X.prog X.w X.xe _ (fin _ ?_)
    cases ds with
    | nil =>
      rw [dg_nil ha] at r2
      cases r2
      rfl
    | cons d ds =>
      obtain ⟨w0, ws, rfl, _, _⟩ := dg_cons ha
      cases r2 with
      | cons _ _ => simp [isT0]
  | @lst a xs ds e1 _ _ ha =>
    cases rx
    obtain ⟨it2, r2, t2, _⟩ := I.list (show SqL X.K H a xs from .inl (.inl e1))
    exact PySem.SeqAt.RcAt.list_tuple t2.isList t0 hu X.prog X.w X.xe _ (fin _ rfl)
  | @d0 a e1 _ =>
    cases rx
    obtain ⟨_, _, vs, rel, o, es, ep, g1, g2, g3, _⟩ := dk_of I.hok e1
    exact rc_dict_tuple ⟨o, ep, g1, g2.1, g3⟩ t0 hu X.prog X.w X.xe _ (fin _ rfl)
theorem op_neN {k : Nat} (hr : RoomG k X.A) : OpR X (compareOp .NotEq) rNeN := by
  intro pins s σ H x y v u Q I rx ry h
  obtain ⟨ds, S, e, hd, rfl, he, q⟩ := h
  have hu : X.A.units < cLine := by have := hr.units; omega
  cases ry
  obtain ⟨its, r0, t0, _⟩ := I.tuple he.sq
  cases r0
  obtain ⟨a, xs, rfl, t, ha⟩ := dg_tup hd
  cases rx
  obtain ⟨it2, r2, t2, _⟩ := I.tuple (show SqT X.K H a xs from .inl t)
  refine PySem.SeqAt.RcNeAt.tuples (e := fun _ => true) t2 t0 hu (fun j h1 h2 => absurd h2 (by simp)) X.prog X.w X.xe _ ⟨.bl _, H, I, rfl, ?_⟩
  cases ds with
  | nil =>
    rw [dg_nil ha] at r2
    cases r2
    exact q
  | cons d ds =>
    obtain ⟨w0, ws, rfl, _, _⟩ := dg_cons ha
    cases r2 with
    | cons _ _ => simpa using q
end
end L2.Rx

end
section
set_option Elab.async false
set_option linter.all false
set_option maxRecDepth 100000
set_option maxHeartbeats 4000000
local macro_rules | `(tactic| walk_at "rd1") => `(tactic| with_reducible first
  | refine L2.Rx.r_seq ?_ | refine L2.Rx.r_asg ?_ | refine L2.Rx.r_gname ?_ | refine L2.Rx.r_op ?_ | refine L2.Rx.r_c ?_
  | refine L2.Rx.r_var rfl ?_
  | refine L2.Rx.r_rI0 ?_ | refine L2.Rx.r_test ?_ | refine L2.Rx.r_bl ?_ | refine L2.Rx.r_if ?_ | refine L2.Rx.r_ret ?_
  | refine L2.Rx.r_cons ?_ | refine L2.Rx.r_nil ?_ | refine L2.Rx.r_call ?_ | refine L2.Rx.r_cb ?_ | refine L2.Rx.r_next ?_ | refine L2.Rx.r_drop ?_
  | refine L2.Rx.r_gsub ?_ | refine L2.Rx.r_tupF ?_ | refine L2.Rx.r_lst ?_ | refine L2.Rx.r_par ?_ | refine L2.Rx.r_par2 ?_
  | refine L2.Rx.r_un ?_ | refine L2.Rx.r_tb ?_ | refine L2.Rx.r_and ?_ | refine L2.Rx.r_or ?_ | refine L2.Rx.r_not ?_
  | refine L2.Rx.r_andV ?_ | refine L2.Rx.r_orV ?_ | refine L2.Rx.r_notV ?_ | refine L2.Rx.r_ifx ?_ | refine L2.Rx.r_chain ?_
  | refine L2.Rx.r_sl ?_ | refine L2.Rx.r_nopart ?_ | refine L2.Rx.r_part ?_ | refine L2.Rx.r_exint ?_ | refine L2.Rx.r_bm0 ?_ | refine L2.Rx.r_bm ?_
  | refine L2.Rx.r_lc ?_ | refine L2.Rx.r_rng1 ?_ | refine L2.Rx.r_yes ?_ | refine L2.Rx.r_tt ?_ | refine L2.Rx.r_ff ?_ | refine L2.Rx.r_m1 ?_ | refine L2.Rx.r_m0 ?_ | refine L2.Rx.r_isS ?_
  | (refine L2.Rx.r_wipe (by with_unfolding_all rfl) ?_) | (refine L2.Rx.r_tyL (by walk_at "hp") ?_)
  | refine L2.Rx.r_addS (by walk_at "len") ?_ | refine L2.Rx.r_lenS (by walk_at "len") ?_ | refine L2.Rx.r_slS (by walk_at "len") ?_
  | refine L2.Rx.r_dnotin ?_ | refine L2.Rx.r_dget ?_ | refine L2.Rx.r_dget1 ?_ | refine L2.Rx.r_dput ?_ | refine L2.Rx.r_dpop1 ?_ | refine L2.Rx.r_isN ?_
  | refine L2.Rx.r_for ?_ | refine L2.Rx.r_ilist ?_ | refine L2.Rx.r_itup ?_
  | refine L2.Rx.r_gcons ?_ | refine L2.Rx.r_gnil ?_ | (refine L2.Rx.r_gtupP (by assumption) (by walk_at "at") ?_)
  | (refine L2.Rx.r_rEq rfl ?_) | (refine L2.Rx.r_rNe rfl ?_)
  | refine L2.Rx.r_rU ?_ | refine L2.Rx.r_max2 ?_ | refine L2.Rx.r_min2 ?_ | refine L2.Rx.r_int1i ?_ | (refine L2.Rx.r_lenh (by walk_at "hp") ?_)
  | (refine L2.Rx.r_ixLh (by walk_at "hp") (by walk_at "at") ?_)
  | (refine L2.Rx.r_setL (by walk_at "hp") (by walk_at "at") ?_))
local macro_rules | `(tactic| walk_at "at") => `(tactic| with_unfolding_all rfl)
local macro_rules | `(tactic| walk_at "rd") => `(tactic| (repeat walk_at "rd1"))
local macro_rules | `(tactic| walk_at "hp") => `(tactic| first
  | assumption
  | exact L2.upd_same
  | (refine Eq.trans (L2.upd_ne ?_) ?_; (focus walk_at "ne"); (focus walk_at "hp"))
  | (refine L2.Rx.Kp.at0 (by assumption) ?_; walk_at "hp")
  | (refine L2.Rx.Kp.at1 (by assumption) ?_ ?_; (focus walk_at "ne"); (focus walk_at "hp")))
local macro_rules | `(tactic| walk_at "ne") => `(tactic| first
  | assumption | exact Ne.symm (by assumption)
  | (refine L2.ne_of_none (H := ?nH) (o := ?nO) ?nh ?nn; (case nn => assumption); (case nh => walk_at "hp"))
  | (refine Ne.symm (L2.ne_of_none (H := ?nH) (o := ?nO) ?nh ?nn); (case nn => assumption); (case nh => walk_at "hp")))
local macro_rules | `(tactic| walk_at "len") => `(tactic| (rw [PySem.sizeLine_eq]; omega))
local macro_rules | `(tactic| walk_at "nin") => `(tactic| first
  | exact List.not_mem_nil
  | (refine L2.Rx.nin1 ?_; walk_at "ne"))
local macro_rules | `(tactic| walk_at "none") => `(tactic| first
  | assumption
  | (refine L2.Rx.Kp.none0 (by assumption) ?_ ?_; (focus walk_at "nin"); (focus walk_at "none")))
namespace L2.Rx
open PySem PySem.Spec PyProof.Rows
/-! ### how great an object is -/
mutual
def gd : PyData → Bool
  | .none => true
  | .bool _ => true
  | .int i => decide (i.natAbs < 10 ^ 12)
  | .str x => PyData.strOk x && decide (x.length ≤ 1000)
  | .list ds => gds ds
  | .tuple ds => gds ds
  | .dict kvs => kvs.isEmpty
def gds : List PyData → Bool
  | [] => true
  | d :: ds => gd d && gds ds
end
mutual
/-- how many leaves at most -/
def tl : PyData → Nat
  | .tuple ds => (if ds.isEmpty then 1 else 0) + tls ds
  | .none => 0
  | .bool _ => 0
  | .int _ => 0
  | .str _ => 0
  | .list _ => 0
  | .dict _ => 0
def tls : List PyData → Nat
  | [] => 0
  | d :: ds => tl d + tls ds
end
mutual
/-- how many signs its repr has at most -/
def wt : PyData → Nat
  | .none => 8
  | .bool _ => 8
  | .int _ => 24
  | .str x => 10 * x.length + 8
  | .list ds => wts ds + 8
  | .tuple ds => wts ds + 8
  | .dict _ => 8
def wts : List PyData → Nat
  | [] => 0
  | d :: ds => wt d + 2 + wts ds
end
theorem gds_mem {ds : List PyData} : gds ds = true ↔ ∀ d ∈ ds, gd d = true := by
  induction ds with
  | nil => simp [gds]
  | cons d ds ih => simp [gds, ih]
theorem gds_app (a b : List PyData) : gds (a ++ b) = (gds a && gds b) := by
  induction a with
  | nil => simp [gds]
  | cons d ds ih => simp [gds, ih, Bool.and_assoc]
theorem tls_app (a b : List PyData) : tls (a ++ b) = tls a + tls b := by
  induction a with
  | nil => simp [tls]
  | cons d ds ih => simp [tls, ih]; omega
theorem wts_app (a b : List PyData) : wts (a ++ b) = wts a + wts b := by
  induction a with
  | nil => simp [wts]
  | cons d ds ih => simp [wts, ih]; omega
theorem depthAll_app (a b : List PyData) : PyData.depthAll (a ++ b) = max (PyData.depthAll a) (PyData.depthAll b) := by
  induction a with
  | nil => simp [PyData.depthAll]
  | cons d ds ih => rw [List.cons_append, PyData.depthAll, PyData.depthAll, ih, Nat.max_assoc]
theorem depth_le_all {d : PyData} : ∀ {ds : List PyData}, d ∈ ds → d.depth ≤ PyData.depthAll ds
  | [], h => by cases h
  | e :: ds, h => by
    rw [PyData.depthAll]
    rcases List.mem_cons.mp h with q | q
    · subst q; omega
    · have := depth_le_all q; omega
theorem textFrom_up : ∀ (ts : List Str) (k : Nat) (acc : Str), (textFrom k acc ts).length ≤ acc.length + piled ts
  | [], k, acc => by rw [piled_nil]; exact Nat.le_refl _
  | t :: ts, k, acc => by
    have := textFrom_up ts (k + 1) (acc ++ (if k > 0 then ", " else "" : String) ++ t)
    rw [piled_cons]
    refine Nat.le_trans this ?_
    rw [strLen_append, strLen_append]
    have : (Str.ofString (if k > 0 then ", " else "")).length ≤ 2 := by split <;> decide +kernel
    omega
theorem listText_up (ts : List Str) : (listText ts).length ≤ piled ts + 2 := by
  unfold listText
  rw [strLen_append]
  have := textFrom_up ts 0 "["
  have e1 : (Str.ofString "[").length = 1 := by decide +kernel
  have e2 : (Str.ofString "]").length = 1 := by decide +kernel
  omega
theorem tupleText_up (ts : List Str) : (tupleText ts).length ≤ piled ts + 3 := by
  unfold tupleText
  rw [strLen_append, strLen_append]
  have e1 : (Str.ofString "(").length = 1 := by decide +kernel
  have e2 : (Str.ofString (if (ts.length == 1) = true then ",)" else ")")).length ≤ 2 := by split <;> decide +kernel
  by_cases h : ts = []
  · subst h
    have : (Str.join ", " []).length = 0 := by decide +kernel
    omega
  · have := join_length_add ts h
    omega
mutual
theorem shown_wt : ∀ d : PyData, gd d = true → d.shown.length ≤ wt d ∧ d.showable = true
  | .none, _ => ⟨by rw [PyData.shown, wt]; decide +kernel, by rw [PyData.showable]⟩
  | .bool b, _ => ⟨by rw [PyData.shown, wt]; cases b <;> decide +kernel, by rw [PyData.showable]⟩
  | .int i, h => by
    rw [gd] at h
    have h' := of_decide_eq_true h
    refine ⟨Nat.le_trans (PyData.shown_int_le h') (by rw [wt]; decide), by rw [PyData.showable]; exact decide_eq_true (log2_small h')⟩
  | .str x, h => by
    rw [gd, Bool.and_eq_true] at h
    refine ⟨?_, by rw [PyData.showable]⟩
    rw [PyData.shown, wt]
    have hx : ∀ c ∈ x.cps.toList, c < 16 ^ 8 := by
      have := h.1
      rw [PyData.strOk, ← Array.all_toList, List.all_eq_true] at this
      intro c hc
      have := of_decide_eq_true (this c hc)
      omega
    have := PySem.StrLaws.reprText_len x hx
    omega
  | .list ds, h => by
    rw [gd] at h
    obtain ⟨a, b⟩ := showns_wt ds h
    refine ⟨?_, by rw [PyData.showable]; exact b⟩
    rw [PyData.shown, wt]
    have := listText_up (PyData.shownAll ds)
    omega
  | .tuple ds, h => by
    rw [gd] at h
    obtain ⟨a, b⟩ := showns_wt ds h
    refine ⟨?_, by rw [PyData.showable]; exact b⟩
    rw [PyData.shown, wt]
    have := tupleText_up (PyData.shownAll ds)
    omega
  | .dict [], _ => ⟨by rw [PyData.shown, wt]; decide +kernel, by rw [PyData.showable, PyData.showableKv]⟩
  | .dict (_ :: _), h => by rw [gd] at h; cases h
theorem showns_wt : ∀ ds : List PyData, gds ds = true → piled (PyData.shownAll ds) ≤ wts ds ∧ PyData.showableAll ds = true
  | [], _ => ⟨by rw [PyData.shownAll, wts]; decide, by rw [PyData.showableAll]⟩
  | d :: ds, h => by
    rw [gds, Bool.and_eq_true] at h
    obtain ⟨a, b⟩ := shown_wt d h.1
    obtain ⟨a', b'⟩ := showns_wt ds h.2
    refine ⟨?_, by rw [PyData.showableAll, b, b']; rfl⟩
    rw [PyData.shownAll, piled_cons, wts]
    omega
end
/-- bounds that are kept through the law -/
structure Bd (t dp w : Nat) (d : PyData) : Prop where
  g : gd d = true
  t : tl d ≤ t
  dp : d.depth ≤ dp
  w : wt d ≤ w
theorem Bd.mono {t dp w t' dp' w' : Nat} {d : PyData} (h : Bd t dp w d) (a : t ≤ t') (b : dp ≤ dp') (c : w ≤ w') : Bd t' dp' w' d := ⟨h.g, Nat.le_trans h.t a, Nat.le_trans h.dp b, Nat.le_trans h.w c⟩
/-- repr of such an object -/
def rReprG (K : PySem.W.Frag) : List V → Hp → VK → Prop := fun xs H Q => ∃ (v : V) (d : PyData) (S : List Addr), xs = [v] ∧ Dg H S v d ∧ gd d = true ∧ d.depth ≤ 60 ∧ wt d ≤ 10000000 ∧ Q (.str d.shown) H
theorem call_reprG {X : Cx} {k : Nat} (hr : RoomG k X.A) : CallR X (.builtin "repr") (rReprG X.K) := by
  intro pins s σ H xs us Q I r h
  obtain ⟨v, d, S, rfl, hd, hg, hdp, hz, q⟩ := h
  obtain ⟨u, rfl, ru⟩ := vals1 r
  obtain ⟨as, rd, na⟩ := hd.rp (K := X.K) X pins σ s u rfl I ru
  obtain ⟨hl, hs⟩ := shown_wt d hg
  have hz' : d.shown.length ≤ sizeLine := by rw [sizeLine_eq]; omega
  have hu : X.A.units + (d.depth + 1) < cLine := by have := hr.units; omega
  have fin : ∀ h' t tk, (∀ b o, s.heap.get? b = some o → h'.get? b = some o) → EP X pins σ Q (.str d.shown t) { s with heap := h', toks := tk } := fun h' t tk hk => ⟨.str d.shown, H, I.kept hk, ⟨t, rfl⟩, q⟩
  cases hd with
  | lst _ _ _ _ => cases ru; exact repr_of_reads' rd hs (fun _ => na) hr.gd hu (fun _ _ e => e) fin hz'
  | tup _ _ => cases ru; exact repr_of_reads' rd hs (fun _ => na) hr.gd hu (fun _ _ e => e) fin hz'
  | d0 _ _ => cases ru; exact repr_of_reads' rd hs (fun _ => na) hr.gd hu (fun _ _ e => e) fin hz'
  | non => cases ru; exact PySem.P.repr_of_none ⟨.str _, H, I.tok _, ⟨_, rfl⟩, by simpa [PyData.shown] using q⟩
  | bl b => cases ru; exact PySem.P.repr_of_bool ⟨.str _, H, I.tok _, ⟨_, rfl⟩, by simpa [PyData.shown] using q⟩
  | int i => obtain ⟨t, rfl⟩ := ru; exact PySem.P.repr_of_int (by simpa [PyData.showable] using hs) ⟨.str _, H, I.tok _, ⟨_, rfl⟩, by simpa [PyData.shown] using q⟩
  | str y => obtain ⟨t, rfl⟩ := ru; exact PySem.P.repr_of_str ⟨.str _, H, I.tok _, ⟨_, rfl⟩, by simpa [PyData.shown] using q⟩ (by simpa [PyData.shown] using hz')
/-! ### what a reader is, on data -/
def cellB (c : Str) : Bool := decide (1 ≤ (c.length : Int)) && (decide ((c.length : Int) ≤ 8) && c.cps.toList.all fun x => decide (97 ≤ x) && decide (x ≤ 122))
def valB (i : Int) : Bool := decide (0 ≤ i) && decide (i ≤ 1000000000)
def brB : PyData → Bool
  | .tuple [.int v, _] => valB v
  | _ => false
def brV : PyData → Int
  | .tuple [.int v, _] => v
  | _ => 0
def brT : PyData → PyData
  | .tuple [_, t] => t
  | _ => .none
def ascF : Int → List Int → Bool
  | _, [] => true
  | a, x :: r => decide (a < x) && ascF x r
def ascB : List Int → Bool
  | [] => true
  | x :: r => ascF x r
def nodeB : PyData → Bool
  | .tuple [.str c, .tuple bs] => cellB c && (!bs.isEmpty && (bs.all brB && ascB (bs.map brV)))
  | _ => false
def brW (ah : Int) : PyData → Bool
  | .tuple [.int v, _] => decide (ah < v) && decide (v ≤ 1000000000)
  | _ => false
def chk (f : PyData → Option Nat) : Int → Nat → List PyData → Option Nat
  | _, lv, [] => some lv
  | ah, lv, b :: r => if brW ah b = true then (match f (brT b) with | some k => chk f (brV b) (lv + k) r | none => none) else none
/-- how many leaves, if it is a reader below these cells (not deeper than n) -/
def vd : Nat → PyData → List Str → Option Nat
  | 0, _, _ => none
  | n + 1, d, ab => match d with
    | .tuple [] => some 1
    | .tuple [.str c, .tuple bs] => if (cellB c && (!bs.isEmpty && !decide (c ∈ ab))) = true then chk (fun t => vd n t (ab ++ [c])) (-1) 0 bs else none
    | _ => none
theorem brW_of {ah : Int} {b : PyData} (h : brB b = true) (p : ah < brV b) : brW ah b = true := by
  unfold brB at h
  split at h
  · rename_i v t
    unfold valB at h
    simp only [Bool.and_eq_true, decide_eq_true_eq] at h
    have p' : ah < v := p
    simp [brW, p', h.2]
  · cases h
theorem brB_of {ah : Int} {b : PyData} (h : brW ah b = true) (p : -1 ≤ ah) : brB b = true ∧ ah < brV b := by
  unfold brW at h
  split at h
  · rename_i v t
    simp only [Bool.and_eq_true, decide_eq_true_eq] at h
    refine ⟨?_, h.1⟩
    simp only [brB, valB, Bool.and_eq_true, decide_eq_true_eq]
    omega
  · cases h
theorem chk_some (f : PyData → Option Nat) : ∀ (bs : List PyData) (ah : Int) (lv : Nat), bs.all brB = true → ascF ah (bs.map brV) = true → (chk f ah lv bs).isSome = bs.all fun b => (f (brT b)).isSome
  | [], _, _, _, _ => rfl
  | b :: r, ah, lv, h, g => by
    rw [List.all_cons, Bool.and_eq_true] at h
    rw [List.map_cons, ascF, Bool.and_eq_true, decide_eq_true_eq] at g
    rw [chk, if_pos (brW_of h.1 g.1), List.all_cons]
    cases e : f (brT b) with
    | none => rfl
    | some k => rw [chk_some f r (brV b) (lv + k) h.2 g.2]; rfl
theorem chk_none (f : PyData → Option Nat) : ∀ (bs : List PyData) (ah : Int) (lv : Nat), -1 ≤ ah → (chk f ah lv bs).isSome = true → bs.all brB = true ∧ ascF ah (bs.map brV) = true
  | [], _, _, _, _ => ⟨rfl, rfl⟩
  | b :: r, ah, lv, p, h => by
    rw [chk] at h
    by_cases w : brW ah b = true
    · rw [if_pos w] at h
      obtain ⟨h1, h2⟩ := brB_of w p
      cases e : f (brT b) with
      | none => rw [e] at h; cases h
      | some k =>
        rw [e] at h
        obtain ⟨a, c⟩ := chk_none f r (brV b) (lv + k) (by omega) h
        rw [List.all_cons, List.map_cons, ascF, h1, a, c, decide_eq_true h2]
        exact ⟨rfl, rfl⟩
    · rw [if_neg w] at h
      cases h
theorem asc_low {bs : List PyData} (h : bs.all brB = true) (g : ascB (bs.map brV) = true) : ascF (-1) (bs.map brV) = true := by
  cases bs with
  | nil => rfl
  | cons b r =>
    rw [List.all_cons, Bool.and_eq_true] at h
    rw [List.map_cons, ascF, Bool.and_eq_true, decide_eq_true_eq]
    refine ⟨?_, g⟩
    have h1 := h.1
    unfold brB at h1
    split at h1
    · rename_i v t
      unfold valB at h1
      simp only [Bool.and_eq_true, decide_eq_true_eq] at h1
      show -1 < v
      omega
    · cases h1
theorem asc_high {ah : Int} {ns : List Int} (h : ascF ah ns = true) : ascB ns = true := by
  cases ns with
  | nil => rfl
  | cons x r =>
    rw [ascF, Bool.and_eq_true] at h
    exact h.2
theorem vd_node {n : Nat} {c : Str} {bs : List PyData} {ab : List Str} (h : nodeB (.tuple [.str c, .tuple bs]) = true) : (vd (n + 1) (.tuple [.str c, .tuple bs]) ab).isSome = (!decide (c ∈ ab) && bs.all fun b => (vd n (brT b) (ab ++ [c])).isSome) := by
  simp only [nodeB, Bool.and_eq_true] at h
  obtain ⟨h1, h2, h3, h4⟩ := h
  rw [vd]
  by_cases m : c ∈ ab
  · rw [if_neg (by simp [m])]
    simp [m]
  · rw [if_pos (by simp [m, h1]; simpa using h2)]
    rw [chk_some _ bs (-1) 0 h3 (asc_low h3 h4)]
    simp [m]
theorem vd_bad {n : Nat} {d : PyData} {ab : List Str} (h0 : isT0 d = false) (h : nodeB d = false) : vd (n + 1) d ab = none := by
  unfold vd
  split
  · cases h0
  · rename_i c bs
    split
    · next hc =>
      cases e : (chk (fun t => vd n t (ab ++ [c])) (-1) 0 bs) with
      | none => rfl
      | some k =>
        obtain ⟨a, b⟩ := chk_none _ bs (-1) 0 (by omega) (by rw [e]; rfl)
        simp only [Bool.and_eq_true] at hc
        rw [nodeB, hc.1, hc.2.1, a, asc_high b] at h
        cases h
    · rfl
  · rfl
theorem chk_pos (f : PyData → Option Nat) (hf : ∀ t k, f t = some k → 1 ≤ k) : ∀ (bs : List PyData) (ah : Int) (lv k : Nat), chk f ah lv bs = some k → lv + bs.length ≤ k
  | [], _, lv, k, h => by rw [chk] at h; cases h; exact Nat.le_refl _
  | b :: r, ah, lv, k, h => by
    rw [chk] at h
    split at h
    · cases e : f (brT b) with
      | none => rw [e] at h; cases h
      | some m =>
        rw [e] at h
        have := chk_pos f hf r _ _ _ h
        have := hf _ _ e
        rw [List.length_cons]
        omega
    · cases h
theorem vd_pos : ∀ (n : Nat) (d : PyData) (ab : List Str) (k : Nat), vd n d ab = some k → 1 ≤ k
  | 0, _, _, _, h => by cases h
  | n + 1, d, ab, k, h => by
    unfold vd at h
    split at h
    · cases h; exact Nat.le_refl _
    · rename_i c bs
      split at h
      · next hc =>
        have := chk_pos _ (fun t k e => vd_pos n t _ k e) bs _ _ _ h
        simp only [Bool.and_eq_true] at hc
        have hb := hc.2.1
        cases bs with
        | nil => cases hb
        | cons b r => rw [List.length_cons] at this; omega
      · cases h
    · cases h
end L2.Rx

end
section
set_option Elab.async false
set_option linter.all false
set_option maxRecDepth 100000
set_option maxHeartbeats 4000000
local macro_rules | `(tactic| walk_at "rd1") => `(tactic| with_reducible first
  | refine L2.Rx.r_seq ?_ | refine L2.Rx.r_asg ?_ | refine L2.Rx.r_gname ?_ | refine L2.Rx.r_op ?_ | refine L2.Rx.r_c ?_
  | refine L2.Rx.r_var rfl ?_
  | refine L2.Rx.r_rI0 ?_ | refine L2.Rx.r_test ?_ | refine L2.Rx.r_bl ?_ | refine L2.Rx.r_if ?_ | refine L2.Rx.r_ret ?_
  | refine L2.Rx.r_cons ?_ | refine L2.Rx.r_nil ?_ | refine L2.Rx.r_call ?_ | refine L2.Rx.r_cb ?_ | refine L2.Rx.r_next ?_ | refine L2.Rx.r_drop ?_
  | refine L2.Rx.r_gsub ?_ | refine L2.Rx.r_tupF ?_ | refine L2.Rx.r_lst ?_ | refine L2.Rx.r_par ?_ | refine L2.Rx.r_par2 ?_
  | refine L2.Rx.r_un ?_ | refine L2.Rx.r_tb ?_ | refine L2.Rx.r_and ?_ | refine L2.Rx.r_or ?_ | refine L2.Rx.r_not ?_
  | refine L2.Rx.r_andV ?_ | refine L2.Rx.r_orV ?_ | refine L2.Rx.r_notV ?_ | refine L2.Rx.r_ifx ?_ | refine L2.Rx.r_chain ?_
  | refine L2.Rx.r_sl ?_ | refine L2.Rx.r_nopart ?_ | refine L2.Rx.r_part ?_ | refine L2.Rx.r_exint ?_ | refine L2.Rx.r_bm0 ?_ | refine L2.Rx.r_bm ?_
  | refine L2.Rx.r_lc ?_ | refine L2.Rx.r_rng1 ?_ | refine L2.Rx.r_yes ?_ | refine L2.Rx.r_tt ?_ | refine L2.Rx.r_ff ?_ | refine L2.Rx.r_m1 ?_ | refine L2.Rx.r_m0 ?_ | refine L2.Rx.r_isS ?_
  | (refine L2.Rx.r_wipe (by with_unfolding_all rfl) ?_) | (refine L2.Rx.r_tyL (by walk_at "hp") ?_)
  | refine L2.Rx.r_addS (by walk_at "len") ?_ | refine L2.Rx.r_lenS (by walk_at "len") ?_ | refine L2.Rx.r_slS (by walk_at "len") ?_
  | refine L2.Rx.r_dnotin ?_ | refine L2.Rx.r_dget ?_ | refine L2.Rx.r_dget1 ?_ | refine L2.Rx.r_dput ?_ | refine L2.Rx.r_dpop1 ?_ | refine L2.Rx.r_isN ?_
  | refine L2.Rx.r_for ?_ | refine L2.Rx.r_ilist ?_ | refine L2.Rx.r_itup ?_
  | refine L2.Rx.r_gcons ?_ | refine L2.Rx.r_gnil ?_ | (refine L2.Rx.r_gtupP (by assumption) (by walk_at "at") ?_)
  | (refine L2.Rx.r_rEq rfl ?_) | (refine L2.Rx.r_rNe rfl ?_)
  | refine L2.Rx.r_rU ?_ | refine L2.Rx.r_max2 ?_ | refine L2.Rx.r_min2 ?_ | refine L2.Rx.r_int1i ?_ | (refine L2.Rx.r_lenh (by walk_at "hp") ?_)
  | (refine L2.Rx.r_ixLh (by walk_at "hp") (by walk_at "at") ?_)
  | (refine L2.Rx.r_setL (by walk_at "hp") (by walk_at "at") ?_))
local macro_rules | `(tactic| walk_at "at") => `(tactic| with_unfolding_all rfl)
local macro_rules | `(tactic| walk_at "rd") => `(tactic| (repeat walk_at "rd1"))
local macro_rules | `(tactic| walk_at "hp") => `(tactic| first
  | assumption
  | exact L2.upd_same
  | (refine Eq.trans (L2.upd_ne ?_) ?_; (focus walk_at "ne"); (focus walk_at "hp"))
  | (refine L2.Rx.Kp.at0 (by assumption) ?_; walk_at "hp")
  | (refine L2.Rx.Kp.at1 (by assumption) ?_ ?_; (focus walk_at "ne"); (focus walk_at "hp")))
local macro_rules | `(tactic| walk_at "ne") => `(tactic| first
  | assumption | exact Ne.symm (by assumption)
  | (refine L2.ne_of_none (H := ?nH) (o := ?nO) ?nh ?nn; (case nn => assumption); (case nh => walk_at "hp"))
  | (refine Ne.symm (L2.ne_of_none (H := ?nH) (o := ?nO) ?nh ?nn); (case nn => assumption); (case nh => walk_at "hp")))
local macro_rules | `(tactic| walk_at "len") => `(tactic| (rw [PySem.sizeLine_eq]; omega))
local macro_rules | `(tactic| walk_at "nin") => `(tactic| first
  | exact List.not_mem_nil
  | (refine L2.Rx.nin1 ?_; walk_at "ne"))
local macro_rules | `(tactic| walk_at "none") => `(tactic| first
  | assumption
  | (refine L2.Rx.Kp.none0 (by assumption) ?_ ?_; (focus walk_at "nin"); (focus walk_at "none")))
namespace L2.HT3
open PySem PySem.Spec PyProof.Rows HT L2
section
variable {prog : Program} {w : World} {A : Around} {E : Value → Shared → Prop} {s : Shared}
theorem slicePlaces_rev (n : Nat) : Builtin.Slice.slicePlaces ((n : Int) - 1) (-1) (-1) = n := by
  unfold Builtin.Slice.slicePlaces
  rw [if_neg (by decide)]
  by_cases h : (n : Int) - 1 > -1
  · rw [if_pos h, show ((n : Int) - 1 - -1 - 1) / (- -1) + 1 = (n : Int) by rw [show (- -1 : Int) = 1 by decide, Int.ediv_one]; omega]
    exact Int.toNat_natCast n
  · rw [if_neg h]
    show (0 : Nat) = n
    omega
theorem sliceApplied_rev {sl : Addr} {vs : Value} {n : Nat} {Q : Int × Int × Nat → Shared → Prop} (hs : s.heap.IsSliceOf sl .none .none vs) (ps : IsPart vs (some (-1)))
    (h : Q ((n : Int) - 1, -1, n) s) : wpAny (model prog w) A (Builtin.Slice.sliceApplied (.ref sl) (pure (n : Int))) Q E s := by
  obtain ⟨os, hos, hcs, hds⟩ := id hs
  unfold Builtin.Slice.sliceApplied Builtin.Slice.sliceFields
  refine wpAny_bind (wpAny_bind (wpAny_field hos hds (x := .none) rfl (wpAny_bind (wpAny_field hos hds (x := .none) rfl (wpAny_bind (wpAny_field hos hds (x := vs) rfl (wpAny_pure ?_)))))))
  refine wpAny_bind (slicePart_ ps ?_)
  show wpAny _ _ (if ((-1 : Int) == 0) = true then _ else _) _ _ s
  rw [if_neg (by decide)]
  refine wpAny_bind (slicePart_none (wpAny_bind (slicePart_none (wpAny_bind (wpAny_pure ?_)))))
  show wpAny _ _ (pure (((n : Int) - 1), (-1 : Int), Builtin.Slice.slicePlaces ((n : Int) - 1) (-1) (-1))) _ _ s
  rw [slicePlaces_rev]
  exact wpAny_pure h
theorem pick_rev (xs : Array Value) : ((List.range xs.size).filterMap fun (m : Nat) => xs[(((xs.size : Int) - 1) + (m : Int) * (-1)).toNat]?).toArray = xs.toList.reverse.toArray := by
  rw [← PySem.W.krv_pick]
  unfold slicePick
  rw [PySem.W.krv_bounds]
  show _ = ((sliceRange ((xs.size : Int) - 1) (-1) (-1)).filterMap (xs[·]?)).toArray
  rw [PySem.W.krv_sliceRange, List.filterMap_map]
  have key : ∀ l : List Nat, (∀ m ∈ l, m < xs.size) → l.filterMap (fun (m : Nat) => xs[(((xs.size : Int) - 1) + (m : Int) * (-1)).toNat]?) = l.filterMap ((fun x => xs[x]?) ∘ fun k => xs.size - 1 - k) := by
    intro l
    induction l with
    | nil => intro _; rfl
    | cons m l ih =>
      intro h
      have := h m (List.mem_cons_self ..)
      have e : (((xs.size : Int) - 1) + (m : Int) * (-1)).toNat = xs.size - 1 - m := by omega
      rw [List.filterMap_cons, List.filterMap_cons, e, ih fun x hx => h x (List.mem_cons_of_mem _ hx)]
      rfl
  rw [key _ fun m hm => List.mem_range.mp hm]
theorem getItem_tuple_rev {t sl : Addr} {items : Array Value} {vs : Value} {Q : Value → Shared → Prop} (ht : IsTup s.heap t items) (hs : s.heap.IsSliceOf sl .none .none vs) (ps : IsPart vs (some (-1)))
    (h : Q (.ref s.heap.objs.size) { s with heap := s.heap.push { cls := .type "tuple", data := .seq items.toList.reverse.toArray } })
    (hsz : items.size ≤ sizeLine) : wpAny (model prog w) A (getItem (.ref t) (.ref sl)) Q E s := by
  have htake : sizeOk (.seq items.toList.reverse.toArray) := by
    show items.toList.reverse.toArray.size ≤ sizeLine
    rw [List.size_toArray, List.length_reverse, Array.length_toList]
    omega
  obtain ⟨os, hos, hcs, hds⟩ := id hs
  have hTs : s.TypeIs (.ref sl) "slice" := ⟨os, hos, hcs⟩
  unfold getItem
  try with_reducible refine wpAny_holding ?_
  first | refine wpAny_bind (wpAny_pure ?_) | skip
  refine wpAny_bind (wpAny_sequenceKey ht.typeIs (by decide) ?_)
  refine wpAny_bind (wpAny_callSpecial?_slot (name := Str.ofString "__getitem__") ht.typeIs PyProof.Rows.slot_tuple_getitem
    (wpAny_call_entry PyProof.Rows.slot_tuple_getitem ht.typeIs entry_tuple_getitem ?_ (args_tuple_getitem _ _)))
  show wpAny _ _ (Builtin.Tuple.tupleItemsOf (.ref t) >>= _) _ _ s
  refine wpAny_bind (tupleItemsOf_ ht ?_)
  refine wpAny_bind (wpAny_typeOf hTs ?_)
  rw [if_pos (by decide)]
  refine wpAny_bind (sliceApplied_rev hs ps ?_)
  have hno : ¬ ((((items.size : Int) - 1) == 0 && (-1 : Int) == 1 && items.size == items.size) = true) := by
    intro q
    rw [Bool.and_eq_true, Bool.and_eq_true] at q
    exact absurd q.1.2 (by decide)
  show wpAny _ _ (if (((items.size : Int) - 1) == 0 && (-1 : Int) == 1 && items.size == items.size) = true then _ else _) _ _ s
  rw [if_neg hno, pick_rev]
  first
    | exact wpAny_bind (m := Builtin.Tuple.tupleExact _) (wpAny_newObj_type (wpAny_pure ⟨_, rfl, wpAny_pure h⟩) htake)
    | exact wpAny_bind (m := Builtin.Tuple.tupleExact _) (wpAny_newObj_type (wpAny_bind (wpAny_pure (wpAny_pure ⟨_, rfl, wpAny_pure h⟩))) htake)
    | exact wpAny_bind (wpAny_bind (m := Builtin.Tuple.tupleExact _) (wpAny_newObj_type (wpAny_pure (wpAny_pure ⟨_, rfl, wpAny_pure h⟩)) htake))
    | exact wpAny_bind (wpAny_bind (m := Builtin.Tuple.tupleExact _) (wpAny_newObj_type (wpAny_pure ⟨_, rfl, wpAny_pure h⟩) htake))
end
end L2.HT3
namespace L2.Rx
open PySem PySem.Spec PyProof.Rows
section
variable {X : Cx} {K : PySem.W.Frag} {H : Hp} {Q : VK} {σ : St}
/-! ### t[::-1] -/
def tRevT (K : PySem.W.Frag) (te : TE) : TE := fun σ H Q => te σ H fun x H1 => ∃ a xs, x = .ref a ∧ SqT K H1 a xs ∧ ∀ p, H1 p = none → Q (.ref p) (upd H1 p (.tup xs.reverse))
theorem pe_revT {e : Expr} {te : TE} {k : Nat} {p1 p2 p3 pos : Pos} (he : PE X e te) : PE X (.Subscript e (.Slice none none (some (.UnaryOp .USub (.Constant (.int 1) k p1) p2)) p3) pos) (tRevT X.K te) := by
  refine ⟨fun pins s σ H Q I h => ?_⟩
  refine Subscript_ (thn (he.run pins s σ H _ I h) fun v s1 ⟨x, H1, I1, r1, q1⟩ => ?_)
  obtain ⟨a, xs, ex, hx, q⟩ := q1
  subst ex
  cases r1
  have hst : PO X (some (.UnaryOp .USub (.Constant (.int 1) k p1) p2)) (tPart (tUn (rU fun i => .int (-i)) (tC (.int 1)))) := po_some (pe_un un_neg pe_int)
  refine wpAny_Slice (thn (po_none.run pins s1 σ H1 (fun o H2 => o = none ∧ H2 = H1) I1 ⟨rfl, rfl⟩) fun vl s2 ⟨l, H2, I2, pl, el, e2⟩ => ?_)
  subst el e2
  refine thn (po_none.run pins s2 σ H2 (fun o H3 => o = none ∧ H3 = H2) I2 ⟨rfl, rfl⟩) fun vu s3 ⟨u, H3, I3, pu, eu, e3⟩ => ?_
  subst eu e3
  refine thn (hst.run pins s3 σ H3 (fun o H4 => o = some (-1) ∧ H4 = H3) I3 ⟨1, rfl, -1, rfl, rfl, rfl⟩) fun vs s4 ⟨o, H4, I4, ps, eo, e4⟩ => ?_
  subst eo e4
  have I5 : Inv X pins σ H4 { s4 with heap := s4.heap.push { cls := .type "slice", data := .fields #[vl, vu, vs] } } := I4.kept (t' := s4.toks) fun b ob q => Heap.get?_push_of_some _ q
  obtain ⟨its, r, ht, hz⟩ := I5.tuple hx
  have hlen := r.length
  cases pl
  cases pu
  show wpAny (model X.prog X.w) X.A (subscriptTail e (.Slice none none (some (.UnaryOp .USub (.Constant (.int 1) k p1) p2)) p3) (.ref a) (.ref s4.heap.objs.size)) (EP X pins σ Q) X.xe { s4 with heap := s4.heap.push { cls := .type "slice", data := .fields #[.none, .none, vs] } }
  refine tail_any (ops := [.ref a, .ref s4.heap.objs.size]) ht.typeIs (PyProof.Rows.slot_tuple_getitem.lookup) ?_ (by with_unfolding_all rfl)
  refine HT3.getItem_tuple_rev ht (Heap.IsSliceOf.new _ .none .none vs) ps ?_ (by rw [List.size_toArray]; omega)
  refine ⟨.ref _, _, I5.laid (t' := s4.toks) (o := .tup xs.reverse) (fun b ob q => Heap.get?_push_of_some _ q) (Nat.le_refl _) ?_, rfl, q _ (I5.hok.fresh (Nat.le_refl _))⟩
  exact ⟨by rw [List.length_reverse]; exact hz, _, r.reverse, IsTup.new _ _⟩
/-! ### a bool or an int + k, - k, str of it -/
def rAddIB : R2 := fun x y H Q => ∃ j : Int, y = .int j ∧ ((∃ i : Int, x = .int i ∧ Q (.int (i + j)) H) ∨ (∃ b : Bool, x = .bl b ∧ Q (.int ((if b = true then (1 : Int) else 0) + j)) H))
def rSubIB : R2 := fun x y H Q => ∃ j : Int, y = .int j ∧ ((∃ i : Int, x = .int i ∧ Q (.int (i - j)) H) ∨ (∃ b : Bool, x = .bl b ∧ Q (.int ((if b = true then (1 : Int) else 0) - j)) H))
theorem op_addIB : OpR X (binaryOp .Add) rAddIB := by
  intro pins s σ H x y v u Q I rx ry h
  obtain ⟨j, rfl, h | h⟩ := h
  · obtain ⟨i, rfl, q⟩ := h
    exact op_add pins s σ H _ _ v u Q I rx ry ⟨i, j, rfl, rfl, q⟩
  · obtain ⟨b, rfl, q⟩ := h
    cases rx
    obtain ⟨t, rfl⟩ := ry
    exact IntBool.add_bool_int ⟨.int _, H, I.tok _, ⟨_, rfl⟩, q⟩
theorem op_subIB : OpR X (binaryOp .Sub) rSubIB := by
  intro pins s σ H x y v u Q I rx ry h
  obtain ⟨j, rfl, h | h⟩ := h
  · obtain ⟨i, rfl, q⟩ := h
    exact op_sub pins s σ H _ _ v u Q I rx ry ⟨i, j, rfl, rfl, q⟩
  · obtain ⟨b, rfl, q⟩ := h
    cases rx
    obtain ⟨t, rfl⟩ := ry
    exact IntBool.sub_bool_int ⟨.int _, H, I.tok _, ⟨_, rfl⟩, q⟩
def rStrIB : List V → Hp → VK → Prop := fun xs H Q => ∃ v, xs = [v] ∧ ((∃ i : Int, v = .int i ∧ i.natAbs.log2 < 1920 ∧ Q (.str (toString i)) H) ∨ (∃ b : Bool, v = .bl b ∧ Q (.str (if b then "True" else "False")) H))
theorem call_strIB : CallR X (.type "str") rStrIB := by
  intro pins s σ H xs us Q I r h
  obtain ⟨v, rfl, h | h⟩ := h
  · obtain ⟨i, rfl, hz, q⟩ := h
    exact call_str_int pins s σ H _ us Q I r ⟨i, rfl, hz, q⟩
  · obtain ⟨b, rfl, q⟩ := h
    obtain ⟨u, rfl, ru⟩ := vals1 r
    cases ru
    exact PySem.P.str_of_bool ⟨.str _, H, I.tok _, ⟨_, rfl⟩, q⟩
/-! ### list(x), known not to be the table of modules -/
def rListOfB (K : PySem.W.Frag) : List V → Hp → VK → Prop := fun xs H Q => ∃ p ys, xs = [.ref p] ∧ SqT K H p ys ∧ ∀ l, H l = none → l ≠ sysModules → Q (.ref l) (upd H l (.lst ys))
theorem c_listB : CallR X (.type "list") (rListOfB X.K) := by
  intro pins s σ H xs us Q I r h
  obtain ⟨p, ys, rfl, hq, q⟩ := h
  obtain ⟨u, rfl, rx⟩ := vals1 r
  cases rx
  obtain ⟨its, r', pl, hz⟩ := I.tuple hq
  have hlen := r'.length
  obtain ⟨o, ho, hc, n, hd⟩ := pl
  refine call_list_seq p (.inr rfl) ho hc hd (fun h' c' kp e => ?_) (by simp only [List.size_toArray] <;> omega)
  exact ⟨.ref s.heap.objs.size, _, I.laid (t' := s.toks) kp (Nat.le_refl _) (show ObjOk X.prog X.w _ h' _ (.lst ys) from ⟨hz, its, c', r', e⟩), rfl, q _ (I.hok.fresh (Nat.le_refl _)) (Nat.ne_of_gt I.big)⟩
/-! ### slices and sums of tuples -/
theorem rd_newt {p : Addr} {xs : List V} : Rd (upd H p (.tup xs)) p (.tup xs) := .inl upd_same
theorem r_slT {a : Addr} {xs : List V} {lo hi : Option Int} (h : Rd H a (.tup xs)) (q : ∀ (p : Addr) (H' : Hp), Kp [] H H' → Rd H' p (.tup (cutV xs lo hi)) → Q (.ref p) H') : rSlA K (.ref a) lo hi H Q := by
  refine ⟨a, xs, rfl, .inl h, fun e => ?_, fun _ p np => q p _ (Kp.new np) rd_newt⟩
  refine q a H Kp.refl ?_
  have : cutV xs lo hi = xs := by
    unfold cutV
    rw [e.1, e.2, List.drop_zero, Nat.sub_zero, List.take_length]
  rw [this]
  exact h
theorem r_catT {a b : Addr} {xs ys : List V} (ha : Rd H a (.tup xs)) (hb : Rd H b (.tup ys)) (l : xs.length + ys.length ≤ 1000000) (h : ∀ (p : Addr) (H' : Hp), Kp [] H H' → Rd H' p (.tup (xs ++ ys)) → Q (.ref p) H') : rCatF K (.ref a) (.ref b) H Q := by
  refine ⟨a, b, xs, ys, rfl, rfl, .inl ha, .inl hb, by rw [sizeLine_eq]; omega, fun e => ?_, fun e e2 => ?_, fun e e2 p o np od => ?_⟩
  · refine h b H Kp.refl ?_
    rw [e]
    exact hb
  · refine h a H Kp.refl ?_
    rw [e2, List.append_nil]
    exact ha
  · exact h p _ (Kp.new np) (Tm.rd ⟨o, upd_same, od⟩)
theorem cutV_is (xs : List V) (lo hi : Option Int) : ∃ i j, cutV xs lo hi = (xs.drop i).take j := ⟨_, _, rfl⟩
theorem r_revT {te : TE} {q : V → Hp → Prop} (h : te σ H fun x H1 => ∃ a xs, x = .ref a ∧ SqT K H1 a xs ∧ ∀ p, H1 p = none → q (.ref p) (upd H1 p (.tup xs.reverse))) : tRevT K te σ H q := h
end
end L2.Rx

end
section
set_option Elab.async false
set_option linter.all false
set_option maxRecDepth 100000
set_option maxHeartbeats 4000000
local macro_rules | `(tactic| walk_at "rd1") => `(tactic| with_reducible first
  | refine L2.Rx.r_seq ?_ | refine L2.Rx.r_asg ?_ | refine L2.Rx.r_gname ?_ | refine L2.Rx.r_op ?_ | refine L2.Rx.r_c ?_
  | refine L2.Rx.r_var rfl ?_
  | refine L2.Rx.r_rI0 ?_ | refine L2.Rx.r_test ?_ | refine L2.Rx.r_bl ?_ | refine L2.Rx.r_if ?_ | refine L2.Rx.r_ret ?_
  | refine L2.Rx.r_cons ?_ | refine L2.Rx.r_nil ?_ | refine L2.Rx.r_call ?_ | refine L2.Rx.r_cb ?_ | refine L2.Rx.r_next ?_ | refine L2.Rx.r_drop ?_
  | refine L2.Rx.r_gsub ?_ | refine L2.Rx.r_tupF ?_ | refine L2.Rx.r_lst ?_ | refine L2.Rx.r_par ?_ | refine L2.Rx.r_par2 ?_
  | refine L2.Rx.r_un ?_ | refine L2.Rx.r_tb ?_ | refine L2.Rx.r_and ?_ | refine L2.Rx.r_or ?_ | refine L2.Rx.r_not ?_
  | refine L2.Rx.r_andV ?_ | refine L2.Rx.r_orV ?_ | refine L2.Rx.r_notV ?_ | refine L2.Rx.r_ifx ?_ | refine L2.Rx.r_chain ?_
  | refine L2.Rx.r_sl ?_ | refine L2.Rx.r_nopart ?_ | refine L2.Rx.r_part ?_ | refine L2.Rx.r_exint ?_ | refine L2.Rx.r_bm0 ?_ | refine L2.Rx.r_bm ?_
  | refine L2.Rx.r_lc ?_ | refine L2.Rx.r_rng1 ?_ | refine L2.Rx.r_yes ?_ | refine L2.Rx.r_tt ?_ | refine L2.Rx.r_ff ?_ | refine L2.Rx.r_m1 ?_ | refine L2.Rx.r_m0 ?_ | refine L2.Rx.r_isS ?_
  | (refine L2.Rx.r_wipe (by with_unfolding_all rfl) ?_) | (refine L2.Rx.r_tyL (by walk_at "hp") ?_)
  | refine L2.Rx.r_addS (by walk_at "len") ?_ | refine L2.Rx.r_lenS (by walk_at "len") ?_ | refine L2.Rx.r_slS (by walk_at "len") ?_
  | refine L2.Rx.r_dnotin ?_ | refine L2.Rx.r_dget ?_ | refine L2.Rx.r_dget1 ?_ | refine L2.Rx.r_dput ?_ | refine L2.Rx.r_dpop1 ?_ | refine L2.Rx.r_isN ?_
  | refine L2.Rx.r_for ?_ | refine L2.Rx.r_ilist ?_ | refine L2.Rx.r_itup ?_
  | refine L2.Rx.r_gcons ?_ | refine L2.Rx.r_gnil ?_ | (refine L2.Rx.r_gtupP (by assumption) (by walk_at "at") ?_)
  | (refine L2.Rx.r_rEq rfl ?_) | (refine L2.Rx.r_rNe rfl ?_)
  | refine L2.Rx.r_rU ?_ | refine L2.Rx.r_max2 ?_ | refine L2.Rx.r_min2 ?_ | refine L2.Rx.r_int1i ?_ | (refine L2.Rx.r_lenh (by walk_at "hp") ?_)
  | (refine L2.Rx.r_ixLh (by walk_at "hp") (by walk_at "at") ?_)
  | (refine L2.Rx.r_setL (by walk_at "hp") (by walk_at "at") ?_))
local macro_rules | `(tactic| walk_at "at") => `(tactic| with_unfolding_all rfl)
local macro_rules | `(tactic| walk_at "rd") => `(tactic| (repeat walk_at "rd1"))
local macro_rules | `(tactic| walk_at "hp") => `(tactic| first
  | assumption
  | exact L2.upd_same
  | (refine Eq.trans (L2.upd_ne ?_) ?_; (focus walk_at "ne"); (focus walk_at "hp"))
  | (refine L2.Rx.Kp.at0 (by assumption) ?_; walk_at "hp")
  | (refine L2.Rx.Kp.at1 (by assumption) ?_ ?_; (focus walk_at "ne"); (focus walk_at "hp")))
local macro_rules | `(tactic| walk_at "ne") => `(tactic| first
  | assumption | exact Ne.symm (by assumption)
  | (refine L2.ne_of_none (H := ?nH) (o := ?nO) ?nh ?nn; (case nn => assumption); (case nh => walk_at "hp"))
  | (refine Ne.symm (L2.ne_of_none (H := ?nH) (o := ?nO) ?nh ?nn); (case nn => assumption); (case nh => walk_at "hp")))
local macro_rules | `(tactic| walk_at "len") => `(tactic| (rw [PySem.sizeLine_eq]; omega))
local macro_rules | `(tactic| walk_at "nin") => `(tactic| first
  | exact List.not_mem_nil
  | (refine L2.Rx.nin1 ?_; walk_at "ne"))
local macro_rules | `(tactic| walk_at "none") => `(tactic| first
  | assumption
  | (refine L2.Rx.Kp.none0 (by assumption) ?_ ?_; (focus walk_at "nin"); (focus walk_at "none")))
namespace L2.Ro
open PySem PySem.Spec PyProof.Rows L2.Rx
def topS (i : Nat) : Stmt := PySem.Challenge.pw_readorder_k03_readers_of_any_object.main.body.getD i (.Pass ⟨0, 0, 0, 0⟩)
abbrev s_is_cell : Stmt := topS 3
theorem sc_is_cell : FnScope ["thing", "sign"] ["thing"] (defScope s_is_cell) := ⟨rfl, rfl, rfl, by decide +kernel, rfl, by decide +kernel, by decide +kernel⟩
abbrev s_is_integer : Stmt := topS 4
theorem sc_is_integer : FnScope ["thing"] ["thing"] (defScope s_is_integer) := ⟨rfl, rfl, rfl, by decide +kernel, rfl, by decide +kernel, by decide +kernel⟩
abbrev s_is_value : Stmt := topS 5
theorem sc_is_value : FnScope ["thing"] ["thing"] (defScope s_is_value) := ⟨rfl, rfl, rfl, by decide +kernel, rfl, by decide +kernel, by decide +kernel⟩
abbrev s_is_ascending : Stmt := topS 6
theorem sc_is_ascending : FnScope ["items", "item", "after"] ["items"] (defScope s_is_ascending) := ⟨rfl, rfl, rfl, by decide +kernel, rfl, by decide +kernel, by decide +kernel⟩
abbrev s_is_branch : Stmt := topS 10
theorem sc_is_branch : FnScope ["thing"] ["thing"] (defScope s_is_branch) := ⟨rfl, rfl, rfl, by decide +kernel, rfl, by decide +kernel, by decide +kernel⟩
abbrev s_is_node : Stmt := topS 11
theorem sc_is_node : FnScope ["thing", "cell", "branches", "branch", "value", "below"] ["thing"] (defScope s_is_node) := ⟨rfl, rfl, rfl, by decide +kernel, rfl, by decide +kernel, by decide +kernel⟩
abbrev s_is_reader : Stmt := topS 12
theorem sc_is_reader : FnScope ["thing", "waiting", "leaves", "part", "above", "cell", "branches", "value", "below"] ["thing"] (defScope s_is_reader) := ⟨rfl, rfl, rfl, by decide +kernel, rfl, by decide +kernel, by decide +kernel⟩
abbrev s_box : Stmt := topS 14
theorem sc_box : FnScope ["_law_script", "_law_k", "_law_name", "_law_own"] ["_law_script", "_law_k"] (defScope s_box) := ⟨rfl, rfl, rfl, by decide +kernel, rfl, by decide +kernel, by decide +kernel⟩
abbrev s_take : Stmt := topS 15
theorem sc_take : FnScope ["_law_box_here", "_law_upon", "_law_digit", "_law_prime", "_law_drawn"] ["_law_box_here", "_law_upon"] (defScope s_take) := ⟨rfl, rfl, rfl, by decide +kernel, rfl, by decide +kernel, by decide +kernel⟩
abbrev s_of : Stmt := topS 16
theorem sc_of : FnScope ["_law_box_here", "_law_some"] ["_law_box_here", "_law_some"] (defScope s_of) := ⟨rfl, rfl, rfl, by decide +kernel, rfl, by decide +kernel, by decide +kernel⟩
abbrev s_cells : Stmt := topS 17
theorem sc_cells : FnScope ["_law_box_here", "_law_count", "_law_letters", "_law_start", "_law_leap", "_law_stem", "_law_cut", "_law_turn"] ["_law_box_here", "_law_count"] (defScope s_cells) := ⟨rfl, rfl, rfl, by decide +kernel, rfl, by decide +kernel, by decide +kernel⟩
abbrev s_values : Stmt := topS 18
theorem sc_values : FnScope ["_law_box_here", "_law_count", "_law_some", "_law_found", "_law_turn", "_law_value", "_law_spare", "_law_each"] ["_law_box_here", "_law_count"] (defScope s_values) := ⟨rfl, rfl, rfl, by decide +kernel, rfl, by decide +kernel, by decide +kernel⟩
abbrev s_tree : Stmt := topS 19
theorem sc_tree : FnScope ["_law_box_here", "_law_cells_here", "_law_budget", "_law_left", "_law_name", "_law_count", "_law_branches", "_law_value"] ["_law_box_here", "_law_cells_here", "_law_budget"] (defScope s_tree) := ⟨rfl, rfl, rfl, by decide +kernel, rfl, by decide +kernel, by decide +kernel⟩
abbrev s_due : Stmt := topS 20
theorem sc_due : FnScope ["_law_item", "_law_above", "_law_ahead", "_law_leaves", "_law_branch", "_law_value", "_law_here", "_law_sign"] ["_law_item", "_law_above"] (defScope s_due) := ⟨rfl, rfl, rfl, by decide +kernel, rfl, by decide +kernel, by decide +kernel⟩
abbrev s_odd : Stmt := topS 21
theorem sc_odd : FnScope ["_law_box_here", "_law_item", "_law_names", "_law_some"] ["_law_box_here", "_law_item", "_law_names"] (defScope s_odd) := ⟨rfl, rfl, rfl, by decide +kernel, rfl, by decide +kernel, by decide +kernel⟩
abbrev s_bent : Stmt := topS 22
theorem sc_bent : FnScope ["_law_box_here", "_law_item", "_law_names", "_law_spot"] ["_law_box_here", "_law_item", "_law_names"] (defScope s_bent) := ⟨rfl, rfl, rfl, by decide +kernel, rfl, by decide +kernel, by decide +kernel⟩
abbrev s_right : Stmt := topS 23
theorem sc_right : FnScope ["_law_item", "_law_text", "_law_due_here"] ["_law_item"] (defScope s_right) := ⟨rfl, rfl, rfl, by decide +kernel, rfl, by decide +kernel, by decide +kernel⟩
abbrev s_law : Stmt := topS 24
theorem sc_law : FnScope ["_law_script", "_law_nth", "_law_box_here", "_law_names", "_law_some", "_law_turn", "_law_reader", "_law_again", "_law_bent_here", "_law_item"] ["_law_script"] (defScope s_law) := ⟨rfl, rfl, rfl, by decide +kernel, rfl, by decide +kernel, by decide +kernel⟩
/-- the built-ins that the text calls are not the module's -/
structure Zb (mg : Str → Option Value) : Prop where
  n_abs : mg "abs" = none
  n_all : mg "all" = none
  n_bool : mg "bool" = none
  n_int : mg "int" = none
  n_isinstance : mg "isinstance" = none
  n_len : mg "len" = none
  n_list : mg "list" = none
  n_max : mg "max" = none
  n_min : mg "min" = none
  n_range : mg "range" = none
  n_repr : mg "repr" = none
  n_sorted : mg "sorted" = none
  n_str : mg "str" = none
  n_tuple : mg "tuple" = none
  n_zip : mg "zip" = none
end L2.Ro

end
section
set_option Elab.async false
set_option linter.all false
set_option maxRecDepth 100000
set_option maxHeartbeats 4000000
local macro_rules | `(tactic| walk_at "rd1") => `(tactic| with_reducible first
  | refine L2.Rx.r_seq ?_ | refine L2.Rx.r_asg ?_ | refine L2.Rx.r_gname ?_ | refine L2.Rx.r_op ?_ | refine L2.Rx.r_c ?_
  | refine L2.Rx.r_var rfl ?_
  | refine L2.Rx.r_rI0 ?_ | refine L2.Rx.r_test ?_ | refine L2.Rx.r_bl ?_ | refine L2.Rx.r_if ?_ | refine L2.Rx.r_ret ?_
  | refine L2.Rx.r_cons ?_ | refine L2.Rx.r_nil ?_ | refine L2.Rx.r_call ?_ | refine L2.Rx.r_cb ?_ | refine L2.Rx.r_next ?_ | refine L2.Rx.r_drop ?_
  | refine L2.Rx.r_gsub ?_ | refine L2.Rx.r_tupF ?_ | refine L2.Rx.r_lst ?_ | refine L2.Rx.r_par ?_ | refine L2.Rx.r_par2 ?_
  | refine L2.Rx.r_un ?_ | refine L2.Rx.r_tb ?_ | refine L2.Rx.r_and ?_ | refine L2.Rx.r_or ?_ | refine L2.Rx.r_not ?_
  | refine L2.Rx.r_andV ?_ | refine L2.Rx.r_orV ?_ | refine L2.Rx.r_notV ?_ | refine L2.Rx.r_ifx ?_ | refine L2.Rx.r_chain ?_
  | refine L2.Rx.r_sl ?_ | refine L2.Rx.r_nopart ?_ | refine L2.Rx.r_part ?_ | refine L2.Rx.r_exint ?_ | refine L2.Rx.r_bm0 ?_ | refine L2.Rx.r_bm ?_
  | refine L2.Rx.r_lc ?_ | refine L2.Rx.r_rng1 ?_ | refine L2.Rx.r_yes ?_ | refine L2.Rx.r_tt ?_ | refine L2.Rx.r_ff ?_ | refine L2.Rx.r_m1 ?_ | refine L2.Rx.r_m0 ?_ | refine L2.Rx.r_isS ?_
  | (refine L2.Rx.r_wipe (by with_unfolding_all rfl) ?_) | (refine L2.Rx.r_tyL (by walk_at "hp") ?_)
  | refine L2.Rx.r_addS (by walk_at "len") ?_ | refine L2.Rx.r_lenS (by walk_at "len") ?_ | refine L2.Rx.r_slS (by walk_at "len") ?_
  | refine L2.Rx.r_dnotin ?_ | refine L2.Rx.r_dget ?_ | refine L2.Rx.r_dget1 ?_ | refine L2.Rx.r_dput ?_ | refine L2.Rx.r_dpop1 ?_ | refine L2.Rx.r_isN ?_
  | refine L2.Rx.r_for ?_ | refine L2.Rx.r_ilist ?_ | refine L2.Rx.r_itup ?_
  | refine L2.Rx.r_gcons ?_ | refine L2.Rx.r_gnil ?_ | (refine L2.Rx.r_gtupP (by assumption) (by walk_at "at") ?_)
  | (refine L2.Rx.r_rEq rfl ?_) | (refine L2.Rx.r_rNe rfl ?_)
  | refine L2.Rx.r_rU ?_ | refine L2.Rx.r_max2 ?_ | refine L2.Rx.r_min2 ?_ | refine L2.Rx.r_int1i ?_ | (refine L2.Rx.r_lenh (by walk_at "hp") ?_)
  | (refine L2.Rx.r_ixLh (by walk_at "hp") (by walk_at "at") ?_)
  | (refine L2.Rx.r_setL (by walk_at "hp") (by walk_at "at") ?_))
local macro_rules | `(tactic| walk_at "at") => `(tactic| with_unfolding_all rfl)
local macro_rules | `(tactic| walk_at "rd") => `(tactic| (repeat walk_at "rd1"))
local macro_rules | `(tactic| walk_at "hp") => `(tactic| first
  | assumption
  | exact L2.upd_same
  | (refine Eq.trans (L2.upd_ne ?_) ?_; (focus walk_at "ne"); (focus walk_at "hp"))
  | (refine L2.Rx.Kp.at0 (by assumption) ?_; walk_at "hp")
  | (refine L2.Rx.Kp.at1 (by assumption) ?_ ?_; (focus walk_at "ne"); (focus walk_at "hp")))
local macro_rules | `(tactic| walk_at "ne") => `(tactic| first
  | assumption | exact Ne.symm (by assumption)
  | (refine L2.ne_of_none (H := ?nH) (o := ?nO) ?nh ?nn; (case nn => assumption); (case nh => walk_at "hp"))
  | (refine Ne.symm (L2.ne_of_none (H := ?nH) (o := ?nO) ?nh ?nn); (case nn => assumption); (case nh => walk_at "hp")))
local macro_rules | `(tactic| walk_at "len") => `(tactic| (rw [PySem.sizeLine_eq]; omega))
local macro_rules | `(tactic| walk_at "nin") => `(tactic| first
  | exact List.not_mem_nil
  | (refine L2.Rx.nin1 ?_; walk_at "ne"))
local macro_rules | `(tactic| walk_at "none") => `(tactic| first
  | assumption
  | (refine L2.Rx.Kp.none0 (by assumption) ?_ ?_; (focus walk_at "nin"); (focus walk_at "none")))
namespace L2.Ro
open PySem PySem.Spec PyProof.Rows L2.Rx
def sp_box (K : PySem.W.Frag) : Sp := fun vs H Q _ => ∃ (a : Addr) (ns : List Int) (k : Int), vs = [.ref a, .int k] ∧ SqL K H a (ns.map V.int) ∧ 0 ≤ k ∧ k ≤ 1000 ∧
  ∀ H' p, Kp [] H H' → H p = none → Box H' p 1000000000 → Q (.ref p) H'
section
variable {P : Program} {w : World} {K : PySem.W.Frag} {mg : Str → Option Value} {base : Heap}
theorem k_box {f : Addr} {fd : FuncData} (F : Fun K "_law_box" "_law_box" s_box f fd) (g : mg "_law_box" = some (.ref f)) (z : Zb mg)  : Kn P w K mg base CX0 1 "_law_box" (sp_box K) := by
  refine ⟨f, fd, ["_law_script", "_law_k"], fnG_body F sc_box (fun vs H Q E h => ?_) (fun cdv A outer s H vs Q E hr h => ?_), g, F.kp, F.binds (fun _ _ _ _ _ _ us hl => match us, hl with | [_, _], _ => rfl)⟩
  · obtain ⟨a, ns, k, rfl, _⟩ := h
    rfl
  · obtain ⟨a, ns, k, rfl, hS, k0, k1, q⟩ := h
    refine ⟨_, PSs.nox (pss_cons (ps_set (i := 2) sc_box.nd rfl (.inl rfl) (pe_ifExp (pt_cmpR op_lt (pv 1) (pe_callB (show CallR _ _ (rLenQ K) from c_len) (by rfl) z.n_len (by decide +kernel) (pa_cons (pv 0) pa_nil)) (nomark _)) (pe_ix (show IxR _ (rIxL K) from ix_list) (pv 0) (pv 1) (fun _ _ => rfl)) (pe_op op_add (pe_op op_mul pe_int (pv 1)) pe_int)))
      (pss_cons (ps_set (i := 3) sc_box.nd rfl (.inl rfl) (pe_op op_mul (pe_op op_mod (pe_callB c_abs (by rfl) z.n_abs (by decide +kernel) (pa_cons (pv 2) pa_nil)) (pe_op op_powW (pe_op op_pow pe_int pe_int) pe_int)) (pe_callTy c_int1 (by rfl) z.n_int (by decide +kernel) (pa_cons (pe_cmpR op_ge (pe_callB c_abs (by rfl) z.n_abs (by decide +kernel) (pa_cons (pv 2) pa_nil)) (pe_op op_pow pe_int pe_int) (nomark _)) pa_nil))))
      (pss_one (ps_ret (pe_lst (pa_cons (pv 3) (pa_cons (pe_op op_mod (pe_op op_mul (pe_op op_add (pe_op op_add (pe_op op_mod (pv 2) pe_int) (pe_op op_mul (pe_op op_mul pe_int (pv 1)) (pv 1))) pe_int) pe_int) pe_int) (pa_cons pe_int pa_nil)))))))), ?_⟩
    refine r_seq (r_asg (r_cut (fun v H' => ∃ n, v = .int n ∧ H' = H) ?key ?h))
    case h =>
      intro Q' h'
      walk_at "rd"
      refine r_len (.inl hS) ?_
      walk_at "rd"
      refine r_ite (fun hk => ?_) (fun hk => ?_)
      · walk_at "rd"
        obtain ⟨v, e, m⟩ := atI_int k0 hk
        refine r_ixL hS e ?_
        obtain ⟨n, _, rfl⟩ := List.mem_map.mp m
        exact h' _ _ ⟨n, rfl, rfl⟩
      · walk_at "rd"
        refine r_mul (.inl (by omega)) ?_
        walk_at "rd"
        exact h' _ _ ⟨_, rfl, rfl⟩
    case key =>
      rintro v _ ⟨n, rfl, rfl⟩
      walk_at "rd"
      refine r_abs fun m m0 => ?_
      walk_at "rd"
      refine r_pow (by decide) (by decide) (by decide) ?_
      walk_at "rd"
      refine r_powW (by decide) (by decide +kernel) ?_
      walk_at "rd"
      refine r_mod (by decide +kernel) (fun o o0 _ => ?_)
      walk_at "rd"
      refine r_abs fun m' _ => ?_
      walk_at "rd"
      refine r_pow (by decide) (by decide) (by decide) ?_
      walk_at "rd"
      refine r_int1b fun c c0 c1 => ?_
      walk_at "rd"
      refine r_mul (.inr (by omega)) ?_
      walk_at "rd"
      refine r_mod (j := 2305843009213693951) (by decide) (fun t t0 t1 => ?_)
      walk_at "rd"
      refine r_mul (.inl (by omega)) ?_
      walk_at "rd"
      refine r_mul (.inr (by omega)) ?_
      walk_at "rd"
      refine r_mul (.inr (by omega)) ?_
      walk_at "rd"
      refine r_mod (j := 2305843009213693921) (by decide) (fun e e0 e1 => ?_)
      walk_at "rd"
      refine r_new rfl (fun p np => ?_)
      exact q _ p (Kp.new np) np ⟨_, _, _, upd_same, Int.mul_nonneg o0 c0, e0, by omega, by omega, by omega⟩
end
end L2.Ro

end
section
set_option Elab.async false
set_option linter.all false
set_option maxRecDepth 100000
set_option maxHeartbeats 4000000
local macro_rules | `(tactic| walk_at "rd1") => `(tactic| with_reducible first
  | refine L2.Rx.r_seq ?_ | refine L2.Rx.r_asg ?_ | refine L2.Rx.r_gname ?_ | refine L2.Rx.r_op ?_ | refine L2.Rx.r_c ?_
  | refine L2.Rx.r_var rfl ?_
  | refine L2.Rx.r_rI0 ?_ | refine L2.Rx.r_test ?_ | refine L2.Rx.r_bl ?_ | refine L2.Rx.r_if ?_ | refine L2.Rx.r_ret ?_
  | refine L2.Rx.r_cons ?_ | refine L2.Rx.r_nil ?_ | refine L2.Rx.r_call ?_ | refine L2.Rx.r_cb ?_ | refine L2.Rx.r_next ?_ | refine L2.Rx.r_drop ?_
  | refine L2.Rx.r_gsub ?_ | refine L2.Rx.r_tupF ?_ | refine L2.Rx.r_lst ?_ | refine L2.Rx.r_par ?_ | refine L2.Rx.r_par2 ?_
  | refine L2.Rx.r_un ?_ | refine L2.Rx.r_tb ?_ | refine L2.Rx.r_and ?_ | refine L2.Rx.r_or ?_ | refine L2.Rx.r_not ?_
  | refine L2.Rx.r_andV ?_ | refine L2.Rx.r_orV ?_ | refine L2.Rx.r_notV ?_ | refine L2.Rx.r_ifx ?_ | refine L2.Rx.r_chain ?_
  | refine L2.Rx.r_sl ?_ | refine L2.Rx.r_nopart ?_ | refine L2.Rx.r_part ?_ | refine L2.Rx.r_exint ?_ | refine L2.Rx.r_bm0 ?_ | refine L2.Rx.r_bm ?_
  | refine L2.Rx.r_lc ?_ | refine L2.Rx.r_rng1 ?_ | refine L2.Rx.r_yes ?_ | refine L2.Rx.r_tt ?_ | refine L2.Rx.r_ff ?_ | refine L2.Rx.r_m1 ?_ | refine L2.Rx.r_m0 ?_ | refine L2.Rx.r_isS ?_
  | (refine L2.Rx.r_wipe (by with_unfolding_all rfl) ?_) | (refine L2.Rx.r_tyL (by walk_at "hp") ?_)
  | refine L2.Rx.r_addS (by walk_at "len") ?_ | refine L2.Rx.r_lenS (by walk_at "len") ?_ | refine L2.Rx.r_slS (by walk_at "len") ?_
  | refine L2.Rx.r_dnotin ?_ | refine L2.Rx.r_dget ?_ | refine L2.Rx.r_dget1 ?_ | refine L2.Rx.r_dput ?_ | refine L2.Rx.r_dpop1 ?_ | refine L2.Rx.r_isN ?_
  | refine L2.Rx.r_for ?_ | refine L2.Rx.r_ilist ?_ | refine L2.Rx.r_itup ?_
  | refine L2.Rx.r_gcons ?_ | refine L2.Rx.r_gnil ?_ | (refine L2.Rx.r_gtupP (by assumption) (by walk_at "at") ?_)
  | (refine L2.Rx.r_rEq rfl ?_) | (refine L2.Rx.r_rNe rfl ?_)
  | refine L2.Rx.r_rU ?_ | refine L2.Rx.r_max2 ?_ | refine L2.Rx.r_min2 ?_ | refine L2.Rx.r_int1i ?_ | (refine L2.Rx.r_lenh (by walk_at "hp") ?_)
  | (refine L2.Rx.r_ixLh (by walk_at "hp") (by walk_at "at") ?_)
  | (refine L2.Rx.r_setL (by walk_at "hp") (by walk_at "at") ?_))
local macro_rules | `(tactic| walk_at "at") => `(tactic| with_unfolding_all rfl)
local macro_rules | `(tactic| walk_at "rd") => `(tactic| (repeat walk_at "rd1"))
local macro_rules | `(tactic| walk_at "hp") => `(tactic| first
  | assumption
  | exact L2.upd_same
  | (refine Eq.trans (L2.upd_ne ?_) ?_; (focus walk_at "ne"); (focus walk_at "hp"))
  | (refine L2.Rx.Kp.at0 (by assumption) ?_; walk_at "hp")
  | (refine L2.Rx.Kp.at1 (by assumption) ?_ ?_; (focus walk_at "ne"); (focus walk_at "hp")))
local macro_rules | `(tactic| walk_at "ne") => `(tactic| first
  | assumption | exact Ne.symm (by assumption)
  | (refine L2.ne_of_none (H := ?nH) (o := ?nO) ?nh ?nn; (case nn => assumption); (case nh => walk_at "hp"))
  | (refine Ne.symm (L2.ne_of_none (H := ?nH) (o := ?nO) ?nh ?nn); (case nn => assumption); (case nh => walk_at "hp")))
local macro_rules | `(tactic| walk_at "len") => `(tactic| (rw [PySem.sizeLine_eq]; omega))
local macro_rules | `(tactic| walk_at "nin") => `(tactic| first
  | exact List.not_mem_nil
  | (refine L2.Rx.nin1 ?_; walk_at "ne"))
local macro_rules | `(tactic| walk_at "none") => `(tactic| first
  | assumption
  | (refine L2.Rx.Kp.none0 (by assumption) ?_ ?_; (focus walk_at "nin"); (focus walk_at "none")))
namespace L2.Ro
open PySem PySem.Spec PyProof.Rows L2.Rx
def sp_take : Sp := fun vs H Q _ => ∃ (b : Addr) (n : Nat) (u : Int), vs = [.ref b, .int u] ∧ Box H b (n + 1) ∧ 0 < u ∧ u ≤ 1000000000 ∧
  ∀ H' r, Kp [b] H H' → Box H' b n → 0 ≤ r → r < u → Q (.int r) H'
section
variable {P : Program} {w : World} {K : PySem.W.Frag} {mg : Str → Option Value} {base : Heap}
theorem k_take {f : Addr} {fd : FuncData} (F : Fun K "_law_take" "_law_take" s_take f fd) (g : mg "_law_take" = some (.ref f)) (z : Zb mg)  : Kn P w K mg base CX0 1 "_law_take" sp_take := by
  refine ⟨f, fd, ["_law_box_here", "_law_upon"], fnG_body F sc_take (fun vs H Q E h => ?_) (fun cdv A outer s H vs Q E hr h => ?_), g, F.kp, F.binds (fun _ _ _ _ _ _ us hl => match us, hl with | [_, _], _ => rfl)⟩
  · obtain ⟨b, n, u, rfl, _⟩ := h
    rfl
  · obtain ⟨b, n, u, rfl, ⟨o, m, c, hb, o0, m0, m1, c0, c1⟩, u0, u1, q⟩ := h
    refine ⟨_, PSs.nox (pss_cons (ps_if (pt_cmpR op_gt (pe_ix (show IxR _ (rIxL K) from ix_list) (pv 0) pe_int (fun _ _ => rfl)) pe_int (nomark _))
        (pss_cons (ps_set (i := 2) sc_take.nd rfl (.inl rfl) (pe_op op_mod (pe_ix (show IxR _ (rIxL K) from ix_list) (pv 0) pe_int (fun _ _ => rfl)) (pv 1)))
        (pss_cons (ps_asg (pe_op op_fdiv (pe_ix (show IxR _ (rIxL K) from ix_list) (pv 0) pe_int (fun _ _ => rfl)) (pv 1)) (pg_sub (pv 0) pe_int set_list))
        (pss_one (ps_ret (pv 2)))))
        pss_nil)
      (pss_cons (ps_asg (pe_op op_add (pe_ix (show IxR _ (rIxL K) from ix_list) (pv 0) pe_int (fun _ _ => rfl)) pe_int) (pg_sub (pv 0) pe_int set_list))
      (pss_cons (ps_set (i := 3) sc_take.nd rfl (.inl rfl) (pe_ix (show IxR _ (rIxL K) from ix_list) (pe_lst (pa_cons pe_int (pa_cons pe_int (pa_cons pe_int (pa_cons pe_int (pa_cons pe_int (pa_cons pe_int (pa_cons pe_int pa_nil)))))))) (pe_op op_mod (pe_ix (show IxR _ (rIxL K) from ix_list) (pv 0) pe_int (fun _ _ => rfl)) pe_int) (fun _ _ => rfl)))
      (pss_cons (ps_set (i := 4) sc_take.nd rfl (.inl rfl) (pe_op op_mod (pe_op op_pow (pe_op op_add (pe_ix (show IxR _ (rIxL K) from ix_list) (pv 0) pe_int (fun _ _ => rfl)) (pe_op op_mul pe_int (pe_ix (show IxR _ (rIxL K) from ix_list) (pv 0) pe_int (fun _ _ => rfl)))) pe_int) (pv 3)))
      (pss_cons (ps_set (i := 4) sc_take.nd rfl (.inl rfl) (pe_op op_mod (pe_op op_mul (pv 4) (pe_op op_add (pe_op op_mod (pv 4) pe_int) (pe_ix (show IxR _ (rIxL K) from ix_list) (pv 0) pe_int (fun _ _ => rfl)))) (pv 3)))
      (pss_cons (ps_if (pt_cmpR op_gt (pv 1) (pe_op op_pow pe_int pe_int) (nomark _))
        (pss_one (ps_set (i := 4) sc_take.nd rfl (.inl rfl) (pe_op op_add (pe_op op_mul (pv 4) pe_int) (pe_op op_mod (pe_op op_add (pe_op op_mul (pe_ix (show IxR _ (rIxL K) from ix_list) (pv 0) pe_int (fun _ _ => rfl)) (pe_op op_add (pe_ix (show IxR _ (rIxL K) from ix_list) (pv 0) pe_int (fun _ _ => rfl)) pe_int)) (pe_op op_mul (pv 4) (pv 4))) pe_int))))
        pss_nil)
      (pss_one (ps_ret (pe_op op_mod (pe_op op_fdiv (pv 4) pe_int) (pv 1)))))))))), ?_⟩
    walk_at "rd"
    refine r_ite (fun ho => ?_) (fun ho => ?_)
    · walk_at "rd"
      refine r_rI u0 ?_
      walk_at "rd"
      refine r_div o0 u0 (by omega) (fun o' o'0 _ => ?_)
      walk_at "rd"
      refine q _ _ Kp.put ⟨_, _, _, upd_same, o'0, m0, m1, c0, by omega⟩ (Int.emod_nonneg _ (by omega)) (Int.emod_lt_of_pos _ u0)
    · walk_at "rd"
      refine r_new rfl (fun p np => ?_)
      walk_at "rd"
      refine r_mod (j := 7) (by decide) (fun i i0 i1 => ?_)
      refine r_pickL upd_same i0 i1 (fun v hv => ?_)
      obtain ⟨k, rfl, k0, k1⟩ : ∃ k : Int, v = .int k ∧ 0 < k ∧ k < 2147483648 := by
        simp only [List.mem_cons, List.mem_nil_iff, or_false] at hv
        rcases hv with rfl | rfl | rfl | rfl | rfl | rfl | rfl <;> exact ⟨_, rfl, by decide, by decide⟩
      clear hv
      walk_at "rd"
      refine r_mul (.inl (by omega)) ?_
      walk_at "rd"
      refine r_pow (by decide) (by decide) (by omega) ?_
      walk_at "rd"
      refine r_mod k0 (fun d d0 d1 => ?_)
      walk_at "rd"
      refine r_mod (j := 1009) (by decide) (fun e e0 e1 => ?_)
      walk_at "rd"
      refine r_mul (.inl (by omega)) ?_
      walk_at "rd"
      refine r_mod k0 (fun g g0 g1 => ?_)
      walk_at "rd"
      refine r_pow (by decide) (by decide) (by decide) ?_
      walk_at "rd"
      refine r_ite (fun hu => ?_) (fun hu => ?_)
      · walk_at "rd"
        refine r_mul (.inl (by omega)) ?_
        walk_at "rd"
        refine r_mul (.inl (by omega)) ?_
        walk_at "rd"
        refine r_mul (.inl (by omega)) ?_
        walk_at "rd"
        refine r_mod (j := 1000000007) (by decide) (fun t t0 t1 => ?_)
        walk_at "rd"
        refine r_div (by omega) (by decide) (by decide) (fun z z0 _ => ?_)
        walk_at "rd"
        refine r_mod u0 (fun r r0 r1 => ?_)
        refine q _ _ ((Kp.put (b := b)).trans (Kp.new np)) ⟨_, _, _, by walk_at "hp", o0, m0, m1, by omega, by omega⟩ r0 r1
      · walk_at "rd"
        refine r_div (by omega) (by decide) (by decide) (fun z z0 _ => ?_)
        walk_at "rd"
        refine r_mod u0 (fun r r0 r1 => ?_)
        refine q _ _ ((Kp.put (b := b)).trans (Kp.new np)) ⟨_, _, _, by walk_at "hp", o0, m0, m1, by omega, by omega⟩ r0 r1
end
end L2.Ro

end
section
set_option Elab.async false
set_option linter.all false
set_option maxRecDepth 100000
set_option maxHeartbeats 4000000
local macro_rules | `(tactic| walk_at "rd1") => `(tactic| with_reducible first
  | refine L2.Rx.r_seq ?_ | refine L2.Rx.r_asg ?_ | refine L2.Rx.r_gname ?_ | refine L2.Rx.r_op ?_ | refine L2.Rx.r_c ?_
  | refine L2.Rx.r_var rfl ?_
  | refine L2.Rx.r_rI0 ?_ | refine L2.Rx.r_test ?_ | refine L2.Rx.r_bl ?_ | refine L2.Rx.r_if ?_ | refine L2.Rx.r_ret ?_
  | refine L2.Rx.r_cons ?_ | refine L2.Rx.r_nil ?_ | refine L2.Rx.r_call ?_ | refine L2.Rx.r_cb ?_ | refine L2.Rx.r_next ?_ | refine L2.Rx.r_drop ?_
  | refine L2.Rx.r_gsub ?_ | refine L2.Rx.r_tupF ?_ | refine L2.Rx.r_lst ?_ | refine L2.Rx.r_par ?_ | refine L2.Rx.r_par2 ?_
  | refine L2.Rx.r_un ?_ | refine L2.Rx.r_tb ?_ | refine L2.Rx.r_and ?_ | refine L2.Rx.r_or ?_ | refine L2.Rx.r_not ?_
  | refine L2.Rx.r_andV ?_ | refine L2.Rx.r_orV ?_ | refine L2.Rx.r_notV ?_ | refine L2.Rx.r_ifx ?_ | refine L2.Rx.r_chain ?_
  | refine L2.Rx.r_sl ?_ | refine L2.Rx.r_nopart ?_ | refine L2.Rx.r_part ?_ | refine L2.Rx.r_exint ?_ | refine L2.Rx.r_bm0 ?_ | refine L2.Rx.r_bm ?_
  | refine L2.Rx.r_lc ?_ | refine L2.Rx.r_rng1 ?_ | refine L2.Rx.r_yes ?_ | refine L2.Rx.r_tt ?_ | refine L2.Rx.r_ff ?_ | refine L2.Rx.r_m1 ?_ | refine L2.Rx.r_m0 ?_ | refine L2.Rx.r_isS ?_
  | (refine L2.Rx.r_wipe (by with_unfolding_all rfl) ?_) | (refine L2.Rx.r_tyL (by walk_at "hp") ?_)
  | refine L2.Rx.r_addS (by walk_at "len") ?_ | refine L2.Rx.r_lenS (by walk_at "len") ?_ | refine L2.Rx.r_slS (by walk_at "len") ?_
  | refine L2.Rx.r_dnotin ?_ | refine L2.Rx.r_dget ?_ | refine L2.Rx.r_dget1 ?_ | refine L2.Rx.r_dput ?_ | refine L2.Rx.r_dpop1 ?_ | refine L2.Rx.r_isN ?_
  | refine L2.Rx.r_for ?_ | refine L2.Rx.r_ilist ?_ | refine L2.Rx.r_itup ?_
  | refine L2.Rx.r_gcons ?_ | refine L2.Rx.r_gnil ?_ | (refine L2.Rx.r_gtupP (by assumption) (by walk_at "at") ?_)
  | (refine L2.Rx.r_rEq rfl ?_) | (refine L2.Rx.r_rNe rfl ?_)
  | refine L2.Rx.r_rU ?_ | refine L2.Rx.r_max2 ?_ | refine L2.Rx.r_min2 ?_ | refine L2.Rx.r_int1i ?_ | (refine L2.Rx.r_lenh (by walk_at "hp") ?_)
  | (refine L2.Rx.r_ixLh (by walk_at "hp") (by walk_at "at") ?_)
  | (refine L2.Rx.r_setL (by walk_at "hp") (by walk_at "at") ?_))
local macro_rules | `(tactic| walk_at "at") => `(tactic| with_unfolding_all rfl)
local macro_rules | `(tactic| walk_at "rd") => `(tactic| (repeat walk_at "rd1"))
local macro_rules | `(tactic| walk_at "hp") => `(tactic| first
  | assumption
  | exact L2.upd_same
  | (refine Eq.trans (L2.upd_ne ?_) ?_; (focus walk_at "ne"); (focus walk_at "hp"))
  | (refine L2.Rx.Kp.at0 (by assumption) ?_; walk_at "hp")
  | (refine L2.Rx.Kp.at1 (by assumption) ?_ ?_; (focus walk_at "ne"); (focus walk_at "hp")))
local macro_rules | `(tactic| walk_at "ne") => `(tactic| first
  | assumption | exact Ne.symm (by assumption)
  | (refine L2.ne_of_none (H := ?nH) (o := ?nO) ?nh ?nn; (case nn => assumption); (case nh => walk_at "hp"))
  | (refine Ne.symm (L2.ne_of_none (H := ?nH) (o := ?nO) ?nh ?nn); (case nn => assumption); (case nh => walk_at "hp")))
local macro_rules | `(tactic| walk_at "len") => `(tactic| (rw [PySem.sizeLine_eq]; omega))
local macro_rules | `(tactic| walk_at "nin") => `(tactic| first
  | exact List.not_mem_nil
  | (refine L2.Rx.nin1 ?_; walk_at "ne"))
local macro_rules | `(tactic| walk_at "none") => `(tactic| first
  | assumption
  | (refine L2.Rx.Kp.none0 (by assumption) ?_ ?_; (focus walk_at "nin"); (focus walk_at "none")))
namespace L2.Ro
open PySem PySem.Spec PyProof.Rows L2.Rx
/-- one of the items, or one sign of the text -/
def sp_of (K : PySem.W.Frag) : Sp := fun vs H Q _ => ∃ (b : Addr) (n : Nat) (x : V), vs = [.ref b, x] ∧ Box H b (n + 1) ∧
  ((∃ (p : Addr) (xs : List V), x = .ref p ∧ (SqL K H p xs ∨ SqT K H p xs) ∧ p ≠ b ∧ 0 < xs.length ∧ xs.length ≤ 1000000000 ∧ ∀ H' v, Kp [b] H H' → Box H' b n → v ∈ xs → Q v H') ∨
   (∃ z : Str, x = .str z ∧ 0 < z.length ∧ z.length ≤ 1000 ∧ ∀ H' c, Kp [b] H H' → Box H' b n → c ∈ z.cps.toList → Q (.str ⟨#[c]⟩) H'))
section
variable {P : Program} {w : World} {K : PySem.W.Frag} {mg : Str → Option Value} {base : Heap}
theorem k_of {f : Addr} {fd : FuncData} (F : Fun K "_law_of" "_law_of" s_of f fd) (g : mg "_law_of" = some (.ref f)) (z : Zb mg) (k_take : Kn P w K mg base CX0 1 "_law_take" sp_take)  : Kn P w K mg base CX0 2 "_law_of" (sp_of K) := by
  refine ⟨f, fd, ["_law_box_here", "_law_some"], fnG_body F sc_of (fun vs H Q E h => ?_) (fun cdv A outer s H vs Q E hr h => ?_), g, F.kp, F.binds (fun _ _ _ _ _ _ us hl => match us, hl with | [_, _], _ => rfl)⟩
  · obtain ⟨b, n, x, rfl, _⟩ := h
    rfl
  · obtain ⟨b, n, x, rfl, B, q⟩ := h
    refine ⟨_, PSs.nox (pss_one (ps_ret (pe_ix (show IxR _ (rIx K) from ix_seq) (pv 1) (k_take.call hr (by decide) (by rfl) (pa_cons (pv 0) (pa_cons (pe_callB (show CallR _ _ (rLenV K) from c_lenV) (by rfl) z.n_len (by decide +kernel) (pa_cons (pv 1) pa_nil)) pa_nil))) (fun _ _ => rfl)))), ?_⟩
    rcases q with ⟨p, xs, rfl, hs, ne, l0, l1, q⟩ | ⟨z, rfl, l0, l1, q⟩
    · walk_at "rd"
      refine .inl (r_len hs ?_)
      walk_at "rd"
      refine ⟨b, n, _, rfl, B, by omega, by omega, fun H' r k B' r0 r1 => ?_⟩
      obtain ⟨v, e, m⟩ := atI_int r0 r1
      rcases hs with hs | hs
      · exact .inl ⟨p, xs, r, v, rfl, rfl, kp1_sqL k ne hs, e, q H' v k B' m⟩
      · exact .inr (.inl ⟨p, xs, r, v, rfl, rfl, kp_sqT k (by simpa using ne) hs, e, q H' v k B' m⟩)
    · walk_at "rd"
      refine .inr (r_lenS (Nat.le_trans l1 (by decide)) ?_)
      walk_at "rd"
      refine ⟨b, n, _, rfl, B, by omega, by omega, fun H' r k B' r0 r1 => ?_⟩
      obtain ⟨j, rfl⟩ : ∃ j : Nat, r = (j : Int) := ⟨r.toNat, by omega⟩
      have hj : j < z.cps.toList.length := by
        have : z.length = z.cps.toList.length := by simp [Str.length]
        omega
      exact .inr (.inr ⟨z, j, z.cps.toList[j], rfl, rfl, Nat.le_trans l1 (by decide), atI_nat (List.getElem?_eq_getElem hj), q H' _ k B' (List.getElem_mem hj)⟩)
end
end L2.Ro

end
section
set_option Elab.async false
set_option linter.all false
set_option maxRecDepth 100000
set_option maxHeartbeats 4000000
local macro_rules | `(tactic| walk_at "rd1") => `(tactic| with_reducible first
  | refine L2.Rx.r_seq ?_ | refine L2.Rx.r_asg ?_ | refine L2.Rx.r_gname ?_ | refine L2.Rx.r_op ?_ | refine L2.Rx.r_c ?_
  | refine L2.Rx.r_var rfl ?_
  | refine L2.Rx.r_rI0 ?_ | refine L2.Rx.r_test ?_ | refine L2.Rx.r_bl ?_ | refine L2.Rx.r_if ?_ | refine L2.Rx.r_ret ?_
  | refine L2.Rx.r_cons ?_ | refine L2.Rx.r_nil ?_ | refine L2.Rx.r_call ?_ | refine L2.Rx.r_cb ?_ | refine L2.Rx.r_next ?_ | refine L2.Rx.r_drop ?_
  | refine L2.Rx.r_gsub ?_ | refine L2.Rx.r_tupF ?_ | refine L2.Rx.r_lst ?_ | refine L2.Rx.r_par ?_ | refine L2.Rx.r_par2 ?_
  | refine L2.Rx.r_un ?_ | refine L2.Rx.r_tb ?_ | refine L2.Rx.r_and ?_ | refine L2.Rx.r_or ?_ | refine L2.Rx.r_not ?_
  | refine L2.Rx.r_andV ?_ | refine L2.Rx.r_orV ?_ | refine L2.Rx.r_notV ?_ | refine L2.Rx.r_ifx ?_ | refine L2.Rx.r_chain ?_
  | refine L2.Rx.r_sl ?_ | refine L2.Rx.r_nopart ?_ | refine L2.Rx.r_part ?_ | refine L2.Rx.r_exint ?_ | refine L2.Rx.r_bm0 ?_ | refine L2.Rx.r_bm ?_
  | refine L2.Rx.r_lc ?_ | refine L2.Rx.r_rng1 ?_ | refine L2.Rx.r_yes ?_ | refine L2.Rx.r_tt ?_ | refine L2.Rx.r_ff ?_ | refine L2.Rx.r_m1 ?_ | refine L2.Rx.r_m0 ?_ | refine L2.Rx.r_isS ?_
  | (refine L2.Rx.r_wipe (by with_unfolding_all rfl) ?_) | (refine L2.Rx.r_tyL (by walk_at "hp") ?_)
  | refine L2.Rx.r_addS (by walk_at "len") ?_ | refine L2.Rx.r_lenS (by walk_at "len") ?_ | refine L2.Rx.r_slS (by walk_at "len") ?_
  | refine L2.Rx.r_dnotin ?_ | refine L2.Rx.r_dget ?_ | refine L2.Rx.r_dget1 ?_ | refine L2.Rx.r_dput ?_ | refine L2.Rx.r_dpop1 ?_ | refine L2.Rx.r_isN ?_
  | refine L2.Rx.r_for ?_ | refine L2.Rx.r_ilist ?_ | refine L2.Rx.r_itup ?_
  | refine L2.Rx.r_gcons ?_ | refine L2.Rx.r_gnil ?_ | (refine L2.Rx.r_gtupP (by assumption) (by walk_at "at") ?_)
  | (refine L2.Rx.r_rEq rfl ?_) | (refine L2.Rx.r_rNe rfl ?_)
  | refine L2.Rx.r_rU ?_ | refine L2.Rx.r_max2 ?_ | refine L2.Rx.r_min2 ?_ | refine L2.Rx.r_int1i ?_ | (refine L2.Rx.r_lenh (by walk_at "hp") ?_)
  | (refine L2.Rx.r_ixLh (by walk_at "hp") (by walk_at "at") ?_)
  | (refine L2.Rx.r_setL (by walk_at "hp") (by walk_at "at") ?_))
local macro_rules | `(tactic| walk_at "at") => `(tactic| with_unfolding_all rfl)
local macro_rules | `(tactic| walk_at "rd") => `(tactic| (repeat walk_at "rd1"))
local macro_rules | `(tactic| walk_at "hp") => `(tactic| first
  | assumption
  | exact L2.upd_same
  | (refine Eq.trans (L2.upd_ne ?_) ?_; (focus walk_at "ne"); (focus walk_at "hp"))
  | (refine L2.Rx.Kp.at0 (by assumption) ?_; walk_at "hp")
  | (refine L2.Rx.Kp.at1 (by assumption) ?_ ?_; (focus walk_at "ne"); (focus walk_at "hp")))
local macro_rules | `(tactic| walk_at "ne") => `(tactic| first
  | assumption | exact Ne.symm (by assumption)
  | (refine L2.ne_of_none (H := ?nH) (o := ?nO) ?nh ?nn; (case nn => assumption); (case nh => walk_at "hp"))
  | (refine Ne.symm (L2.ne_of_none (H := ?nH) (o := ?nO) ?nh ?nn); (case nn => assumption); (case nh => walk_at "hp")))
local macro_rules | `(tactic| walk_at "len") => `(tactic| (rw [PySem.sizeLine_eq]; omega))
local macro_rules | `(tactic| walk_at "nin") => `(tactic| first
  | exact List.not_mem_nil
  | (refine L2.Rx.nin1 ?_; walk_at "ne"))
local macro_rules | `(tactic| walk_at "none") => `(tactic| first
  | assumption
  | (refine L2.Rx.Kp.none0 (by assumption) ?_ ?_; (focus walk_at "nin"); (focus walk_at "none")))
namespace L2.Ro
open PySem PySem.Spec PyProof.Rows L2.Rx
def sp_cells : Sp := fun vs H Q _ => ∃ (b : Addr) (n : Nat) (k : Int), vs = [.ref b, .int k] ∧ Box H b (n + 20) ∧ 0 ≤ k ∧ k ≤ 26 ∧
  ∀ H' p cs, Kp [b] H H' → H p = none → Box H' b n → H' p = some (.lst (cs.map V.str)) → cs.length = k.toNat → Cells cs → Q (.ref p) H'
theorem letters_tl : (Str.ofString "abcdefghijklmnopqrstuvwxyz").cps.toList = List.range' 97 26 := by decide +kernel
/-- the i-th of the cells -/
def cellN (st : List Nat) (u l : Int) (c : Nat) (i : Nat) : Str := ⟨(st.take c ++ [97 + ((u + l * i) % 26).toNat] ++ st.drop c).toArray⟩
theorem leap_inj : ∀ l ∈ ([1, 3, 5, 7, 9, 11] : List Int), ∀ d : Nat, d < 26 → (l * d) % 26 = 0 → d = 0 := by decide +kernel
theorem cellN_cell {st : List Nat} {u l : Int} {c i : Nat} (hs : low st) (hl : st.length ≤ 7) : Cell (cellN st u l c i) := by
  have e : (cellN st u l c i).cps.toList = st.take c ++ [97 + ((u + l * i) % 26).toNat] ++ st.drop c := rfl
  have h26 : ((u + l * i) % 26).toNat < 26 := by
    have := Int.emod_lt_of_pos (u + l * i) (by decide : (0 : Int) < 26)
    omega
  refine ⟨?_, ?_, ?_⟩
  · rw [len_tl, e]
    simp only [List.length_append, List.length_singleton]
    omega
  · rw [len_tl, e]
    simp only [List.length_append, List.length_singleton, List.length_take, List.length_drop]
    omega
  · rw [e]
    intro x hx
    rcases List.mem_append.mp hx with hx | hx
    · rcases List.mem_append.mp hx with hx | hx
      · exact hs x (List.mem_of_mem_take hx)
      · have : x = 97 + ((u + l * i) % 26).toNat := by simpa using hx
        omega
    · exact hs x (List.mem_of_mem_drop hx)
theorem cellN_inj {st : List Nat} {u l : Int} {c i j : Nat} (hl : l ∈ ([1, 3, 5, 7, 9, 11] : List Int)) (hi : i < 26) (hj : j < 26) (e : cellN st u l c i = cellN st u l c j) : i = j := by
  have e1 : st.take c ++ [97 + ((u + l * i) % 26).toNat] ++ st.drop c = st.take c ++ [97 + ((u + l * j) % 26).toNat] ++ st.drop c := by
    have := congrArg (fun z : Str => z.cps.toList) e
    exact this
  have e2 := List.append_cancel_right e1
  have e3 := List.append_cancel_left e2
  have e4 : 97 + ((u + l * i) % 26).toNat = 97 + ((u + l * j) % 26).toNat := by simpa using e3
  have p1 := Int.emod_nonneg (u + l * i) (by decide : (26 : Int) ≠ 0)
  have p2 := Int.emod_nonneg (u + l * j) (by decide : (26 : Int) ≠ 0)
  have e5 : (u + l * i) % 26 = (u + l * j) % 26 := by omega
  rcases Nat.le_total i j with h | h
  · have e6 : (l * ((j - i : Nat) : Int)) % 26 = 0 := by
      have : l * ((j - i : Nat) : Int) = (u + l * j) - (u + l * i) := by
        rw [Int.ofNat_sub h, Int.mul_sub]
        omega
      rw [this]
      omega
    have := leap_inj l hl (j - i) (by omega) e6
    omega
  · have e6 : (l * ((i - j : Nat) : Int)) % 26 = 0 := by
      have : l * ((i - j : Nat) : Int) = (u + l * i) - (u + l * j) := by
        rw [Int.ofNat_sub h, Int.mul_sub]
        omega
      rw [this]
      omega
    have := leap_inj l hl (i - j) (by omega) e6
    omega
theorem cellN_all {st : List Nat} {u l : Int} {c n : Nat} (hs : low st) (h7 : st.length ≤ 7) (hl : l ∈ ([1, 3, 5, 7, 9, 11] : List Int)) (hn : n ≤ 26) : Cells ((List.range n).map (cellN st u l c)) := by
  refine ⟨?_, ?_⟩
  · rw [List.nodup_iff_pairwise_ne, List.pairwise_map]
    refine List.Pairwise.imp_of_mem (R := (· ≠ ·)) ?_ List.nodup_range
    intro i j hi hj ne e
    exact ne (cellN_inj hl (by have := List.mem_range.mp hi; omega) (by have := List.mem_range.mp hj; omega) e)
  · intro z hz
    obtain ⟨i, _, rfl⟩ := List.mem_map.mp hz
    exact cellN_cell hs h7
section
variable {P : Program} {w : World} {K : PySem.W.Frag} {mg : Str → Option Value} {base : Heap}
theorem k_cells {f : Addr} {fd : FuncData} (F : Fun K "_law_cells" "_law_cells" s_cells f fd) (g : mg "_law_cells" = some (.ref f)) (z : Zb mg) (k_take : Kn P w K mg base CX0 1 "_law_take" sp_take) (k_of : Kn P w K mg base CX0 2 "_law_of" (sp_of K))  : Kn P w K mg base CX0 3 "_law_cells" sp_cells := by
  refine ⟨f, fd, ["_law_box_here", "_law_count"], fnG_body F sc_cells (fun vs H Q E h => ?_) (fun cdv A outer s H vs Q E hr h => ?_), g, F.kp, F.binds (fun _ _ _ _ _ _ us hl => match us, hl with | [_, _], _ => rfl)⟩
  · obtain ⟨b, n, k, rfl, _⟩ := h
    rfl
  · obtain ⟨b, n, k, rfl, B, k0, k1, q⟩ := h
    refine ⟨_, PSs.nox (pss_cons (ps_set (i := 2) sc_cells.nd rfl (.inr rfl) pe_str)
      (pss_cons (ps_asg (pe_tupF (pa_cons (k_take.call hr (by decide) (by rfl) (pa_cons (pv 0) (pa_cons pe_int pa_nil))) (pa_cons (k_of.call hr (by decide) (by rfl) (pa_cons (pv 0) (pa_cons (pe_lst (pa_cons pe_int (pa_cons pe_int (pa_cons pe_int (pa_cons pe_int (pa_cons pe_int (pa_cons pe_int pa_nil))))))) pa_nil))) pa_nil))) (show PG _ _ (gTup K 2 _) from pg_tup rfl (pgs_cons (pg_name (i := 3) sc_cells.nd rfl (.inr rfl)) (pgs_cons (pg_name (i := 4) sc_cells.nd rfl (.inr rfl)) pgs_nil))))
      (pss_cons (ps_set (i := 5) sc_cells.nd rfl (.inr rfl) (show PE _ _ (tM1 (rJoin K) _ _) from pe_joinV pe_str (pe_lc (own := [("_law_turn", 7)]) (g := (gName 7)) (by rfl) sc_cells.nd (pi_range1 rfl z.n_range (pa_cons (k_of.call hr (by decide) (by rfl) (pa_cons (pv 0) (pa_cons (pe_lst (pa_cons pe_int (pa_cons pe_int (pa_cons pe_int (pa_cons pe_int (pa_cons pe_int (pa_cons pe_int pa_nil))))))) pa_nil))) pa_nil)) (blkOk_by (own := [("_law_turn", 7)]) (N := ["_law_box_here", "_law_count", "_law_letters", "_law_start", "_law_leap", "_law_stem", "_law_cut", "_law_turn"]) (sc := defScope s_cells) (by decide +kernel)) (fun _ _ _ _ _ => (pg_name (i := 7) sc_cells.nd rfl (.inl rfl))) (fun _ _ _ _ _ => pts_nil) (fun _ _ _ _ _ => (k_of.call hr (by decide) (by rfl) (pa_cons (pv 0) (pa_cons (pv 2) pa_nil)))))))
      (pss_cons (ps_set (i := 6) sc_cells.nd rfl (.inr rfl) (k_take.call hr (by decide) (by rfl) (pa_cons (pv 0) (pa_cons (pe_op op_add (pe_callB c_lenS (by rfl) z.n_len (by decide +kernel) (pa_cons (pv 5) pa_nil)) pe_int) pa_nil))))
      (pss_one (ps_ret (pe_lc (own := [("_law_turn", 7)]) (g := (gName 7)) (by rfl) sc_cells.nd (pi_range1 rfl z.n_range (pa_cons (pv 1) pa_nil)) (blkOk_by (own := [("_law_turn", 7)]) (N := ["_law_box_here", "_law_count", "_law_letters", "_law_start", "_law_leap", "_law_stem", "_law_cut", "_law_turn"]) (sc := defScope s_cells) (by decide +kernel)) (fun _ _ _ _ _ => (pg_name (i := 7) sc_cells.nd rfl (.inl rfl))) (fun _ _ _ _ _ => pts_nil) (fun _ _ _ _ _ => (pe_op op_addS (pe_op op_addS (pe_slice sl_str (pv 5) po_none (po_some (pv 6))) (pe_ix ix_str (pv 2) (pe_op op_mod (pe_op op_add (pv 3) (pe_op op_mul (pv 4) (pv 7))) pe_int) (fun _ _ => rfl))) (pe_slice sl_str (pv 5) (po_some (pv 6)) po_none)))))))))), ?_⟩
    walk_at "rd"
    obtain ⟨_, hb⟩ := B.lst
    refine ⟨b, n + 19, 26, rfl, B, by decide, by decide, fun H1 u kp1 B1 u0 u1 => ?_⟩
    walk_at "rd"
    obtain ⟨_, hb1⟩ := B1.lst
    refine r_new rfl (fun p np => ?_)
    refine gen_new np fun H2 kp2 hp => ?_
    walk_at "rd"
    have npb : p ≠ b := by walk_at "ne"
    refine ⟨b, n + 18, _, rfl, B1.keep kp2, .inl ⟨p, _, rfl, .inl (.inl (.inl hp)), npb, by decide, by decide, fun H3 l kp3 B3 hv => ?_⟩⟩
    obtain ⟨l, rfl, hl⟩ : ∃ i : Int, l = .int i ∧ i ∈ ([1, 3, 5, 7, 9, 11] : List Int) := by
      simp only [List.mem_cons, List.mem_nil_iff, or_false] at hv
      rcases hv with rfl | rfl | rfl | rfl | rfl | rfl <;> exact ⟨_, rfl, by decide⟩
    walk_at "rd"
    refine r_newF rfl fun t ot nt odt => ?_
    refine gen_newT nt odt fun H4 kp4 ht => ?_
    walk_at "rd"
    refine r_new rfl (fun r nr => ?_)
    refine gen_new nr fun H5 kp5 hr5 => ?_
    walk_at "rd"
    obtain ⟨_, hb3⟩ := B3.lst
    have nrb : r ≠ b := by walk_at "ne"
    refine ⟨b, n + 17, _, rfl, (B3.keep kp4).keep kp5, .inl ⟨r, _, rfl, .inl (.inl (.inl hr5)), nrb, by decide, by decide, fun H6 m kp6 B6 hm => ?_⟩⟩
    obtain ⟨m, rfl, m0, m7⟩ : ∃ i : Int, m = .int i ∧ 0 ≤ i ∧ i ≤ 7 := by
      simp only [List.mem_cons, List.mem_nil_iff, or_false] at hm
      rcases hm with rfl | rfl | rfl | rfl | rfl | rfl <;> exact ⟨_, rfl, by decide, by decide⟩
    walk_at "rd"
    refine r_rngv (by omega) (by omega) ?_
    intro D nD
    have nDb : D ≠ b := by
      obtain ⟨_, hb6⟩ := B6.lst
      walk_at "ne"
    refine lc_range (lo := 0) (n := m.toNat) (PvL D (fun i acc H' => ∃ ss : List Str, acc = ss.map V.str ∧ ss.length = i ∧ (∀ s ∈ ss, s.cps.size = 1 ∧ low s.cps.toList) ∧ Kp [b] H6 H' ∧ Box H' b (n + 17 - i))) ⟨[], upd_same, Nat.le_refl _, [], rfl, rfl, (fun _ h => nomatch h), Kp.to1 (Kp.new nD), B6.keep (Kp.new nD)⟩ (fun i H7 hi ⟨acc, ea, la, ss, eacc, ls, hs, kp7, B7⟩ => ?_) (fun H7 ⟨acc, ea, la, ss, eacc, ls, hs, kp7, B7⟩ => ?_)
    · walk_at "rd"
      refine ⟨b, n + 16 - i, _, rfl, B7.mono (by omega), .inr ⟨_, rfl, by decide +kernel, by decide +kernel, fun H8 c kp8 B8 hc => ?_⟩⟩
      have ea8 : H8 D = some (.lst acc) := by walk_at "hp"
      refine PvL.step ea8 la (by omega) ⟨ss ++ [⟨#[c]⟩], by rw [eacc, List.map_append]; rfl, by rw [List.length_append, ls]; rfl, ?_, (kp7.trans kp8).putNew nD, ?_⟩
      · intro s hs'
        rcases List.mem_append.mp hs' with h | h
        · exact hs s h
        · have e : s = ⟨#[c]⟩ := by simpa using h
          subst e
          refine ⟨rfl, fun x hx => ?_⟩
          have e : x = c := by simpa using hx
          subst e
          rw [letters_tl] at hc
          have := List.mem_range'.mp hc
          omega
      · obtain ⟨o, s, c', e, r⟩ := B8
        exact ⟨o, s, c', (upd_ne (Ne.symm nDb)).trans e, by omega⟩
    · subst eacc
      have hlen : ∀ zs : List Str, (∀ s ∈ zs, s.cps.size = 1 ∧ low s.cps.toList) → (zs.map (·.length)).sum = zs.length ∧ ((zs.map fun z => z.cps.toList).flatten).length = zs.length ∧ low ((zs.map fun z => z.cps.toList).flatten) := by
        intro zs
        induction zs with
        | nil => intro _; exact ⟨rfl, rfl, fun _ h => nomatch h⟩
        | cons y ys ih =>
          intro h
          obtain ⟨a, b, c⟩ := ih fun s m => h s (List.mem_cons_of_mem _ m)
          obtain ⟨h1, h2⟩ := h y (List.mem_cons_self ..)
          refine ⟨?_, ?_, ?_⟩
          · rw [List.map_cons, List.sum_cons, a, List.length_cons]
            show y.cps.size + _ = _
            omega
          · rw [List.map_cons, List.flatten_cons, List.length_append, b, List.length_cons, Array.length_toList, h1]
            omega
          · intro x hx
            rw [List.map_cons, List.flatten_cons] at hx
            rcases List.mem_append.mp hx with m | m
            · exact h2 x m
            · exact c x m
      obtain ⟨l1, l2, l3⟩ := hlen ss hs
      refine r_join ea (by rw [l1]; show ss.length + ss.length * 0 ≤ _; omega) ?_
      have ej := tl_joined (e := Str.ofString "") (by decide +kernel) ss
      generalize Txt.join (Str.ofString "") ss = stem at ej ⊢
      have es : low stem.cps.toList ∧ stem.cps.toList.length ≤ 7 := by
        rw [ej]
        exact ⟨l3, by rw [l2]; omega⟩
      have esl : stem.length ≤ 7 := by rw [len_tl]; exact es.2
      walk_at "rd"
      refine ⟨b, n + 9, _, rfl, B7.mono (by omega), by omega, by omega, fun H8 c kp8 B8 c0 c1 => ?_⟩
      walk_at "rd"
      refine r_rngv (by omega) (by omega) ?_
      intro E nE
      have nEb : E ≠ b := by
        obtain ⟨_, hb8⟩ := B8.lst
        walk_at "ne"
      refine lc_range (lo := 0) (n := k.toNat) (PvL E (fun i acc H' => acc = ((List.range i).map (cellN stem.cps.toList u l c.toNat)).map V.str ∧ Kp [] H8 H')) ⟨[], upd_same, Nat.le_refl _, rfl, Kp.new nE⟩ (fun i H9 hi ⟨acc, ea9, la9, eacc9, kp9⟩ => ?_) (fun H9 ⟨acc, ea9, la9, eacc9, kp9⟩ => ?_)
      · walk_at "rd"
        refine r_mul (.inr (by omega)) ?_
        walk_at "rd"
        refine r_modx (by decide) ?_
        have q0 := Int.emod_nonneg (u + l * (0 + (i : Int))) (by decide : (26 : Int) ≠ 0)
        have q1 := Int.emod_lt_of_pos (u + l * (0 + (i : Int))) (by decide : (0 : Int) < 26)
        have ex : atI (Str.ofString "abcdefghijklmnopqrstuvwxyz").cps.toList ((u + l * (0 + (i : Int))) % 26) = some (97 + ((u + l * (0 + (i : Int))) % 26).toNat) := by
          rw [letters_tl]
          obtain ⟨j, hj⟩ : ∃ j : Nat, (u + l * (0 + (i : Int))) % 26 = (j : Int) := ⟨((u + l * (0 + (i : Int))) % 26).toNat, by omega⟩
          rw [hj]
          refine atI_nat ?_
          rw [List.getElem?_range' (by omega)]
          show some (97 + 1 * j) = some (97 + j)
          rw [Nat.one_mul]
        refine r_ixS (by decide +kernel) ex ?_
        have lc1 : (cutS stem none (some c)).length ≤ 7 := Nat.le_trans (cutS_length _ _ _) esl
        have lc2 : (cutS stem (some c) none).length ≤ 7 := Nat.le_trans (cutS_length _ _ _) esl
        refine r_addS (by rw [sizeLine_eq]; show _ + 1 ≤ _; omega) ?_
        walk_at "rd"
        refine r_addS (by rw [sizeLine_eq, len_tl, tl_cat, List.length_append, ← len_tl, ← len_tl]; show _ + 1 + _ ≤ _; omega) ?_
        have ecell : cutS stem none (some c) ++ ⟨#[97 + ((u + l * (0 + (i : Int))) % 26).toNat]⟩ ++ cutS stem (some c) none = cellN stem.cps.toList u l c.toNat i := by
          obtain ⟨c', rfl⟩ : ∃ c' : Nat, c = (c' : Int) := ⟨c.toNat, by omega⟩
          refine str_ext ?_
          rw [tl_cat, tl_cat, cut_lo, cut_hi]
          show _ = stem.cps.toList.take c' ++ [97 + ((u + l * i) % 26).toNat] ++ stem.cps.toList.drop c'
          rw [Int.zero_add]
        rw [ecell]
        refine PvL.step ea9 la9 (by omega) ⟨?_, (kp9.trans (Kp.refl)).new0 nE⟩
        rw [eacc9, List.range_succ, List.map_append, List.map_append]
        rfl
      · exact q H9 E _ (((((kp1.trans (Kp.to1 kp2)).trans kp3).trans (Kp.to1 (kp4.trans kp5))).trans kp6).trans (kp7.trans kp8) |>.trans (Kp.to1 kp9)) (by walk_at "none") ((B8.keep kp9).mono (by omega)) (by rw [ea9, eacc9]) (by rw [List.length_map, List.length_range]) (cellN_all es.1 es.2 hl (by omega))
end
end L2.Ro

end
section
set_option Elab.async false
set_option linter.all false
set_option maxRecDepth 100000
set_option maxHeartbeats 4000000
local macro_rules | `(tactic| walk_at "rd1") => `(tactic| with_reducible first
  | refine L2.Rx.r_seq ?_ | refine L2.Rx.r_asg ?_ | refine L2.Rx.r_gname ?_ | refine L2.Rx.r_op ?_ | refine L2.Rx.r_c ?_
  | refine L2.Rx.r_var rfl ?_
  | refine L2.Rx.r_rI0 ?_ | refine L2.Rx.r_test ?_ | refine L2.Rx.r_bl ?_ | refine L2.Rx.r_if ?_ | refine L2.Rx.r_ret ?_
  | refine L2.Rx.r_cons ?_ | refine L2.Rx.r_nil ?_ | refine L2.Rx.r_call ?_ | refine L2.Rx.r_cb ?_ | refine L2.Rx.r_next ?_ | refine L2.Rx.r_drop ?_
  | refine L2.Rx.r_gsub ?_ | refine L2.Rx.r_tupF ?_ | refine L2.Rx.r_lst ?_ | refine L2.Rx.r_par ?_ | refine L2.Rx.r_par2 ?_
  | refine L2.Rx.r_un ?_ | refine L2.Rx.r_tb ?_ | refine L2.Rx.r_and ?_ | refine L2.Rx.r_or ?_ | refine L2.Rx.r_not ?_
  | refine L2.Rx.r_andV ?_ | refine L2.Rx.r_orV ?_ | refine L2.Rx.r_notV ?_ | refine L2.Rx.r_ifx ?_ | refine L2.Rx.r_chain ?_
  | refine L2.Rx.r_sl ?_ | refine L2.Rx.r_nopart ?_ | refine L2.Rx.r_part ?_ | refine L2.Rx.r_exint ?_ | refine L2.Rx.r_bm0 ?_ | refine L2.Rx.r_bm ?_
  | refine L2.Rx.r_lc ?_ | refine L2.Rx.r_rng1 ?_ | refine L2.Rx.r_yes ?_ | refine L2.Rx.r_tt ?_ | refine L2.Rx.r_ff ?_ | refine L2.Rx.r_m1 ?_ | refine L2.Rx.r_m0 ?_ | refine L2.Rx.r_isS ?_
  | (refine L2.Rx.r_wipe (by with_unfolding_all rfl) ?_) | (refine L2.Rx.r_tyL (by walk_at "hp") ?_)
  | refine L2.Rx.r_addS (by walk_at "len") ?_ | refine L2.Rx.r_lenS (by walk_at "len") ?_ | refine L2.Rx.r_slS (by walk_at "len") ?_
  | refine L2.Rx.r_dnotin ?_ | refine L2.Rx.r_dget ?_ | refine L2.Rx.r_dget1 ?_ | refine L2.Rx.r_dput ?_ | refine L2.Rx.r_dpop1 ?_ | refine L2.Rx.r_isN ?_
  | refine L2.Rx.r_for ?_ | refine L2.Rx.r_ilist ?_ | refine L2.Rx.r_itup ?_
  | refine L2.Rx.r_gcons ?_ | refine L2.Rx.r_gnil ?_ | (refine L2.Rx.r_gtupP (by assumption) (by walk_at "at") ?_)
  | (refine L2.Rx.r_rEq rfl ?_) | (refine L2.Rx.r_rNe rfl ?_)
  | refine L2.Rx.r_rU ?_ | refine L2.Rx.r_max2 ?_ | refine L2.Rx.r_min2 ?_ | refine L2.Rx.r_int1i ?_ | (refine L2.Rx.r_lenh (by walk_at "hp") ?_)
  | (refine L2.Rx.r_ixLh (by walk_at "hp") (by walk_at "at") ?_)
  | (refine L2.Rx.r_setL (by walk_at "hp") (by walk_at "at") ?_))
local macro_rules | `(tactic| walk_at "at") => `(tactic| with_unfolding_all rfl)
local macro_rules | `(tactic| walk_at "rd") => `(tactic| (repeat walk_at "rd1"))
local macro_rules | `(tactic| walk_at "hp") => `(tactic| first
  | assumption
  | exact L2.upd_same
  | (refine Eq.trans (L2.upd_ne ?_) ?_; (focus walk_at "ne"); (focus walk_at "hp"))
  | (refine L2.Rx.Kp.at0 (by assumption) ?_; walk_at "hp")
  | (refine L2.Rx.Kp.at1 (by assumption) ?_ ?_; (focus walk_at "ne"); (focus walk_at "hp")))
local macro_rules | `(tactic| walk_at "ne") => `(tactic| first
  | assumption | exact Ne.symm (by assumption)
  | (refine L2.ne_of_none (H := ?nH) (o := ?nO) ?nh ?nn; (case nn => assumption); (case nh => walk_at "hp"))
  | (refine Ne.symm (L2.ne_of_none (H := ?nH) (o := ?nO) ?nh ?nn); (case nn => assumption); (case nh => walk_at "hp")))
local macro_rules | `(tactic| walk_at "len") => `(tactic| (rw [PySem.sizeLine_eq]; omega))
local macro_rules | `(tactic| walk_at "nin") => `(tactic| first
  | exact List.not_mem_nil
  | (refine L2.Rx.nin1 ?_; walk_at "ne"))
local macro_rules | `(tactic| walk_at "none") => `(tactic| first
  | assumption
  | (refine L2.Rx.Kp.none0 (by assumption) ?_ ?_; (focus walk_at "nin"); (focus walk_at "none")))
namespace L2.Ro
open PySem PySem.Spec PyProof.Rows L2.Rx
def sp_values : Sp := fun vs H Q _ => ∃ (b : Addr) (n : Nat) (k : Int), vs = [.ref b, .int k] ∧ Box H b (n + 10) ∧ 0 ≤ k ∧ k ≤ 4 ∧
  ∀ (H' : Hp) (p : Addr) (ms : List Int), Kp [b] H H' → H p = none → Box H' b n → H' p = some (.lst (ms.map V.int)) → ms.length = k.toNat → ms.Pairwise (· < ·) → (∀ m ∈ ms, 0 ≤ m ∧ m ≤ 1000000000) → Q (.ref p) H'
theorem spare_there {fs : List Int} (h : fs.length ≤ 4) : ∃ m, (([11, 12, 13, 14, 15] : List Int).filter fun e => !decide (e ∈ fs)).head? = some m := by
  cases e : ([11, 12, 13, 14, 15] : List Int).filter fun e => !decide (e ∈ fs) with
  | cons m _ => exact ⟨m, rfl⟩
  | nil =>
    have sub : ∀ x ∈ ([11, 12, 13, 14, 15] : List Int), x ∈ fs := by
      intro x hx
      have := List.filter_eq_nil_iff.mp e x hx
      simpa using this
    have := List.Nodup.length_le_of_subset (by decide : ([11, 12, 13, 14, 15] : List Int).Nodup) sub
    simp at this
    omega
section
variable {P : Program} {w : World} {K : PySem.W.Frag} {mg : Str → Option Value} {base : Heap}
theorem k_values {f : Addr} {fd : FuncData} (F : Fun K "_law_values" "_law_values" s_values f fd) (g : mg "_law_values" = some (.ref f)) (z : Zb mg) (k_take : Kn P w K mg base CX0 1 "_law_take" sp_take)  : Kn P w K mg base CX0 2 "_law_values" sp_values := by
  refine ⟨f, fd, ["_law_box_here", "_law_count"], fnG_body F sc_values (fun vs H Q E h => ?_) (fun cdv A outer s H vs Q E hr h => ?_), g, F.kp, F.binds (fun _ _ _ _ _ _ us hl => match us, hl with | [_, _], _ => rfl)⟩
  · obtain ⟨b, n, k, rfl, _⟩ := h
    rfl
  · obtain ⟨b, n, k, rfl, B, k0, k1, q⟩ := h
    refine ⟨_, PSs.nox (pss_cons (ps_set (i := 2) sc_values.nd rfl (.inl rfl) (pe_lst (pa_cons pe_int (pa_cons pe_int (pa_cons pe_int (pa_cons pe_int (pa_cons pe_int (pa_cons (pe_op op_pow pe_int pe_int) (pa_cons (pe_op op_add pe_int (k_take.call hr (by decide) (by rfl) (pa_cons (pv 0) (pa_cons (pe_op op_pow pe_int pe_int) pa_nil)))) pa_nil)))))))))
      (pss_cons (ps_set (i := 3) sc_values.nd rfl (.inr rfl) (pe_lst pa_nil))
      (pss_cons (ps_for PassesOwn.never rfl (pi_range1 rfl z.n_range (pa_cons (pv 1) pa_nil)) (pg_name (i := 4) sc_values.nd rfl (.inl rfl))
        (pss_cons (ps_set (i := 5) sc_values.nd rfl (.inl rfl) (pe_ix (show IxR _ (rIxL K) from ix_list) (pv 2) (k_take.call hr (by decide) (by rfl) (pa_cons (pv 0) (pa_cons pe_int pa_nil))) (fun _ _ => rfl)))
        (pss_cons (ps_set (i := 6) sc_values.nd rfl (.inl rfl) (pe_ix (show IxR _ (rIxL K) from ix_list) (pe_lc (own := [("_law_each", 7)]) (g := (gName 7)) (by rfl) sc_values.nd (show PI _ _ _ (iTup K _) from pi_tup (pe_tupF (pa_cons pe_int (pa_cons pe_int (pa_cons pe_int (pa_cons pe_int (pa_cons pe_int pa_nil))))))) (blkOk_by (own := [("_law_each", 7)]) (N := ["_law_box_here", "_law_count", "_law_some", "_law_found", "_law_turn", "_law_value", "_law_spare", "_law_each"]) (sc := defScope s_values) (by decide +kernel)) (fun _ _ _ _ _ => (pg_name (i := 7) sc_values.nd rfl (.inl rfl))) (fun _ _ _ _ _ => (pts_one (pt_cmpR (show OpR _ _ (rIn K true) from op_notIn_seq) (pv 7) (pv 3) (by rfl)))) (fun _ _ _ _ _ => (pv 7))) pe_int (fun _ _ => rfl)))
        (pss_one (ps_expr (show PE _ _ (tBM K _ _ _ _) from pe_bm PySem.F.plainAttrs_list PySem.F.slot_list_append PySem.F.type_list_append mt_append (pv 3) (pa_cons (pe_ifExp (pt_cmpR (show OpR _ _ (rIn K true) from op_notIn_seq) (pv 5) (pv 3) (by rfl)) (pv 5) (pv 6)) pa_nil)))))))
      (pss_one (ps_ret (pe_callB (show CallR _ _ (rSortV K) from (call_sortV hr)) (by rfl) z.n_sorted (by decide +kernel) (pa_cons (pv 3) pa_nil))))))), ?_⟩
    walk_at "rd"
    refine r_powx (v := 1000000000) (by decide +kernel) (by decide +kernel) ?_
    walk_at "rd"
    refine r_powx (v := 1000000000) (by decide +kernel) (by decide +kernel) ?_
    walk_at "rd"
    refine ⟨b, n + 9, _, rfl, B, by decide, by decide, fun H1 u kp1 B1 u0 u1 => ?_⟩
    walk_at "rd"
    refine r_new rfl (fun p np => ?_)
    refine gen_new np fun H2 kp2 hp => ?_
    walk_at "rd"
    refine r_new rfl (fun f nf => ?_)
    refine gen_new nf fun H3 kp3 hf => ?_
    walk_at "rd"
    refine r_rngv (by omega) (by omega) ?_
    refine for_range (lo := 0) (n := k.toNat) (fun i σ' H' => ∃ (t v s e : Option V) (fs : List Int), σ' = [some (.ref b), some (.int k), some (.ref p), some (.ref f), t, v, s, e] ∧ Kp [b] H1 H' ∧ H' f = some (.lst (fs.map V.int)) ∧ H' p = H2 p ∧ fs.length = i ∧ fs.Nodup ∧ (∀ m ∈ fs, 0 ≤ m ∧ m ≤ 1000000000) ∧ Box H' b (n + 9 - i)) ?_ ?_ ?_
    · refine ⟨_, _, _, _, [], rfl, Kp.to1 (kp2.trans kp3), hf, by rw [hp]; exact kp3.at0 hp, rfl, List.nodup_nil, (fun _ h => nomatch h), (B1.keep kp2).keep kp3⟩
    · rintro i σ' H4 hi ⟨t, v, s, e, fs, rfl, kp4, hf4, hp4, lf, nd, bd, B4⟩
      have fnb : f ≠ b := by
        obtain ⟨_, hb1⟩ := B1.lst
        walk_at "ne"
      have pnb : p ≠ b := by
        obtain ⟨_, hb1⟩ := B1.lst
        walk_at "ne"
      have fnp : f ≠ p := by walk_at "ne"
      walk_at "rd"
      refine ⟨b, n + 8 - i, _, rfl, B4.mono (by omega), by decide, by decide, fun H5 r kp5 B5 r0 r1 => ?_⟩
      have hp5 : H5 p = some (.lst (([0, 1, 2, 3, 7, 1000000000, 1 + u] : List Int).map V.int)) := kp5.at1 pnb (hp4.trans hp)
      have hf5 : H5 f = some (.lst (fs.map V.int)) := kp5.at1 fnb hf4
      refine r_pickI (.inl (.inl hp5)) r0 r1 (fun m hm => ?_)
      have mb : 0 ≤ m ∧ m ≤ 1000000000 := by
        simp only [List.mem_cons, List.mem_nil_iff, or_false] at hm
        omega
      walk_at "rd"
      refine r_newF rfl fun y oy ny ody => ?_
      refine gen_newT ny ody fun H6 kp6 hy => ?_
      walk_at "rd"
      refine r_walkT hy.sq ?_
      intro D nD
      have hf6 : H6 f = some (.lst (fs.map V.int)) := kp6.at0 hf5
      have fnD : f ≠ D := by walk_at "ne"
      refine lc_tup (K := K) (a := y) (xs := ([11, 12, 13, 14, 15] : List Int).map V.int) (PvL D (fun j acc H' => acc = (((([11, 12, 13, 14, 15] : List Int).take j).filter fun e => !decide (e ∈ fs)).map V.int) ∧ Kp [] H6 H')) ⟨[], upd_same, Nat.le_refl _, rfl, Kp.new nD⟩ (fun j H7 hj ⟨acc, ea, la, eacc, kp7⟩ => (hy.keep0 kp7).sq) (fun j x H7 hx ⟨acc, ea, la, eacc, kp7⟩ => ?_) (fun H7 ⟨acc, ea, la, eacc, kp7⟩ => ?_)
      · rw [List.getElem?_map] at hx
        obtain ⟨c, hc, rfl⟩ : ∃ c, ([11, 12, 13, 14, 15] : List Int)[j]? = some c ∧ x = V.int c := by
          cases q : ([11, 12, 13, 14, 15] : List Int)[j]? with
          | none => rw [q] at hx; cases hx
          | some c => rw [q] at hx; exact ⟨c, rfl, (Option.some.inj hx).symm⟩
        have hj5 : j < 5 := (List.getElem?_eq_some_iff.mp hc).1
        walk_at "rd"
        refine r_notinI (.inl (.inl (.inl (kp7.at0 hf6)))) ?_
        walk_at "rd"
        refine r_itn (fun hn => ?_) (fun hn => ?_)
        · walk_at "rd"
          refine PvL.step ea la (by omega) ⟨?_, kp7.new0 nD⟩
          rw [List.take_add_one, hc, List.filter_append, List.map_append, eacc]
          have : ([c] : List Int).filter (fun e => !decide (e ∈ fs)) = [c] := by simp [hn]
          rw [show (some c).toList = [c] from rfl, this]
          rfl
        · refine PvL.skip ea la ⟨?_, kp7⟩
          rw [List.take_add_one, hc, List.filter_append, List.map_append, eacc]
          have : ([c] : List Int).filter (fun e => !decide (e ∈ fs)) = [] := by simp [hn]
          rw [show (some c).toList = [c] from rfl, this]
          simp
      · obtain ⟨sp, hsp⟩ := spare_there (fs := fs) (by omega)
        have e5 : ([11, 12, 13, 14, 15] : List Int).take ((([11, 12, 13, 14, 15] : List Int).map V.int).length) = [11, 12, 13, 14, 15] := rfl
        rw [e5] at eacc
        obtain ⟨tl, etl⟩ : ∃ tl, (([11, 12, 13, 14, 15] : List Int).filter fun e => !decide (e ∈ fs)) = sp :: tl := by
          cases q : ([11, 12, 13, 14, 15] : List Int).filter fun e => !decide (e ∈ fs) with
          | nil => rw [q] at hsp; cases hsp
          | cons a r => rw [q] at hsp; cases hsp; exact ⟨r, rfl⟩
        have spin : sp ∈ ([11, 12, 13, 14, 15] : List Int) ∧ ¬ sp ∈ fs := by
          have : sp ∈ ([11, 12, 13, 14, 15] : List Int).filter fun e => !decide (e ∈ fs) := by rw [etl]; exact List.mem_cons_self ..
          have := List.mem_filter.mp this
          exact ⟨this.1, by simpa using this.2⟩
        have spb : 0 ≤ sp ∧ sp ≤ 1000000000 := by
          have := spin.1
          simp only [List.mem_cons, List.mem_nil_iff, or_false] at this
          omega
        subst eacc
        walk_at "rd"
        refine r_ixLh ea (by rw [etl]; exact atI_nat (j := 0) rfl) ?_
        have hf7 : H7 f = some (.lst (fs.map V.int)) := kp7.at0 hf6
        have kall : Kp [b] H4 H7 := (kp5.trans (Kp.to1 kp6)).trans (Kp.to1 kp7)
        have fin : ∀ m' : Int, 0 ≤ m' ∧ m' ≤ 1000000000 → ¬ m' ∈ fs → ∃ (t' v' s' e' : Option V) (fs' : List Int), [some (V.ref b), some (.int k), some (.ref p), some (.ref f), some (.int (0 + (i : Int))), some (.int m), some (.int sp), e] = [some (.ref b), some (.int k), some (.ref p), some (.ref f), t', v', s', e'] ∧ Kp [b] H1 (upd H7 f (.lst (fs.map V.int ++ [.int m']))) ∧
            (upd H7 f (.lst (fs.map V.int ++ [.int m']))) f = some (.lst (fs'.map V.int)) ∧ (upd H7 f (.lst (fs.map V.int ++ [.int m']))) p = H2 p ∧ fs'.length = i + 1 ∧ fs'.Nodup ∧ (∀ m ∈ fs', 0 ≤ m ∧ m ≤ 1000000000) ∧ Box (upd H7 f (.lst (fs.map V.int ++ [.int m']))) b (n + 9 - (i + 1)) := by
          intro m' hb' hn
          refine ⟨_, _, _, e, fs ++ [m'], rfl, ?_, ?_, ?_, ?_, ?_, ?_, ?_⟩
          · exact (kp4.trans kall).new0 (kp2.none0 List.not_mem_nil nf)
          · rw [upd_same, List.map_append]
            rfl
          · rw [upd_ne (Ne.symm fnp), ← hp4]
            rw [hp4, hp]
            exact kall.at1 pnb (hp4.trans hp)
          · rw [List.length_append, lf]
            rfl
          · rw [List.nodup_append]
            exact ⟨nd, by simp, by intro a ha c hc; have : c = m' := by simpa using hc
                                   subst this; intro z; subst z; exact hn ha⟩
          · intro c hc
            rcases List.mem_append.mp hc with h | h
            · exact bd c h
            · have : c = m' := by simpa using h
              subst this
              exact hb'
          · obtain ⟨o, sd, c, e', r⟩ := (B5.keep kp6).keep kp7
            exact ⟨o, sd, c, (upd_ne (Ne.symm fnb)).trans e', by omega⟩
        walk_at "rd"
        refine r_notinI (.inl (.inl (.inl hf7))) ?_
        walk_at "rd"
        have lf7 : (fs.map V.int).length < 1000000 := by
          rw [List.length_map]
          omega
        refine r_itn (fun hn => ?_) (fun hn => ?_)
        · walk_at "rd"
          refine r_app0 hf7 lf7 ?_
          obtain ⟨t', v', s', e', fs', es, rest⟩ := fin m mb hn
          exact ⟨t', v', s', e', fs', es, rest⟩
        · walk_at "rd"
          refine r_app0 hf7 lf7 ?_
          obtain ⟨t', v', s', e', fs', es, rest⟩ := fin sp spb spin.2
          exact ⟨t', v', s', e', fs', es, rest⟩
    · rintro σ' H4 ⟨t, v, s, e, fs, rfl, kp4, hf4, hp4, lf, nd, bd, B4⟩
      walk_at "rd"
      refine r_sortI (.inl (.inl (.inl hf4))) fun p' ms pm pw np' => ?_
      have bp : p' ∉ [b] := by
        obtain ⟨_, hb4⟩ := B4.lst
        exact nin1 (Ne.symm (ne_of_none hb4 np'))
      have kpn : Kp [b] H (upd H4 p' (.lst (ms.map V.int))) := (kp1.trans kp4).putNew ((kp1.trans kp4).none0 bp np')
      refine q _ p' ms kpn ((kp1.trans kp4).none0 bp np') ?_ upd_same (by rw [pm.length_eq, lf]) ?_ (fun m hm => bd m (pm.mem_iff.mp hm))
      · exact (B4.keep (Kp.new np')).mono (by omega)
      · have nd' : ms.Nodup := pm.nodup_iff.mpr nd
        refine (pw.and nd').imp fun {x y} h => ?_
        have := h.1
        have := h.2
        omega
end
end L2.Ro

end
section
set_option Elab.async false
set_option linter.all false
set_option maxRecDepth 100000
set_option maxHeartbeats 4000000
local macro_rules | `(tactic| walk_at "rd1") => `(tactic| with_reducible first
  | refine L2.Rx.r_seq ?_ | refine L2.Rx.r_asg ?_ | refine L2.Rx.r_gname ?_ | refine L2.Rx.r_op ?_ | refine L2.Rx.r_c ?_
  | refine L2.Rx.r_var rfl ?_
  | refine L2.Rx.r_rI0 ?_ | refine L2.Rx.r_test ?_ | refine L2.Rx.r_bl ?_ | refine L2.Rx.r_if ?_ | refine L2.Rx.r_ret ?_
  | refine L2.Rx.r_cons ?_ | refine L2.Rx.r_nil ?_ | refine L2.Rx.r_call ?_ | refine L2.Rx.r_cb ?_ | refine L2.Rx.r_next ?_ | refine L2.Rx.r_drop ?_
  | refine L2.Rx.r_gsub ?_ | refine L2.Rx.r_tupF ?_ | refine L2.Rx.r_lst ?_ | refine L2.Rx.r_par ?_ | refine L2.Rx.r_par2 ?_
  | refine L2.Rx.r_un ?_ | refine L2.Rx.r_tb ?_ | refine L2.Rx.r_and ?_ | refine L2.Rx.r_or ?_ | refine L2.Rx.r_not ?_
  | refine L2.Rx.r_andV ?_ | refine L2.Rx.r_orV ?_ | refine L2.Rx.r_notV ?_ | refine L2.Rx.r_ifx ?_ | refine L2.Rx.r_chain ?_
  | refine L2.Rx.r_sl ?_ | refine L2.Rx.r_nopart ?_ | refine L2.Rx.r_part ?_ | refine L2.Rx.r_exint ?_ | refine L2.Rx.r_bm0 ?_ | refine L2.Rx.r_bm ?_
  | refine L2.Rx.r_lc ?_ | refine L2.Rx.r_rng1 ?_ | refine L2.Rx.r_yes ?_ | refine L2.Rx.r_tt ?_ | refine L2.Rx.r_ff ?_ | refine L2.Rx.r_m1 ?_ | refine L2.Rx.r_m0 ?_ | refine L2.Rx.r_isS ?_
  | (refine L2.Rx.r_wipe (by with_unfolding_all rfl) ?_) | (refine L2.Rx.r_tyL (by walk_at "hp") ?_)
  | refine L2.Rx.r_addS (by walk_at "len") ?_ | refine L2.Rx.r_lenS (by walk_at "len") ?_ | refine L2.Rx.r_slS (by walk_at "len") ?_
  | refine L2.Rx.r_dnotin ?_ | refine L2.Rx.r_dget ?_ | refine L2.Rx.r_dget1 ?_ | refine L2.Rx.r_dput ?_ | refine L2.Rx.r_dpop1 ?_ | refine L2.Rx.r_isN ?_
  | refine L2.Rx.r_for ?_ | refine L2.Rx.r_ilist ?_ | refine L2.Rx.r_itup ?_
  | refine L2.Rx.r_gcons ?_ | refine L2.Rx.r_gnil ?_ | (refine L2.Rx.r_gtupP (by assumption) (by walk_at "at") ?_)
  | (refine L2.Rx.r_rEq rfl ?_) | (refine L2.Rx.r_rNe rfl ?_)
  | refine L2.Rx.r_rU ?_ | refine L2.Rx.r_max2 ?_ | refine L2.Rx.r_min2 ?_ | refine L2.Rx.r_int1i ?_ | (refine L2.Rx.r_lenh (by walk_at "hp") ?_)
  | (refine L2.Rx.r_ixLh (by walk_at "hp") (by walk_at "at") ?_)
  | (refine L2.Rx.r_setL (by walk_at "hp") (by walk_at "at") ?_))
local macro_rules | `(tactic| walk_at "at") => `(tactic| with_unfolding_all rfl)
local macro_rules | `(tactic| walk_at "rd") => `(tactic| (repeat walk_at "rd1"))
local macro_rules | `(tactic| walk_at "hp") => `(tactic| first
  | assumption
  | exact L2.upd_same
  | (refine Eq.trans (L2.upd_ne ?_) ?_; (focus walk_at "ne"); (focus walk_at "hp"))
  | (refine L2.Rx.Kp.at0 (by assumption) ?_; walk_at "hp")
  | (refine L2.Rx.Kp.at1 (by assumption) ?_ ?_; (focus walk_at "ne"); (focus walk_at "hp")))
local macro_rules | `(tactic| walk_at "ne") => `(tactic| first
  | assumption | exact Ne.symm (by assumption)
  | (refine L2.ne_of_none (H := ?nH) (o := ?nO) ?nh ?nn; (case nn => assumption); (case nh => walk_at "hp"))
  | (refine Ne.symm (L2.ne_of_none (H := ?nH) (o := ?nO) ?nh ?nn); (case nn => assumption); (case nh => walk_at "hp")))
local macro_rules | `(tactic| walk_at "len") => `(tactic| (rw [PySem.sizeLine_eq]; omega))
local macro_rules | `(tactic| walk_at "nin") => `(tactic| first
  | exact List.not_mem_nil
  | (refine L2.Rx.nin1 ?_; walk_at "ne"))
local macro_rules | `(tactic| walk_at "none") => `(tactic| first
  | assumption
  | (refine L2.Rx.Kp.none0 (by assumption) ?_ ?_; (focus walk_at "nin"); (focus walk_at "none")))
namespace L2.Ro
open PySem PySem.Spec PyProof.Rows L2.Rx
def nTree : Nat → Nat
  | 0 => 0
  | n + 1 => 13 + 3 * nTree n
def sp_tree (K : PySem.W.Frag) (j : Nat) : Sp := fun vs H Q _ => ∃ (b l : Addr) (n : Nat) (k : Int) (cs : List Str), vs = [.ref b, .ref l, .int k] ∧ Box H b (n + nTree j) ∧ SqL K H l (cs.map V.str) ∧ l ≠ b ∧ Cells cs ∧ cs.length = j ∧ j ≤ 26 ∧ k ≤ 1000000000 ∧
  ∀ (H' : Hp) (v : V) (t : Tr), Kp [b] H H' → Box H' b n → Dq K H' v t.d → Okt j cs t → (tl t.d : Int) ≤ max 1 k → Q v H'
theorem r_divX {H : Hp} {Q : VK} {i j : Int} (h0 : 0 ≤ i) (h : 0 < j) (h1 : j < 1073741824) (q : ∀ r : Int, r = i / j → 0 ≤ r → r ≤ i → Q (.int r) H) : rI CDiv (fun i j => .int (i / j)) (.int i) (.int j) H Q :=
  ⟨i, j, rfl, rfl, ⟨h, h1⟩, q _ rfl (Int.ediv_nonneg h0 (by omega)) (Int.ediv_le_self _ h0)⟩
theorem brd_tl (bs : List (Int × Tr)) (v : Int) (t : Tr) : tls (brd (bs ++ [(v, t)])) = tls (brd bs) + tl t.d := by
  rw [brd_eq, brd_eq, List.map_append, tls_app]
  simp [tls, tl]
theorem brd_len (bs : List (Int × Tr)) : (brd bs).length = bs.length := by rw [brd_eq, List.length_map]
section
variable {P : Program} {w : World} {K : PySem.W.Frag} {mg : Str → Option Value} {base : Heap}
theorem k_tree1 {f : Addr} {fd : FuncData} (F : Fun K "_law_tree" "_law_tree" s_tree f fd) (g : mg "_law_tree" = some (.ref f)) (z : Zb mg) (n : Nat) (spx : Sp) (k_take : Kn P w K mg base CX0 1 "_law_take" sp_take) (k_values : Kn P w K mg base CX0 2 "_law_values" sp_values) (k_tree : Kn P w K mg base CX0 (n + 2) "_law_tree" spx) (hx : ∀ m, n = m + 1 → spx = sp_tree K m)  : FnG P w K mg base CX0 (n + 3) f fd ["_law_box_here", "_law_cells_here", "_law_budget"] (sp_tree K n) := by
  refine fnG_body F sc_tree (fun vs H Q E h => ?_) (fun cdv A outer s H vs Q E hr h => ?_)
  · obtain ⟨b, l, n, k, cs, rfl, _⟩ := h
    rfl
  · obtain ⟨b, l, m, k, cs, rfl, B, hl, lb, hc, hn, h26, hk, q⟩ := h
    refine ⟨_, PSs.nox (pss_cons (ps_if (PW.pt (pw_or (pt_cmpR (show OpR _ _ (rEqD K) from (op_eqD hr.units)) (pv 1) (pe_lst pa_nil) (nomark _)) (pw_or (pt_cmpR op_lt (pv 2) pe_int (nomark _)) (pw_or1 (pt_cmpR op_eq (k_take.call hr (by omega) (by rfl) (pa_cons (pv 0) (pa_cons pe_int pa_nil))) pe_int (nomark _))))))
        (pss_one (ps_ret (pe_tupF pa_nil)))
        pss_nil)
      (pss_cons (ps_set (i := 3) sc_tree.nd rfl (.inl rfl) (pe_callTy (show CallR _ _ (rListOf K) from c_list) (by rfl) z.n_list (by decide +kernel) (pa_cons (pv 1) pa_nil)))
      (pss_cons (ps_set (i := 4) sc_tree.nd rfl (.inl rfl) (show PE _ _ (tBM K _ _ _ _) from pe_bm PySem.F.plainAttrs_list PySem.F.slot_list_pop PySem.F.type_list_pop mt_popAt (pv 3) (pa_cons (k_take.call hr (by omega) (by rfl) (pa_cons (pv 0) (pa_cons (pe_callB (show CallR _ _ (rLenQ K) from c_len) (by rfl) z.n_len (by decide +kernel) (pa_cons (pv 3) pa_nil)) pa_nil))) pa_nil)))
      (pss_cons (ps_set (i := 5) sc_tree.nd rfl (.inl rfl) (pe_op op_add pe_int (k_take.call hr (by omega) (by rfl) (pa_cons (pv 0) (pa_cons (pe_callB (c_min2 rfl) (by rfl) z.n_min (by decide +kernel) (pa_cons pe_int (pa_cons (pv 2) pa_nil))) pa_nil)))))
      (pss_cons (ps_set (i := 6) sc_tree.nd rfl (.inl rfl) (pe_lst pa_nil))
      (pss_cons (ps_for PassesOwn.never rfl (show PI _ _ _ (iList K _) from pi_list (k_values.call hr (by omega) (by rfl) (pa_cons (pv 0) (pa_cons (pv 5) pa_nil)))) (pg_name (i := 7) sc_tree.nd rfl (.inl rfl))
        (pss_one (ps_expr (show PE _ _ (tBM K _ _ _ _) from pe_bm PySem.F.plainAttrs_list PySem.F.slot_list_append PySem.F.type_list_append mt_append (pv 6) (pa_cons (pe_tupF (pa_cons (pv 7) (pa_cons (k_tree.call hr (by omega) (by rfl) (pa_cons (pv 0) (pa_cons (pv 3) (pa_cons (pe_op op_fdiv (pv 2) (pv 5)) pa_nil)))) pa_nil))) pa_nil)))))
      (pss_one (ps_ret (pe_tupF (pa_cons (pv 4) (pa_cons (pe_callTy (show CallR _ _ (rTupOf K) from c_tuple) (by rfl) z.n_tuple (by decide +kernel) (pa_cons (pv 6) pa_nil)) pa_nil))))))))))), ?_⟩
    walk_at "rd"
    refine r_new rfl (fun e ne => ?_)
    refine gen_new ne fun H1 kp1 he => ?_
    have hl1 : SqL K H1 l (cs.map V.str) := kp_sqL kp1 (by simp) hl
    refine r_eqL0 (dpL_strs hl1) hc.shps (Nat.le_trans (depth_strs cs) (by decide)) he ?_
    walk_at "rd"
    have stop : ∀ (H2 : Hp), Kp [b] H H2 → Box H2 b m → ∀ (p : Addr) (H3 : Hp), H2 p = none → Kp [] H2 H3 → Tm H3 p [] → Q (.ref p) H3 := by
      intro H2 k2 B2 p H3 np k3 hp
      refine q _ _ .lf (k2.trans (Kp.to1 k3)) (B2.keep k3) ?_ (.lf _ _) ?_
      · rw [Tr.d]
        exact .tup hp .nil
      · rw [Tr.d, tl, tls]
        show (1 : Int) ≤ _
        omega
    refine r_itb (fun hb => ?_) (fun hb => ?_)
    · walk_at "rd"
      exact r_newT rfl (stop _ (Kp.to1 kp1) ((B.keep kp1).mono (by omega)))
    obtain ⟨n', rfl⟩ : ∃ n', n = n' + 1 := by
      cases n with
      | zero =>
        have : cs = [] := List.length_eq_zero_iff.mp hn
        rw [this] at hb
        cases hb
      | succ n' => exact ⟨n', rfl⟩
    obtain rfl := hx n' rfl
    have eN : nTree (n' + 1) = 13 + 3 * nTree n' := rfl
    rw [eN] at B
    walk_at "rd"
    refine r_ite (fun hk1 => ?_) (fun hk1 => ?_)
    · walk_at "rd"
      exact r_newT rfl (stop _ (Kp.to1 kp1) ((B.keep kp1).mono (by omega)))
    walk_at "rd"
    refine ⟨b, m + 12 + 3 * nTree n', _, rfl, (B.keep kp1).mono (by omega), by decide, by decide, fun H2 u kp2 B2 u0 u1 => ?_⟩
    walk_at "rd"
    refine r_ite (fun hu => ?_) (fun hu => ?_)
    · walk_at "rd"
      exact r_newT rfl (stop _ ((Kp.to1 kp1).trans kp2) (B2.mono (by omega)))
    walk_at "rd"
    have hl2 : SqL K H2 l (cs.map V.str) := kp1_sqL kp2 lb hl1
    refine r_listOf (.inl hl2) fun f nf => ?_
    refine gen_new nf fun H3 kp3 hf => ?_
    have fb : f ≠ b := by
      obtain ⟨_, hb⟩ := B2.lst
      exact Ne.symm (ne_of_none hb nf)
    walk_at "rd"
    have lcs : (cs.map V.str).length = n' + 1 := by rw [List.length_map, hn]
    refine ⟨b, m + 11 + 3 * nTree n', _, rfl, (B2.keep kp3).mono (by omega), by omega, by omega, fun H4 i kp4 B4 i0 i1 => ?_⟩
    have hf4 : H4 f = some (.lst (cs.map V.str)) := kp4.at1 fb hf
    obtain ⟨c, hci⟩ : ∃ c, cs[i.toNat]? = some c := ⟨_, List.getElem?_eq_getElem (by omega)⟩
    refine r_popAt hf4 i0 (by omega) (by rw [List.getElem?_map, hci]; rfl) ?_
    rw [eraseIdx_map']
    have hcs' : ∀ x ∈ cs.eraseIdx i.toNat, x ∈ cs := fun x hx => (List.eraseIdx_sublist _ _).subset hx
    have hcn : c ∉ cs.eraseIdx i.toNat := by
      intro z
      obtain ⟨j, hj, ne', e'⟩ := List.mem_eraseIdx_iff_getElem.mp z
      obtain ⟨hi, e2⟩ := List.getElem?_eq_some_iff.mp hci
      exact ne' ((List.getElem_inj hc.1).mp (e'.trans e2.symm))
    have hcl : (cs.eraseIdx i.toNat).length = n' := by rw [List.length_eraseIdx_of_lt (by omega), hn]; rfl
    have hcc : Cells (cs.eraseIdx i.toNat) := ⟨List.Pairwise.sublist (List.eraseIdx_sublist _ _) hc.1, fun x hx => hc.2 x (hcs' x hx)⟩
    have hcm : c ∈ cs := List.mem_of_getElem? hci
    generalize cs.eraseIdx i.toNat = cs' at hcs' hcn hcl hcc ⊢
    refine gen_put fun H5 kp5 hf5 => ?_
    have B5 : Box H5 b (m + 11 + 3 * nTree n') := B4.keepS kp5 (nin1 (Ne.symm fb))
    walk_at "rd"
    have b3 : 0 < min 3 k ∧ min 3 k ≤ 3 := by omega
    refine ⟨b, m + 10 + 3 * nTree n', _, rfl, B5.mono (by omega), b3.1, by omega, fun H6 r kp6 B6 r0 r1 => ?_⟩
    walk_at "rd"
    refine r_new rfl (fun g ng => ?_)
    refine gen_new ng fun H7 kp7 hg => ?_
    have hf6 : H6 f = some (.lst (cs'.map V.str)) := kp6.at1 fb hf5
    have gb : g ≠ b := by
      obtain ⟨_, hb⟩ := B6.lst
      exact Ne.symm (ne_of_none hb ng)
    have gf : g ≠ f := Ne.symm (ne_of_none hf6 ng)
    walk_at "rd"
    refine ⟨b, m + 3 * nTree n', _, rfl, (B6.keep kp7).mono (by omega), by omega, by omega, fun H8 p ms kp8 np8 B8 hp8 lms pms bms => ?_⟩
    have hf8 : H8 f = some (.lst (cs'.map V.str)) := kp8.at1 fb (kp7.at0 hf6)
    have hg8 : H8 g = some (.lst []) := kp8.at1 gb hg
    have pb : p ≠ b := by
      obtain ⟨_, hb⟩ := B6.lst
      have := kp7.at0 hb
      exact Ne.symm (ne_of_none this np8)
    have pg : p ≠ g := Ne.symm (ne_of_none hg np8)
    refine r_walkL (.inl (.inl hp8)) ?_
    have l3 : ms.length ≤ 3 := by omega
    refine for_list (K := K) (a := p) (xs := ms.map V.int) (fun i σ' H' => ∃ (x : Option V) (bs : List (Int × Tr)) (ys : List V), σ' = [some (.ref b), some (.ref l), some (.int k), some (.ref f), some (.str c), some (.int (1 + r)), some (.ref g), x] ∧ Kp [b, g] H8 H' ∧ H' g = some (.lst ys) ∧ DqAll K H' ys (brd bs) ∧ bs.map Prod.fst = ms.take i ∧ (∀ z ∈ bs, Okt n' cs' z.2) ∧ (tls (brd bs) : Int) ≤ (i : Int) * max 1 (k / (1 + r)) ∧ Box H' b (m + (ms.length - i) * nTree n')) ?_ (fun i σ' H' hi ⟨x, bs, ys, e1, k9, _⟩ => .inl (.inl (k9 _ _ (by simp [pb, pg]) hp8))) ?_ ?_
    · refine ⟨_, [], [], rfl, Kp.refl, hg8, ?_, rfl, (fun _ h => nomatch h), by rw [brd, tls]; simp, B8.mono ?_⟩
      · rw [brd]
        exact .nil
      · have : ms.length * nTree n' ≤ 3 * nTree n' := Nat.mul_le_mul_right _ l3
        rw [Nat.sub_zero]
        omega
    · rintro i xv σ' H9 hx ⟨x, bs, ys, rfl, kp9, hg9, dp9, ebs, ok9, tl9, B9⟩
      obtain ⟨v, hv, rfl⟩ : ∃ v, ms[i]? = some v ∧ xv = V.int v := by
        rw [List.getElem?_map] at hx
        cases e : ms[i]? with
        | none => rw [e] at hx; cases hx
        | some v => rw [e] at hx; exact ⟨v, rfl, (Option.some.inj hx).symm⟩
      have hi : i < ms.length := (List.getElem?_eq_some_iff.mp hv).1
      obtain ⟨d, hd⟩ : ∃ d, ms.length - i = d + 1 := ⟨ms.length - i - 1, by omega⟩
      have hd' : ms.length - (i + 1) = d := by omega
      rw [hd, Nat.succ_mul] at B9
      have hf9 : H9 f = some (.lst (cs'.map V.str)) := kp9 _ _ (by simp [fb, Ne.symm gf]) hf8
      walk_at "rd"
      refine r_divX (by omega) (by omega) (by omega) fun y ey y0 y1 => ?_
      walk_at "rd"
      refine ⟨b, f, m + d * nTree n', y, cs', rfl, B9.mono (by omega), .inl (.inl hf9), fb, hcc, hcl, by omega, by omega, fun H10 w t kp10 B10 dp10 ok10 tl10 => ?_⟩
      walk_at "rd"
      refine r_newF rfl fun a oa na oda => ?_
      refine gen_newT na oda fun H11 kp11 ha => ?_
      have hg11 : H11 g = some (.lst ys) := kp11.at0 (kp10.at1 gb hg9)
      have lys : ys.length < 1000000 := by
        rw [dqAll_len dp9, brd_len, ← List.length_map (f := Prod.fst), ebs, List.length_take]
        omega
      walk_at "rd"
      refine r_app0 hg11 lys ?_
      refine gen_put fun H12 kp12 hg12 => ?_
      have nls : noLs (brd bs) = true := by
        refine noLs_mem fun d hd => ?_
        rw [brd_eq] at hd
        obtain ⟨z, hz, rfl⟩ := List.mem_map.mp hd
        rw [noL, noLs, noLs, noLs, noL, (ok9 z hz).noL]
        rfl
      have dp12 : DqAll K H12 ys (brd bs) := DqAll.keepS kp12 (Mu.lst hg11) _ _ nls (DqAll.keep0 kp11 _ _ (DqAll.keepS kp10 B9.mu _ _ nls dp9))
      have dw12 : Dq K H12 w t.d := Dq.keepS kp12 (Mu.lst hg11) _ _ ok10.noL (Dq.keep0 kp11 _ _ dp10)
      have ha12 : Tm H12 a [.int v, w] := ha.keepM kp12 (Mu.lst hg11)
      refine ⟨_, bs ++ [(v, t)], _, rfl, ?_, hg12, ?_, ?_, ?_, ?_, ?_⟩
      · refine ((kp9.trans (kp10.mono (by simp))).trans (Kp.mono kp11 (by simp))).trans (kp12.mono (by simp))
      · rw [brd_eq, List.map_append, ← brd_eq]
        refine DqAll.append dp12 (.cons (.tup ha12 (.cons (.int v) (.cons dw12 .nil))) .nil)
      · rw [List.map_append, ebs, List.take_add_one, hv]
        rfl
      · intro z hz
        rcases List.mem_append.mp hz with h | h
        · exact ok9 z h
        · have e : z = (v, t) := by simpa using h
          subst e
          exact ok10
      · rw [brd_tl, ← ey]
        rw [← ey] at tl9
        have e1 : (((i + 1 : Nat) : Int)) * max 1 y = (i : Int) * max 1 y + max 1 y := by rw [show (((i + 1 : Nat) : Int)) = (i : Int) + 1 by omega, Int.add_mul, Int.one_mul]
        rw [e1]
        omega
      · rw [hd']
        exact (B10.keep kp11).keepS kp12 (nin1 (Ne.symm gb))
    · rintro σ' H9 ⟨x, bs, ys, rfl, kp9, hg9, dp9, ebs, ok9, tl9, B9⟩
      walk_at "rd"
      refine r_tupL hg9 fun a H10 na kp10 ha => ?_
      walk_at "rd"
      refine r_newF rfl fun e oe ne ode => ?_
      refine gen_newT ne ode fun H11 kp11 he => ?_
      rw [List.length_map, List.take_length] at ebs
      have kA : Kp [b] H H2 := (Kp.to1 kp1).trans kp2
      have hfn : H f = none := kA.none0 (nin1 fb) nf
      have kB : Kp [b] H H6 := (((kA.trans (Kp.to1 kp3)).trans kp4).dropT kp5 (fun a m => .inr (by rw [show a = f by simpa using m]; exact hfn))).trans kp6
      have hgn : H g = none := kB.none0 (nin1 gb) ng
      have kC : Kp [b] H H8 := (kB.trans (Kp.to1 kp7)).trans kp8
      have kD : Kp [b] H H9 := kC.dropT kp9 fun a m => by
        rcases List.mem_cons.mp m with h | h
        · exact .inl (by rw [h]; exact List.mem_cons_self ..)
        · exact .inr (by rw [show a = g by simpa using h]; exact hgn)
      have lbs : bs.length = ms.length := by rw [← List.length_map (f := Prod.fst), ebs]
      refine q H11 _ (.nd c bs) (kD.trans (Kp.to1 (kp10.trans kp11))) (((B9.keep kp10).keep kp11).mono (by omega)) ?_ ?_ ?_
      · rw [Tr.d]
        exact .tup he (.cons (.str c) (.cons (.tup (ha.keep0 kp11) (DqAll.keep0 (kp10.trans kp11) _ _ dp9)) .nil))
      · refine .nd hcm hcn hcs' ?_ (by omega) (by rw [ebs]; exact pms) ?_ ok9
        · intro z
          rw [z] at lbs
          simp at lbs
          omega
        · intro z hz
          exact bms _ (by rw [← ebs]; exact List.mem_map_of_mem hz)
      · rw [Tr.d, tl, tls, tls, tls, tl, tl]
        have ne : (brd bs).isEmpty = false := by
          rw [List.isEmpty_eq_false_iff, ← List.length_pos_iff, brd_len, lbs]
          omega
        rw [ne, List.length_map] at *
        have h1 : (1 + r) * (k / (1 + r)) ≤ k := Int.mul_ediv_self_le (by omega)
        have h2 : 1 ≤ k / (1 + r) := by
          have : (1 : Int) * (1 + r) ≤ k := by omega
          exact (Int.le_ediv_iff_mul_le (by omega)).mpr this
        have e3 : max 1 (k / (1 + r)) = k / (1 + r) := by omega
        rw [e3] at tl9
        have e4 : ((ms.length : Nat) : Int) = 1 + r := by omega
        rw [e4] at tl9
        simp
        omega
end
theorem fn_tree {P : Program} {w : World} {K : PySem.W.Frag} {mg : Str → Option Value} {base : Heap} {f : Addr} {fd : FuncData} (F : Fun K "_law_tree" "_law_tree" s_tree f fd) (g : mg "_law_tree" = some (.ref f)) (z : Zb mg)
    (k_take : Kn P w K mg base CX0 1 "_law_take" sp_take) (k_values : Kn P w K mg base CX0 2 "_law_values" sp_values) : ∀ n, FnG P w K mg base CX0 (n + 3) f fd ["_law_box_here", "_law_cells_here", "_law_budget"] (sp_tree K n)
  | 0 => k_tree1 F g z 0 (fun _ _ _ _ => False) k_take k_values ⟨f, fd, ["_law_box_here", "_law_cells_here", "_law_budget"], ⟨fun _ _ _ _ h => h.elim, fun _ _ _ _ _ _ _ _ _ _ _ _ _ h => h.elim⟩, g, F.kp, F.binds (fun _ _ _ _ _ _ us hl => match us, hl with | [_, _, _], _ => rfl)⟩ (fun m h => by omega)
  | n + 1 => k_tree1 F g z (n + 1) (sp_tree K n) k_take k_values ⟨f, fd, _, fn_tree F g z k_take k_values n, g, F.kp, F.binds (fun _ _ _ _ _ _ us hl => match us, hl with | [_, _, _], _ => rfl)⟩ (fun m h => by
    have : n = m := by omega
    rw [this])
def sp_treeA (K : PySem.W.Frag) : Sp := fun vs H Q E => ∃ j, j ≤ 9 ∧ sp_tree K j vs H Q E
theorem k_tree {P : Program} {w : World} {K : PySem.W.Frag} {mg : Str → Option Value} {base : Heap} {f : Addr} {fd : FuncData} (F : Fun K "_law_tree" "_law_tree" s_tree f fd) (g : mg "_law_tree" = some (.ref f)) (z : Zb mg)
    (k_take : Kn P w K mg base CX0 1 "_law_take" sp_take) (k_values : Kn P w K mg base CX0 2 "_law_values" sp_values) : Kn P w K mg base CX0 12 "_law_tree" (sp_treeA K) :=
  ⟨f, fd, ["_law_box_here", "_law_cells_here", "_law_budget"], ⟨fun vs H Q E ⟨j, hj, h⟩ => (fn_tree F g z k_take k_values j).len vs H Q E h,
    fun A outer s H args us vs Q E hr env b r ⟨j, hj, h⟩ => (fn_tree F g z k_take k_values j).run A outer s H args us vs Q E (hr.mono (by omega)) env b r h⟩, g, F.kp, F.binds (fun _ _ _ _ _ _ us hl => match us, hl with | [_, _, _], _ => rfl)⟩

end L2.Ro

end
section
set_option Elab.async false
set_option linter.all false
set_option maxRecDepth 100000
set_option maxHeartbeats 4000000
local macro_rules | `(tactic| walk_at "rd1") => `(tactic| with_reducible first
  | refine L2.Rx.r_seq ?_ | refine L2.Rx.r_asg ?_ | refine L2.Rx.r_gname ?_ | refine L2.Rx.r_op ?_ | refine L2.Rx.r_c ?_
  | refine L2.Rx.r_var rfl ?_
  | refine L2.Rx.r_rI0 ?_ | refine L2.Rx.r_test ?_ | refine L2.Rx.r_bl ?_ | refine L2.Rx.r_if ?_ | refine L2.Rx.r_ret ?_
  | refine L2.Rx.r_cons ?_ | refine L2.Rx.r_nil ?_ | refine L2.Rx.r_call ?_ | refine L2.Rx.r_cb ?_ | refine L2.Rx.r_next ?_ | refine L2.Rx.r_drop ?_
  | refine L2.Rx.r_gsub ?_ | refine L2.Rx.r_tupF ?_ | refine L2.Rx.r_lst ?_ | refine L2.Rx.r_par ?_ | refine L2.Rx.r_par2 ?_
  | refine L2.Rx.r_un ?_ | refine L2.Rx.r_tb ?_ | refine L2.Rx.r_and ?_ | refine L2.Rx.r_or ?_ | refine L2.Rx.r_not ?_
  | refine L2.Rx.r_andV ?_ | refine L2.Rx.r_orV ?_ | refine L2.Rx.r_notV ?_ | refine L2.Rx.r_ifx ?_ | refine L2.Rx.r_chain ?_
  | refine L2.Rx.r_sl ?_ | refine L2.Rx.r_nopart ?_ | refine L2.Rx.r_part ?_ | refine L2.Rx.r_exint ?_ | refine L2.Rx.r_bm0 ?_ | refine L2.Rx.r_bm ?_
  | refine L2.Rx.r_lc ?_ | refine L2.Rx.r_rng1 ?_ | refine L2.Rx.r_yes ?_ | refine L2.Rx.r_tt ?_ | refine L2.Rx.r_ff ?_ | refine L2.Rx.r_m1 ?_ | refine L2.Rx.r_m0 ?_ | refine L2.Rx.r_isS ?_
  | (refine L2.Rx.r_wipe (by with_unfolding_all rfl) ?_) | (refine L2.Rx.r_tyL (by walk_at "hp") ?_)
  | refine L2.Rx.r_addS (by walk_at "len") ?_ | refine L2.Rx.r_lenS (by walk_at "len") ?_ | refine L2.Rx.r_slS (by walk_at "len") ?_
  | refine L2.Rx.r_dnotin ?_ | refine L2.Rx.r_dget ?_ | refine L2.Rx.r_dget1 ?_ | refine L2.Rx.r_dput ?_ | refine L2.Rx.r_dpop1 ?_ | refine L2.Rx.r_isN ?_
  | refine L2.Rx.r_for ?_ | refine L2.Rx.r_ilist ?_ | refine L2.Rx.r_itup ?_
  | refine L2.Rx.r_gcons ?_ | refine L2.Rx.r_gnil ?_ | (refine L2.Rx.r_gtupP (by assumption) (by walk_at "at") ?_)
  | (refine L2.Rx.r_rEq rfl ?_) | (refine L2.Rx.r_rNe rfl ?_)
  | refine L2.Rx.r_rU ?_ | refine L2.Rx.r_max2 ?_ | refine L2.Rx.r_min2 ?_ | refine L2.Rx.r_int1i ?_ | (refine L2.Rx.r_lenh (by walk_at "hp") ?_)
  | (refine L2.Rx.r_ixLh (by walk_at "hp") (by walk_at "at") ?_)
  | (refine L2.Rx.r_setL (by walk_at "hp") (by walk_at "at") ?_))
local macro_rules | `(tactic| walk_at "at") => `(tactic| with_unfolding_all rfl)
local macro_rules | `(tactic| walk_at "rd") => `(tactic| (repeat walk_at "rd1"))
local macro_rules | `(tactic| walk_at "hp") => `(tactic| first
  | assumption
  | exact L2.upd_same
  | (refine Eq.trans (L2.upd_ne ?_) ?_; (focus walk_at "ne"); (focus walk_at "hp"))
  | (refine L2.Rx.Kp.at0 (by assumption) ?_; walk_at "hp")
  | (refine L2.Rx.Kp.at1 (by assumption) ?_ ?_; (focus walk_at "ne"); (focus walk_at "hp")))
local macro_rules | `(tactic| walk_at "ne") => `(tactic| first
  | assumption | exact Ne.symm (by assumption)
  | (refine L2.ne_of_none (H := ?nH) (o := ?nO) ?nh ?nn; (case nn => assumption); (case nh => walk_at "hp"))
  | (refine Ne.symm (L2.ne_of_none (H := ?nH) (o := ?nO) ?nh ?nn); (case nn => assumption); (case nh => walk_at "hp")))
local macro_rules | `(tactic| walk_at "len") => `(tactic| (rw [PySem.sizeLine_eq]; omega))
local macro_rules | `(tactic| walk_at "nin") => `(tactic| first
  | exact List.not_mem_nil
  | (refine L2.Rx.nin1 ?_; walk_at "ne"))
local macro_rules | `(tactic| walk_at "none") => `(tactic| first
  | assumption
  | (refine L2.Rx.Kp.none0 (by assumption) ?_ ?_; (focus walk_at "nin"); (focus walk_at "none")))
namespace L2.Ro
open PySem PySem.Spec PyProof.Rows L2.Rx
local macro_rules | `(tactic| walk_at "rdB") => `(tactic| (repeat (first | walk_at "rd1" | with_reducible refine L2.Rx.r_lstB ?_ | with_reducible refine L2.Rx.r_revT ?_)))
/-! ### how great: ints up to m, texts up to 20 signs -/
mutual
def gm (m : Nat) : PyData → Bool
  | .none => true
  | .bool _ => true
  | .int i => decide (i.natAbs ≤ m)
  | .str x => PyData.strOk x && decide (x.length ≤ 20)
  | .list ds => gms m ds
  | .tuple ds => gms m ds
  | .dict kvs => kvs.isEmpty
def gms (m : Nat) : List PyData → Bool
  | [] => true
  | d :: ds => gm m d && gms m ds
end
mutual
theorem gm_gd {m : Nat} (hm : m < 10 ^ 12) : ∀ d : PyData, gm m d = true → gd d = true
  | .none, _ => by rw [gd]
  | .bool _, _ => by rw [gd]
  | .int i, h => by
    rw [gm] at h
    rw [gd]
    have := of_decide_eq_true h
    exact decide_eq_true (by omega)
  | .str x, h => by
    rw [gm, Bool.and_eq_true] at h
    rw [gd, Bool.and_eq_true]
    have := of_decide_eq_true h.2
    exact ⟨h.1, decide_eq_true (by omega)⟩
  | .list ds, h => by
    rw [gm] at h
    rw [gd]
    exact gms_gds hm ds h
  | .tuple ds, h => by
    rw [gm] at h
    rw [gd]
    exact gms_gds hm ds h
  | .dict kvs, h => by
    rw [gm] at h
    rw [gd]
    exact h
theorem gms_gds {m : Nat} (hm : m < 10 ^ 12) : ∀ ds : List PyData, gms m ds = true → gds ds = true
  | [], _ => by rw [gds]
  | d :: ds, h => by
    rw [gms, Bool.and_eq_true] at h
    rw [gds, gm_gd hm d h.1, gms_gds hm ds h.2]
    rfl
end
mutual
theorem gm_mono {m n : Nat} (hm : m ≤ n) : ∀ d : PyData, gm m d = true → gm n d = true
  | .none, _ => by rw [gm]
  | .bool _, _ => by rw [gm]
  | .int i, h => by
    rw [gm] at h ⊢
    have := of_decide_eq_true h
    exact decide_eq_true (by omega)
  | .str x, h => by
    rw [gm] at h ⊢
    exact h
  | .list ds, h => by
    rw [gm] at h ⊢
    exact gms_mono hm ds h
  | .tuple ds, h => by
    rw [gm] at h ⊢
    exact gms_mono hm ds h
  | .dict kvs, h => by
    rw [gm] at h ⊢
    exact h
theorem gms_mono {m n : Nat} (hm : m ≤ n) : ∀ ds : List PyData, gms m ds = true → gms n ds = true
  | [], _ => by rw [gms]
  | d :: ds, h => by
    rw [gms, Bool.and_eq_true] at h
    rw [gms, gm_mono hm d h.1, gms_mono hm ds h.2]
    rfl
end
theorem gms_mem {m : Nat} {ds : List PyData} : gms m ds = true ↔ ∀ d ∈ ds, gm m d = true := by
  induction ds with
  | nil => simp [gms]
  | cons d ds ih => simp [gms, ih]
theorem gms_app {m : Nat} (a b : List PyData) : gms m (a ++ b) = (gms m a && gms m b) := by
  induction a with
  | nil => simp [gms]
  | cons d ds ih => simp [gms, ih, Bool.and_assoc]
structure Bm (m t dp w : Nat) (d : PyData) : Prop where
  g : gm m d = true
  t : tl d ≤ t
  dp : d.depth ≤ dp
  w : wt d ≤ w
theorem gms_sub {m : Nat} {a b : List PyData} (h : ∀ d ∈ a, d ∈ b) (g : gms m b = true) : gms m a = true := gms_mem.mpr fun d hd => gms_mem.mp g d (h d hd)
theorem depthAll_le {ds : List PyData} {n : Nat} (h : ∀ d ∈ ds, d.depth ≤ n) : PyData.depthAll ds ≤ n := by
  induction ds with
  | nil => exact Nat.zero_le _
  | cons d ds ih =>
    rw [PyData.depthAll]
    have := h d (List.mem_cons_self ..)
    have := ih fun e he => h e (List.mem_cons_of_mem _ he)
    omega
theorem depthAll_sub {a b : List PyData} (h : ∀ d ∈ a, d ∈ b) : PyData.depthAll a ≤ PyData.depthAll b := depthAll_le fun d hd => depth_le_all (h d hd)
theorem tls_take (ds : List PyData) (n : Nat) : tls (ds.take n) + tls (ds.drop n) = tls ds := by rw [← tls_app, List.take_append_drop]
theorem wts_take (ds : List PyData) (n : Nat) : wts (ds.take n) + wts (ds.drop n) = wts ds := by rw [← wts_app, List.take_append_drop]
theorem tls_rev (ds : List PyData) : tls ds.reverse = tls ds := by
  induction ds with
  | nil => rfl
  | cons d ds ih => rw [List.reverse_cons, tls_app, ih, tls, tls, tls]; omega
theorem wts_rev (ds : List PyData) : wts ds.reverse = wts ds := by
  induction ds with
  | nil => rfl
  | cons d ds ih => rw [List.reverse_cons, wts_app, ih, wts, wts, wts]; omega
theorem wts_len (ds : List PyData) : ds.length ≤ wts ds := by
  induction ds with
  | nil => exact Nat.zero_le _
  | cons d ds ih => rw [List.length_cons, wts]; omega
theorem tl_tup (ds : List PyData) : tl (.tuple ds) ≤ tls ds + 1 := by
  rw [tl]
  split <;> omega
theorem tl_ge (ds : List PyData) : tls ds ≤ tl (.tuple ds) := by
  rw [tl]
  omega
theorem wt_tup (ds : List PyData) : wt (.tuple ds) = wts ds + 8 := by rw [wt]
theorem bm_tup {m t dp w : Nat} {ds : List PyData} (g : gms m ds = true) (t0 : tls ds + 1 ≤ t) (d0 : PyData.depthAll ds + 1 ≤ dp) (w0 : wts ds + 8 ≤ w) : Bm m t dp w (.tuple ds) :=
  ⟨by rw [gm]; exact g, Nat.le_trans (tl_tup ds) t0, by rw [PyData.depth]; exact d0, by rw [wt]; exact w0⟩
theorem bm_lst {m t dp w : Nat} {ds : List PyData} (g : gms m ds = true) (d0 : PyData.depthAll ds + 1 ≤ dp) (w0 : wts ds + 8 ≤ w) : Bm m t dp w (.list ds) :=
  ⟨by rw [gm]; exact g, by rw [tl]; omega, by rw [PyData.depth]; exact d0, by rw [wt]; exact w0⟩
theorem strOk_of (s : String) : PyData.strOk (Str.ofString s) = true := by
  rw [PyData.strOk, ← Array.all_toList, List.all_eq_true, Str.ofString_eq_toList]
  intro c hc
  obtain ⟨x, _, rfl⟩ := List.mem_map.mp (show c ∈ s.toList.map Char.toNat by simpa using hc)
  refine decide_eq_true ?_
  have := x.valid
  rcases this with h | ⟨_, h⟩
  · show x.val.toNat < _
    have : x.val.toNat < 0xd800 := h
    omega
  · exact h
theorem bm_str {m t dp w : Nat} {x : Str} (a : PyData.strOk x = true) (b : x.length ≤ 20) (c : 208 ≤ w) : Bm m t dp w (.str x) :=
  ⟨by rw [gm, a, decide_eq_true b]; rfl, by rw [tl]; exact Nat.zero_le _, by rw [PyData.depth]; exact Nat.zero_le _, by rw [wt]; omega⟩
theorem bm_int {m t dp w : Nat} {i : Int} (a : i.natAbs ≤ m) (c : 24 ≤ w) : Bm m t dp w (.int i) :=
  ⟨by rw [gm]; exact decide_eq_true a, by rw [tl]; exact Nat.zero_le _, by rw [PyData.depth]; exact Nat.zero_le _, by rw [wt]; omega⟩
theorem cell_gm {m : Nat} {c : Str} (h : Cell c) : gm m (.str c) = true ∧ wt (.str c) ≤ 88 := by
  obtain ⟨a, b, e⟩ := h
  refine ⟨?_, by rw [wt]; omega⟩
  rw [gm, decide_eq_true (show c.length ≤ 20 by omega), Bool.and_true, PyData.strOk, ← Array.all_toList, List.all_eq_true]
  intro x hx
  have := e x hx
  exact decide_eq_true (by omega)
theorem dgAll_mem {H : Hp} {S : List Addr} : ∀ {ds : List PyData} {xs : List V} {v : V}, DgAll H S xs ds → v ∈ xs → ∃ d ∈ ds, Dg H S v d
  | [], xs, v, h, m => by rw [dg_nil h] at m; cases m
  | d :: ds, xs, v, h, m => by
    obtain ⟨w, ws, rfl, a, b⟩ := dg_cons h
    rcases List.mem_cons.mp m with e | e
    · exact ⟨d, List.mem_cons_self .., by rw [e]; exact a⟩
    · obtain ⟨d', m', r⟩ := dgAll_mem b e
      exact ⟨d', List.mem_cons_of_mem _ m', r⟩
/-- the items are all of that size -/
def BmAll (m t dp w : Nat) (ds : List PyData) : Prop := ∀ d ∈ ds, Bm m t dp w d
theorem bma_nil {m t dp w : Nat} : BmAll m t dp w [] := fun _ h => nomatch h
theorem bma_cons {m t dp w : Nat} {d : PyData} {ds : List PyData} (h : Bm m t dp w d) (g : BmAll m t dp w ds) : BmAll m t dp w (d :: ds) := fun e he => by
  rcases List.mem_cons.mp he with q | q
  · rw [q]; exact h
  · exact g e q
theorem bma_app {m t dp w : Nat} {ds es : List PyData} (h : BmAll m t dp w ds) (g : BmAll m t dp w es) : BmAll m t dp w (ds ++ es) := fun e he => (List.mem_append.mp he).elim (h e) (g e)
def fst1 (n0 : Str) : List PyData := [.none, .bool true, .bool false, .int (-1), .int 0, .int 1, .int 1000000001, .str "", .str "Z", .str "abcdefghi", .tuple [], .list [], .dict [], .tuple [.tuple []], .tuple [.str n0, .tuple []]]
def fst2 (n0 nl : Str) : List PyData := [.str n0, .str nl, .tuple [.str n0, .tuple [.tuple [.int 1, .tuple []]]], .tuple [.str nl, .tuple [.tuple [.int 0, .tuple []], .tuple [.int 0, .tuple []]]]]
theorem fst1_bm {m t dp w : Nat} {n0 : Str} (h : Cell n0) (hm : 1000000001 ≤ m) (ht : 3 ≤ t) (hd : 5 ≤ dp) (hw : 300 ≤ w) : BmAll m t dp w (fst1 n0) := by
  obtain ⟨a, b⟩ := cell_gm (m := m) h
  have k : Bm m t dp w .none := ⟨by rw [gm], by rw [tl]; omega, by rw [PyData.depth]; omega, by rw [wt]; omega⟩
  have kb : ∀ x, Bm m t dp w (.bool x) := fun x => ⟨by rw [gm], by rw [tl]; omega, by rw [PyData.depth]; omega, by rw [wt]; omega⟩
  have ks : ∀ x : Str, PyData.strOk x = true → x.length ≤ 20 → Bm m t dp w (.str x) := fun x p q => bm_str p q (by omega)
  have ki : ∀ i : Int, i.natAbs ≤ 1000000001 → Bm m t dp w (.int i) := fun i p => bm_int (Nat.le_trans p hm) (by omega)
  refine bma_cons k (bma_cons (kb _) (bma_cons (kb _) (bma_cons (ki _ (by decide)) (bma_cons (ki _ (by decide)) (bma_cons (ki _ (by decide)) (bma_cons (ki _ (by decide)) (bma_cons (ks _ (by decide +kernel) (by decide +kernel)) (bma_cons (ks _ (by decide +kernel) (by decide +kernel)) (bma_cons (ks _ (by decide +kernel) (by decide +kernel)) ?_)))))))))
  refine bma_cons (bm_tup (by rw [gms]) (by rw [tls]; omega) (by rw [PyData.depthAll]; omega) (by rw [wts]; omega)) ?_
  refine bma_cons (bm_lst (by rw [gms]) (by rw [PyData.depthAll]; omega) (by rw [wts]; omega)) ?_
  refine bma_cons ⟨by rw [gm]; rfl, by rw [tl]; omega, by rw [PyData.depth, PyData.depthKv]; omega, by rw [wt]; omega⟩ ?_
  refine bma_cons (bm_tup (by simp [gms, gm]) (by simp [tls, tl]; omega) (by simp [PyData.depthAll, PyData.depth]; omega) (by simp [wts, wt]; omega)) ?_
  refine bma_cons (bm_tup (by simp [gms, gm, a]; simpa [gm] using a) (by simp [tls, tl]; omega) (by simp [PyData.depthAll, PyData.depth]; omega) (by simp [wts, wt] at b ⊢; omega)) bma_nil
theorem fst2_bm {m t dp w : Nat} {n0 nl : Str} (h : Cell n0) (g : Cell nl) (hm : 1000000001 ≤ m) (ht : 3 ≤ t) (hd : 5 ≤ dp) (hw : 300 ≤ w) : BmAll m t dp w (fst2 n0 nl) := by
  obtain ⟨a, b⟩ := cell_gm (m := m) h
  obtain ⟨a', b'⟩ := cell_gm (m := m) g
  have ks : ∀ c : Str, gm m (.str c) = true → wt (.str c) ≤ 88 → Bm m t dp w (.str c) := fun c p q => ⟨p, by rw [tl]; omega, by rw [PyData.depth]; omega, by omega⟩
  refine bma_cons (ks _ a b) (bma_cons (ks _ a' b') ?_)
  rw [gm] at a a'
  refine bma_cons (bm_tup (by simp [gms, gm]; simpa [gm] using And.intro a (by omega)) (by simp [tls, tl]; omega) (by simp [PyData.depthAll, PyData.depth]; omega) (by simp [wts, wt] at b ⊢; omega)) ?_
  refine bma_cons (bm_tup (by simp [gms, gm]; simpa [gm] using a') (by simp [tls, tl]; omega) (by simp [PyData.depthAll, PyData.depth]; omega) (by simp [wts, wt] at b' ⊢; omega)) bma_nil
/-- one of the odd ones, or a change of it -/
def sp_odd (K : PySem.W.Frag) : Sp := fun vs H Q _ => ∃ (b l : Addr) (n m t dp w : Nat) (v : V) (d : PyData) (cs : List Str) (S : List Addr), vs = [.ref b, v, .ref l] ∧ Box H b (n + 1) ∧ b ∈ S ∧ Mu H S ∧ H l = some (.lst (cs.map V.str)) ∧ Cells cs ∧ 0 < cs.length ∧ cs.length ≤ 26 ∧
  Dg H S v d ∧ Bm m t dp w d ∧ 1000000001 ≤ m ∧ m ≤ 1000000100 ∧ w ≤ 400000 ∧ ∀ (H' : Hp) (v' : V) (d' : PyData), Kp [b] H H' → Box H' b n → Dg H' S v' d' → Bm (m + 1) (2 * t + 3) (dp + 5) (2 * w + 300) d' → Q v' H'
section
variable {P : Program} {w : World} {K : PySem.W.Frag} {mg : Str → Option Value} {base : Heap}
theorem k_odd {f : Addr} {fd : FuncData} (F : Fun K "_law_odd" "_law_odd" s_odd f fd) (g : mg "_law_odd" = some (.ref f)) (z : Zb mg) (k_of : Kn P w K mg base CX0 2 "_law_of" (sp_of K))  : Kn P w K mg base CX0 3 "_law_odd" (sp_odd K) := by
  refine ⟨f, fd, ["_law_box_here", "_law_item", "_law_names"], fnG_body F sc_odd (fun vs H Q E h => ?_) (fun cdv A outer s H vs Q E hr h => ?_), g, F.kp, F.binds (fun _ _ _ _ _ _ us hl => match us, hl with | [_, _, _], _ => rfl)⟩
  · obtain ⟨b, l, n, m, t, dp, w0, v, d, cs, S, rfl, _⟩ := h
    rfl
  · obtain ⟨b, l, n, m, t, dp, w0, v, d, cs, S, rfl, B, bS, mS, hl, Cs, c0, c1, hd, hb, hm, hm2, hw, q⟩ := h
    refine ⟨_, PSs.nox (pss_cons (ps_set (i := 3) sc_odd.nd rfl (.inl rfl) (pe_lstB (pa_cons pe_non (pa_cons pe_bl (pa_cons pe_bl (pa_cons (pe_un un_neg pe_int) (pa_cons pe_int (pa_cons pe_int (pa_cons (pe_op op_add (pe_op op_pow pe_int pe_int) pe_int) (pa_cons pe_str (pa_cons pe_str (pa_cons pe_str (pa_cons (pe_tupF pa_nil) (pa_cons (pe_lstB pa_nil) (pa_cons pe_dnewK (pa_cons (pe_tupF (pa_cons (pe_tupF pa_nil) pa_nil)) (pa_cons (pe_tupF (pa_cons (pe_ix (show IxR _ (rIxL K) from ix_list) (pv 2) pe_int (fun _ _ => rfl)) (pa_cons (pe_tupF pa_nil) pa_nil))) pa_nil)))))))))))))))))
      (pss_cons (ps_expr (show PE _ _ (tBM K _ _ _ _) from pe_bm PySem.F.plainAttrs_list PySem.F.slot_list_extend PySem.F.type_list_extend mt_extend (pv 3) (pa_cons (pe_lstB (pa_cons (pe_ix (show IxR _ (rIxL K) from ix_list) (pv 2) pe_int (fun _ _ => rfl)) (pa_cons (pe_ix (show IxR _ (rIxL K) from ix_list) (pv 2) (pe_un un_neg pe_int) (fun _ _ => rfl)) (pa_cons (pe_tupF (pa_cons (pe_ix (show IxR _ (rIxL K) from ix_list) (pv 2) pe_int (fun _ _ => rfl)) (pa_cons (pe_tupF (pa_cons (pe_tupF (pa_cons pe_int (pa_cons (pe_tupF pa_nil) pa_nil))) pa_nil)) pa_nil))) (pa_cons (pe_tupF (pa_cons (pe_ix (show IxR _ (rIxL K) from ix_list) (pv 2) (pe_un un_neg pe_int) (fun _ _ => rfl)) (pa_cons (pe_tupF (pa_cons (pe_tupF (pa_cons pe_int (pa_cons (pe_tupF pa_nil) pa_nil))) (pa_cons (pe_tupF (pa_cons pe_int (pa_cons (pe_tupF pa_nil) pa_nil))) pa_nil))) pa_nil))) pa_nil))))) pa_nil)))
      (pss_cons (ps_if (pt_val (pe_callB (show CallR _ _ (rIsi K) from call_isi) (by rfl) z.n_isinstance (by decide +kernel) (pa_cons (pv 1) (pa_cons (pe_bltn (v := .ty "tuple") (by rfl) z.n_tuple (by decide +kernel) rfl) pa_nil))))
        (pss_one (ps_set (i := 3) sc_odd.nd rfl (.inl rfl) (pe_op op_cat (pv 3) (pe_lstB (pa_cons (pe_callTy (show CallR _ _ (rListOfB K) from c_listB) (by rfl) z.n_list (by decide +kernel) (pa_cons (pv 1) pa_nil)) (pa_cons (pe_slice (show SlR _ (rSlA K) from sl_tupA) (pv 1) po_none (po_some (pe_un un_neg pe_int))) (pa_cons (pe_op (show OpR _ _ (rCatF K) from op_catF) (pv 1) (pe_slice (show SlR _ (rSlA K) from sl_tupA) (pv 1) (po_some (pe_un un_neg pe_int)) po_none)) (pa_cons (show PE _ _ (tRevT K _) from pe_revT (pv 1)) (pa_cons (pe_tupF (pa_cons (pv 1) pa_nil)) pa_nil)))))))))
        (pss_one (ps_if (pt_val (pe_callB (show CallR _ _ (rIsi K) from call_isi) (by rfl) z.n_isinstance (by decide +kernel) (pa_cons (pv 1) (pa_cons (pe_bltn (v := .ty "int") (by rfl) z.n_int (by decide +kernel) rfl) pa_nil))))
          (pss_one (ps_set (i := 3) sc_odd.nd rfl (.inl rfl) (pe_op op_cat (pv 3) (pe_lstB (pa_cons (pe_op (show OpR _ _ rAddIB from op_addIB) (pv 1) pe_int) (pa_cons (pe_op (show OpR _ _ rSubIB from op_subIB) (pv 1) pe_int) (pa_cons (pe_callTy (show CallR _ _ rStrIB from call_strIB) (by rfl) z.n_str (by decide +kernel) (pa_cons (pv 1) pa_nil)) pa_nil)))))))
          pss_nil)))
      (pss_one (ps_ret (k_of.call hr (by decide) (by rfl) (pa_cons (pv 0) (pa_cons (pv 3) pa_nil)))))))), ?_⟩
    obtain ⟨n0, hn0⟩ : ∃ c, cs[0]? = some c := ⟨_, List.getElem?_eq_getElem c0⟩
    obtain ⟨nl, hnl⟩ : ∃ c, cs[cs.length - 1]? = some c := ⟨_, List.getElem?_eq_getElem (by omega)⟩
    have C0 : Cell n0 := Cs.2 _ (List.mem_of_getElem? hn0)
    have Cl : Cell nl := Cs.2 _ (List.mem_of_getElem? hnl)
    have at0 : atI (cs.map V.str) 0 = some (V.str n0) := by
      refine atI_nat (j := 0) ?_
      rw [List.getElem?_map, hn0]
      rfl
    have atl : atI (cs.map V.str) (-1) = some (V.str nl) := by
      have e : ixN (cs.map V.str).length (-1) = some (cs.length - 1) := by
        unfold ixN
        rw [List.length_map, if_neg (by decide), if_pos (by omega)]
        congr 1
        omega
      unfold atI
      rw [e]
      show (cs.map V.str)[cs.length - 1]? = _
      rw [List.getElem?_map, hnl]
      rfl
    obtain ⟨bx, hbx⟩ := B.lst
    walk_at "rdB"
    refine r_powx (v := 1000000000) (by decide +kernel) (by decide +kernel) ?_
    walk_at "rdB"
    refine r_newF rfl fun e1 oe1 ne1 de1 => ?_
    refine gen_newT ne1 de1 fun H1 kp1 he1 => ?_
    walk_at "rdB"
    refine r_newB rfl fun p2 np2 zp2 => ?_
    refine gen_new np2 fun H2 kp2 hp2 => ?_
    walk_at "rdB"
    refine r_dnew fun p3 np3 => ?_
    refine gen_new np3 fun H3 kp3 hp3 => ?_
    walk_at "rdB"
    refine r_newF rfl fun e4 oe4 ne4 de4 => ?_
    refine gen_newT ne4 de4 fun H4 kp4 he4 => ?_
    walk_at "rdB"
    refine r_newF rfl fun e5 oe5 ne5 de5 => ?_
    refine gen_newT ne5 de5 fun H5 kp5 he5 => ?_
    walk_at "rdB"
    refine r_ixL (.inl (.inl ((((((kp1).trans kp2).trans kp3).trans kp4).trans kp5).at0 hl))) at0 ?_
    walk_at "rdB"
    refine r_newF rfl fun e6 oe6 ne6 de6 => ?_
    refine gen_newT ne6 de6 fun H6 kp6 he6 => ?_
    walk_at "rdB"
    refine r_newF rfl fun e7 oe7 ne7 de7 => ?_
    refine gen_newT ne7 de7 fun H7 kp7 he7 => ?_
    walk_at "rdB"
    have kA : Kp [] H H7 := ((((((kp1).trans kp2).trans kp3).trans kp4).trans kp5).trans kp6).trans kp7
    have outS : ∀ {H' : Hp} {a : Addr}, Kp [] H H' → H' a = none → a ∉ S := fun {H' a} k e z => by
      have := mS a z
      rw [Kp.none0 k (by simp) e] at this
      exact this
    have D1 : Dg H7 S (.ref e1) (.tuple []) := .tup (he1.keep0 ((((((kp2).trans kp3).trans kp4).trans kp5).trans kp6).trans kp7)).rd .nil
    have D2 : Dg H7 S (.ref p2) (.list []) := .lst ((((((kp3).trans kp4).trans kp5).trans kp6).trans kp7).at0 hp2) (outS (kp1) np2) zp2 .nil
    have D3 : Dg H7 S (.ref p3) (.dict []) := .d0 (((((kp4).trans kp5).trans kp6).trans kp7).at0 hp3) (outS ((kp1).trans kp2) np3)
    have D5 : Dg H7 S (.ref e5) (.tuple [.tuple []]) := .tup (he5.keep0 ((kp6).trans kp7)).rd (.cons (.tup (he4.keep0 (((kp5).trans kp6).trans kp7)).rd .nil) .nil)
    have D7 : Dg H7 S (.ref e7) (.tuple [.str n0, .tuple []]) := .tup he7.rd (.cons (.str n0) (.cons (.tup (he6.keep0 (kp7)).rd .nil) .nil))
    have DA : DgAll H7 S [.non, .bl true, .bl false, .int (-1), .int 0, .int 1, .int (1000000000 + 1), .str "", .str "Z", .str "abcdefghi", .ref e1, .ref p2, .ref p3, .ref e5, .ref e7] (fst1 n0) :=
      .cons .non (.cons (.bl _) (.cons (.bl _) (.cons (.int _) (.cons (.int _) (.cons (.int _) (.cons (.int _) (.cons (.str _) (.cons (.str _) (.cons (.str _) (.cons D1 (.cons D2 (.cons D3 (.cons D5 (.cons D7 .nil))))))))))))))
    have hdN := hd.keep0 kA
    clear D1 D2 D3 D5 D7 hp2 hp3 he1 he4 he5 he6 he7 zp2
    refine r_newB rfl fun p0 np0 zp0 => ?_
    have S1 : ∀ a ∈ p0 :: S, a ∈ S ∨ H7 a = none := fun a h => (List.mem_cons.mp h).elim (fun e => .inr (by rw [e]; exact np0)) .inl
    replace DA := DA.sub S1
    replace hdN := hdN.sub S1
    have p0b : p0 ≠ b := Ne.symm (ne_of_none (kA.at0 hbx) np0)
    have p0l : p0 ≠ l := Ne.symm (ne_of_none (kA.at0 hl) np0)
    have p0S : p0 ∉ S := outS kA np0
    clear S1
    generalize eF : fst1 n0 = F1 at DA
    generalize eX : ([.non, .bl true, .bl false, .int (-1), .int 0, .int 1, .int (1000000000 + 1), .str "", .str "Z", .str "abcdefghi", .ref e1, .ref p2, .ref p3, .ref e5, .ref e7] : List V) = X1 at DA ⊢
    refine gen_new np0 fun G0 g0 hp0 => ?_
    have kB : Kp [] H G0 := kA.trans g0
    replace DA := DA.keep0 g0
    replace hdN := hdN.keep0 g0
    have hlG := kB.at0 hl
    walk_at "rdB"
    refine r_ixL (.inl (.inl (hlG))) at0 ?_
    walk_at "rdB"
    refine r_ixL (.inl (.inl (hlG))) atl ?_
    walk_at "rdB"
    refine r_ixL (.inl (.inl (hlG))) at0 ?_
    walk_at "rdB"
    refine r_newF rfl fun a1 oa1 na1 da1 => ?_
    refine gen_newT na1 da1 fun J1 kj1 ha1 => ?_
    walk_at "rdB"
    refine r_newF rfl fun a2 oa2 na2 da2 => ?_
    refine gen_newT na2 da2 fun J2 kj2 ha2 => ?_
    walk_at "rdB"
    refine r_newF rfl fun a3 oa3 na3 da3 => ?_
    refine gen_newT na3 da3 fun J3 kj3 ha3 => ?_
    walk_at "rdB"
    refine r_newF rfl fun a4 oa4 na4 da4 => ?_
    refine gen_newT na4 da4 fun J4 kj4 ha4 => ?_
    walk_at "rdB"
    refine r_ixL (.inl (.inl (((((kj1).trans kj2).trans kj3).trans kj4).at0 hlG))) atl ?_
    walk_at "rdB"
    refine r_newF rfl fun c1 oc1 nc1 dc1 => ?_
    refine gen_newT nc1 dc1 fun J5 kj5 hc1 => ?_
    walk_at "rdB"
    refine r_newF rfl fun c2 oc2 nc2 dc2 => ?_
    refine gen_newT nc2 dc2 fun J6 kj6 hc2 => ?_
    walk_at "rdB"
    refine r_newF rfl fun c3 oc3 nc3 dc3 => ?_
    refine gen_newT nc3 dc3 fun J7 kj7 hc3 => ?_
    walk_at "rdB"
    refine r_newF rfl fun c4 oc4 nc4 dc4 => ?_
    refine gen_newT nc4 dc4 fun J8 kj8 hc4 => ?_
    walk_at "rdB"
    refine r_newF rfl fun c5 oc5 nc5 dc5 => ?_
    refine gen_newT nc5 dc5 fun J9 kj9 hc5 => ?_
    walk_at "rdB"
    refine r_newF rfl fun c6 oc6 nc6 dc6 => ?_
    refine gen_newT nc6 dc6 fun J10 kj10 hc6 => ?_
    walk_at "rdB"
    have kC : Kp [] G0 J10 := (((((((((kj1).trans kj2).trans kj3).trans kj4).trans kj5).trans kj6).trans kj7).trans kj8).trans kj9).trans kj10
    have E4 : Dg J10 (p0 :: S) (.ref a4) (.tuple [.str n0, .tuple [.tuple [.int 1, .tuple []]]]) := (.tup (ha4.keep0 ((((((kj5).trans kj6).trans kj7).trans kj8).trans kj9).trans kj10)).rd (.cons (.str n0) (.cons (.tup (ha3.keep0 (((((((kj4).trans kj5).trans kj6).trans kj7).trans kj8).trans kj9).trans kj10)).rd (.cons (.tup (ha2.keep0 ((((((((kj3).trans kj4).trans kj5).trans kj6).trans kj7).trans kj8).trans kj9).trans kj10)).rd (.cons (.int 1) (.cons (.tup (ha1.keep0 (((((((((kj2).trans kj3).trans kj4).trans kj5).trans kj6).trans kj7).trans kj8).trans kj9).trans kj10)).rd .nil) .nil))) .nil)) .nil)))
    have E6 : Dg J10 (p0 :: S) (.ref c6) (.tuple [.str nl, .tuple [.tuple [.int 0, .tuple []], .tuple [.int 0, .tuple []]]]) := (.tup (hc6.keep0 (Kp.refl)).rd (.cons (.str nl) (.cons (.tup (hc5.keep0 (kj10)).rd (.cons (.tup (hc2.keep0 ((((kj7).trans kj8).trans kj9).trans kj10)).rd (.cons (.int 0) (.cons (.tup (hc1.keep0 (((((kj6).trans kj7).trans kj8).trans kj9).trans kj10)).rd .nil) .nil))) (.cons (.tup (hc4.keep0 ((kj9).trans kj10)).rd (.cons (.int 0) (.cons (.tup (hc3.keep0 (((kj8).trans kj9).trans kj10)).rd .nil) .nil))) .nil))) .nil)))
    have DB : DgAll J10 (p0 :: S) [.str n0, .str nl, .ref a4, .ref c6] (fst2 n0 nl) := .cons (.str _) (.cons (.str _) (.cons E4 (.cons E6 .nil)))
    clear E4 E6 ha1 ha2 ha3 ha4 hc1 hc2 hc3 hc4 hc5 hc6
    replace DA := DA.keep0 kC
    replace hdN := hdN.keep0 kC
    have hp0J := kC.at0 hp0
    refine r_newB rfl fun p1 np1 zp1 => ?_
    generalize eY : ([.str n0, .str nl, .ref a4, .ref c6] : List V) = Y1 at DB ⊢
    generalize eG : fst2 n0 nl = F2 at DB
    refine gen_new np1 fun G1 g1 hp1 => ?_
    refine r_nil ?_
    have lX : X1.length = 15 := by rw [← eX]; rfl
    have lY : Y1.length = 4 := by rw [← eY]; rfl
    refine r_extend (g1.at0 hp0J) hp1 (by omega) ?_
    have mS1 : Mu G1 (p0 :: S) := by
      refine Mu.cons (by rw [g1.at0 hp0J]; exact True.intro) fun a ha => ?_
      have := mS a ha
      revert this
      cases e : H a with
      | none => intro z; exact z.elim
      | some o => intro z; rw [((kB.trans kC).trans g1).at0 e]; exact z
    refine gen_put fun G2 g2 hq0 => ?_
    have g2' : Kp (p0 :: S) G1 G2 := g2.mono (by simp)
    replace DA := ((DA.keep0 g1).keep g2' mS1).append ((DB.keep0 g1).keep g2' mS1)
    replace hdN := (hdN.keep0 g1).keep g2' mS1
    have kD : Kp [] H G1 := (kB.trans kC).trans g1
    have kE : Kp [] H G2 := kD.dropT g2 fun a h => .inr (by rw [show a = p0 by simpa using h]; exact Kp.none0 kA (by simp) np0)
    have BF : BmAll (m + 1) (2 * t + 3) (dp + 5) (2 * w0 + 300) (F1 ++ F2) := by
      rw [← eF, ← eG]
      exact bma_app (fst1_bm C0 (by omega) (by omega) (by omega) (by omega)) (fst2_bm C0 Cl (by omega) (by omega) (by omega) (by omega))
    have lF : (X1 ++ Y1).length = 19 := by rw [List.length_append, lX, lY]
    have mS2 : Mu G2 (p0 :: S) := by
      refine Mu.cons (by rw [hq0]; exact True.intro) fun a ha => ?_
      have := mS a ha
      revert this
      cases e : H a with
      | none => intro z; exact z.elim
      | some o => intro z; rw [kE.at0 e]; exact z
    clear DB hp1 lX lY eX eY eF eG
    generalize X1 ++ Y1 = X at *
    generalize F1 ++ F2 = F at *
    have subS : ∀ a ∈ S, a ∈ p0 :: S ∨ False := fun a h => .inl (List.mem_cons_of_mem _ h)
    have fin : ∀ (G3 : Hp) (p : Addr) (xs : List V) (ds : List PyData), Kp [] H G3 → G3 p = some (.lst xs) → p ≠ b → Mu G3 (p0 :: S) → DgAll G3 (p0 :: S) xs ds → BmAll (m + 1) (2 * t + 3) (dp + 5) (2 * w0 + 300) ds → 0 < xs.length → xs.length ≤ 1000 → sp_of K [.ref b, .ref p] G3 Q E0 := by
      intro G3 p xs ds k hp pb mu D Bs l0 l1
      refine ⟨b, n, .ref p, rfl, B.keep k, .inl ⟨p, xs, rfl, .inl (.inl (.inl hp)), pb, l0, by omega, fun H' v k' B' hv => ?_⟩⟩
      obtain ⟨d', hd', D'⟩ := dgAll_mem D hv
      exact q H' v d' ((Kp.to1 k).trans k') B' ((D'.keep (k'.mono (by simp [bS])) mu).sub fun a h => .inl (List.mem_cons_of_mem _ h)) (Bs d' hd')
    walk_at "rdB"
    refine r_isG hdN (kit_tup d) ?_
    walk_at "rdB"
    refine r_itb (fun e => ?_) (fun e => ?_)
    · obtain ⟨ds, rfl⟩ : ∃ ds, d = .tuple ds := by
        cases d <;> first | exact ⟨_, rfl⟩ | cases e
      obtain ⟨a, xs, rfl, ha, dx⟩ := dg_tup hdN
      have lx := dgAll_len dx
      have lw := wts_len ds
      have hw' : wts ds + 8 ≤ w0 := by
        have := hb.w
        rw [wt_tup] at this
        exact this
      have ht' : tls ds ≤ t := Nat.le_trans (tl_ge ds) hb.t
      have hd' : PyData.depthAll ds + 1 ≤ dp := by
        have := hb.dp
        rw [PyData.depth] at this
        exact this
      have hg' : gms (m + 1) ds = true := by
        have := hb.g
        rw [gm] at this
        exact gms_mono (by omega) ds this
      walk_at "rdB"
      refine ⟨a, xs, rfl, .inl ha, fun l1 nl1 zl1 => ?_⟩
      refine gen_new nl1 fun L1 m1 hl1 => ?_
      walk_at "rdB"
      refine r_slT (rd_keep0 ha m1) fun s1 L2 m2 hs1 => ?_
      walk_at "rdB"
      refine r_slT (rd_keep0 ha (m1.trans m2)) fun s2 L3 m3 hs2 => ?_
      obtain ⟨i1, j1, ec1⟩ := cutV_is xs none (some (-1))
      obtain ⟨i2, j2, ec2⟩ := cutV_is xs (some (-1)) none
      have eN : (some (-1) : Option Int) = some (-(1 : Int)) := rfl
      first | rw [ec1] at hs1 | (rw [← eN, ec1] at hs1)
      first | rw [ec2] at hs2 | (rw [← eN, ec2] at hs2)
      walk_at "rdB"
      refine r_catT (rd_keep0 ha ((m1.trans m2).trans m3)) hs2 (by rw [List.length_take, List.length_drop]; omega) fun s3 L4 m4 hs3 => ?_
      walk_at "rdB"
      refine ⟨a, xs, rfl, .inl (rd_keep0 ha (((m1.trans m2).trans m3).trans m4)), fun s4 ns4 => ?_⟩
      refine gen_new ns4 fun L5 m5 hs4 => ?_
      walk_at "rdB"
      refine r_newF rfl fun s5 os5 ns5 ds5 => ?_
      refine gen_newT ns5 ds5 fun L6 m6 hs5 => ?_
      walk_at "rdB"
      refine r_newB rfl fun p2 np2 zp2 => ?_
      refine gen_new np2 fun L7 m7 hp2 => ?_
      walk_at "rdB"
      have kL : Kp [] G2 L7 := (((((m1.trans m2).trans m3).trans m4).trans m5).trans m6).trans m7
      refine ⟨p0, p2, _, _, rfl, rfl, kL.at0 hq0, hp2, by rw [lF]; show 19 + 5 ≤ sizeLine; rw [sizeLine_eq]; omega, fun p3 np3 => ?_⟩
      refine gen_new np3 fun L8 m8 hp3 => ?_
      walk_at "rdB"
      have kM : Kp [] G2 L8 := kL.trans m8
      have l1S : l1 ∉ p0 :: S := fun z => by
        have := mS2 l1 z
        rw [nl1] at this
        exact this
      have dx8 := dx.keep0 kM
      have T1 : Dg L8 (p0 :: S) (.ref l1) (.list ds) := .lst (((((((m2.trans m3).trans m4).trans m5).trans m6).trans m7).trans m8).at0 hl1) l1S zl1 dx8
      have T2 : Dg L8 (p0 :: S) (.ref s1) (.tuple ((ds.drop i1).take j1)) := .tup (rd_keep0 hs1 (((((m3.trans m4).trans m5).trans m6).trans m7).trans m8)) ((dx8.drop i1).take j1)
      have T3 : Dg L8 (p0 :: S) (.ref s3) (.tuple (ds ++ (ds.drop i2).take j2)) := .tup (rd_keep0 hs3 (((m5.trans m6).trans m7).trans m8)) (dx8.append ((dx8.drop i2).take j2))
      have T4 : Dg L8 (p0 :: S) (.ref s4) (.tuple ds.reverse) := .tup (rd_keep0 (.inl hs4) ((m6.trans m7).trans m8)) dx8.reverse
      have T5 : Dg L8 (p0 :: S) (.ref s5) (.tuple [.tuple ds]) := .tup (rd_keep0 hs5.rd (m7.trans m8)) (.cons (hdN.keep0 kM) .nil)
      have sub1 : ∀ i j, ∀ x ∈ (ds.drop i).take j, x ∈ ds := fun i j x hx => List.mem_of_mem_drop (List.mem_of_mem_take hx)
      have tt : ∀ i j, tls ((ds.drop i).take j) ≤ tls ds := fun i j => by
        have := tls_take ds i
        have := tls_take (ds.drop i) j
        omega
      have ww : ∀ i j, wts ((ds.drop i).take j) ≤ wts ds := fun i j => by
        have := wts_take ds i
        have := wts_take (ds.drop i) j
        omega
      have dd : ∀ i j, PyData.depthAll ((ds.drop i).take j) ≤ PyData.depthAll ds := fun i j => depthAll_sub (sub1 i j)
      refine fin L8 p3 _ (F ++ [.list ds, .tuple ((ds.drop i1).take j1), .tuple (ds ++ (ds.drop i2).take j2), .tuple ds.reverse, .tuple [.tuple ds]]) (kE.trans kM) hp3 ?_ ?_ ((DA.keep0 kM).append (.cons T1 (.cons T2 (.cons T3 (.cons T4 (.cons T5 .nil)))))) ?_ ?_ ?_
      · exact Ne.symm (ne_of_none ((kE.trans kL).at0 hbx) np3)
      · intro z hz
        have := mS2 z hz
        revert this
        cases e : G2 z with
        | none => intro y; exact y.elim
        | some o => intro y; rw [kM.at0 e]; exact y
      · refine bma_app BF (bma_cons (bm_lst hg' (by omega) (by omega)) (bma_cons (bm_tup (gms_sub (sub1 _ _) hg') (by have := tt i1 j1; omega) (by have := dd i1 j1; omega) (by have := ww i1 j1; omega)) (bma_cons (bm_tup ?_ ?_ ?_ ?_) (bma_cons (bm_tup (gms_sub (fun x hx => List.mem_reverse.mp hx) hg') (by rw [tls_rev]; omega) (by have := depthAll_sub (a := ds.reverse) (b := ds) (fun x hx => List.mem_reverse.mp hx); omega) (by rw [wts_rev]; omega)) (bma_cons (bm_tup ?_ ?_ ?_ ?_) bma_nil)))))
        · rw [gms_app, hg', gms_sub (sub1 _ _) hg']
          rfl
        · rw [tls_app]
          have := tt i2 j2
          omega
        · rw [depthAll_app]
          have := dd i2 j2
          omega
        · rw [wts_app]
          have := ww i2 j2
          omega
        · rw [gms, gms, gm, hg']
          rfl
        · rw [tls, tls]
          have := hb.t
          omega
        · rw [PyData.depthAll, PyData.depthAll, PyData.depth]
          omega
        · rw [wts, wts, wt_tup]
          omega
      · rw [List.length_append, lF]
        exact Nat.succ_pos _
      · rw [List.length_append, lF]
        show 19 + 5 ≤ 1000
        omega
    walk_at "rdB"
    refine r_isG hdN (kit_int d) ?_
    walk_at "rdB"
    refine r_itb (fun e' => ?_) (fun e' => ?_)
    · cases d with
      | none => cases e'
      | str x => cases e'
      | list x => cases e'
      | tuple x => cases e'
      | dict x => cases e'
      | int i =>
        obtain rfl := dg_int hdN
        have hi : i.natAbs ≤ m := by
          have := hb.g
          rw [gm] at this
          exact of_decide_eq_true this
        walk_at "rdB"
        refine ⟨1, rfl, .inl ⟨i, rfl, ?_⟩⟩
        walk_at "rdB"
        refine ⟨1, rfl, .inl ⟨i, rfl, ?_⟩⟩
        walk_at "rdB"
        refine ⟨_, rfl, .inl ⟨i, rfl, Rx.log2_small (by omega), ?_⟩⟩
        walk_at "rdB"
        refine r_newB rfl fun p2 np2 zp2 => ?_
        refine gen_new np2 fun L7 m7 hp2 => ?_
        walk_at "rdB"
        refine ⟨p0, p2, _, _, rfl, rfl, m7.at0 hq0, hp2, by rw [lF]; show 19 + 3 ≤ sizeLine; rw [sizeLine_eq]; omega, fun p3 np3 => ?_⟩
        refine gen_new np3 fun L8 m8 hp3 => ?_
        walk_at "rdB"
        have kM : Kp [] G2 L8 := m7.trans m8
        refine fin L8 p3 _ (F ++ [.int (i + 1), .int (i - 1), .str (Str.ofString (toString i))]) (kE.trans kM) hp3 (Ne.symm (ne_of_none ((kE.trans m7).at0 hbx) np3)) ?_ ((DA.keep0 kM).append (.cons (.int _) (.cons (.int _) (.cons (.str _) .nil)))) ?_ ?_ ?_
        · intro z hz
          have := mS2 z hz
          revert this
          cases e : G2 z with
          | none => intro y; exact y.elim
          | some o => intro y; rw [kM.at0 e]; exact y
        · refine bma_app BF (bma_cons (bm_int (by omega) (by omega)) (bma_cons (bm_int (by omega) (by omega)) (bma_cons (bm_str (strOk_of _) (Nat.le_trans (PyData.shown_int_le (i := i) (by omega)) (by omega)) (by omega)) bma_nil)))
        · rw [List.length_append, lF]
          exact Nat.succ_pos _
        · rw [List.length_append, lF]
          show 19 + 3 ≤ 1000
          omega
      | bool x =>
        obtain rfl : v = .bl x := by
          cases hdN
          rfl
        walk_at "rdB"
        refine ⟨1, rfl, .inr ⟨x, rfl, ?_⟩⟩
        walk_at "rdB"
        refine ⟨1, rfl, .inr ⟨x, rfl, ?_⟩⟩
        walk_at "rdB"
        refine ⟨_, rfl, .inr ⟨x, rfl, ?_⟩⟩
        walk_at "rdB"
        refine r_newB rfl fun p2 np2 zp2 => ?_
        refine gen_new np2 fun L7 m7 hp2 => ?_
        walk_at "rdB"
        refine ⟨p0, p2, _, _, rfl, rfl, m7.at0 hq0, hp2, by rw [lF]; show 19 + 3 ≤ sizeLine; rw [sizeLine_eq]; omega, fun p3 np3 => ?_⟩
        refine gen_new np3 fun L8 m8 hp3 => ?_
        walk_at "rdB"
        have kM : Kp [] G2 L8 := m7.trans m8
        refine fin L8 p3 _ (F ++ [.int ((if x = true then (1 : Int) else 0) + 1), .int ((if x = true then (1 : Int) else 0) - 1), .str (if x then "True" else "False")]) (kE.trans kM) hp3 (Ne.symm (ne_of_none ((kE.trans m7).at0 hbx) np3)) ?_ ((DA.keep0 kM).append (.cons (.int _) (.cons (.int _) (.cons (.str _) .nil)))) ?_ ?_ ?_
        · intro z hz
          have := mS2 z hz
          revert this
          cases e : G2 z with
          | none => intro y; exact y.elim
          | some o => intro y; rw [kM.at0 e]; exact y
        · refine bma_app BF (bma_cons (bm_int (by cases x <;> simp <;> omega) (by omega)) (bma_cons (bm_int (by cases x <;> simp <;> omega) (by omega)) (bma_cons (bm_str (by cases x <;> decide +kernel) (by cases x <;> decide +kernel) (by omega)) bma_nil)))
        · rw [List.length_append, lF]
          exact Nat.succ_pos _
        · rw [List.length_append, lF]
          show 19 + 3 ≤ 1000
          omega
    walk_at "rdB"
    exact fin G2 p0 X F kE hq0 p0b mS2 DA BF (by omega) (by omega)
end
end L2.Ro

end
section
set_option Elab.async false
set_option linter.all false
set_option maxRecDepth 100000
set_option maxHeartbeats 4000000
local macro_rules | `(tactic| walk_at "rd1") => `(tactic| with_reducible first
  | refine L2.Rx.r_seq ?_ | refine L2.Rx.r_asg ?_ | refine L2.Rx.r_gname ?_ | refine L2.Rx.r_op ?_ | refine L2.Rx.r_c ?_
  | refine L2.Rx.r_var rfl ?_
  | refine L2.Rx.r_rI0 ?_ | refine L2.Rx.r_test ?_ | refine L2.Rx.r_bl ?_ | refine L2.Rx.r_if ?_ | refine L2.Rx.r_ret ?_
  | refine L2.Rx.r_cons ?_ | refine L2.Rx.r_nil ?_ | refine L2.Rx.r_call ?_ | refine L2.Rx.r_cb ?_ | refine L2.Rx.r_next ?_ | refine L2.Rx.r_drop ?_
  | refine L2.Rx.r_gsub ?_ | refine L2.Rx.r_tupF ?_ | refine L2.Rx.r_lst ?_ | refine L2.Rx.r_par ?_ | refine L2.Rx.r_par2 ?_
  | refine L2.Rx.r_un ?_ | refine L2.Rx.r_tb ?_ | refine L2.Rx.r_and ?_ | refine L2.Rx.r_or ?_ | refine L2.Rx.r_not ?_
  | refine L2.Rx.r_andV ?_ | refine L2.Rx.r_orV ?_ | refine L2.Rx.r_notV ?_ | refine L2.Rx.r_ifx ?_ | refine L2.Rx.r_chain ?_
  | refine L2.Rx.r_sl ?_ | refine L2.Rx.r_nopart ?_ | refine L2.Rx.r_part ?_ | refine L2.Rx.r_exint ?_ | refine L2.Rx.r_bm0 ?_ | refine L2.Rx.r_bm ?_
  | refine L2.Rx.r_lc ?_ | refine L2.Rx.r_rng1 ?_ | refine L2.Rx.r_yes ?_ | refine L2.Rx.r_tt ?_ | refine L2.Rx.r_ff ?_ | refine L2.Rx.r_m1 ?_ | refine L2.Rx.r_m0 ?_ | refine L2.Rx.r_isS ?_
  | (refine L2.Rx.r_wipe (by with_unfolding_all rfl) ?_) | (refine L2.Rx.r_tyL (by walk_at "hp") ?_)
  | refine L2.Rx.r_addS (by walk_at "len") ?_ | refine L2.Rx.r_lenS (by walk_at "len") ?_ | refine L2.Rx.r_slS (by walk_at "len") ?_
  | refine L2.Rx.r_dnotin ?_ | refine L2.Rx.r_dget ?_ | refine L2.Rx.r_dget1 ?_ | refine L2.Rx.r_dput ?_ | refine L2.Rx.r_dpop1 ?_ | refine L2.Rx.r_isN ?_
  | refine L2.Rx.r_for ?_ | refine L2.Rx.r_ilist ?_ | refine L2.Rx.r_itup ?_
  | refine L2.Rx.r_gcons ?_ | refine L2.Rx.r_gnil ?_ | (refine L2.Rx.r_gtupP (by assumption) (by walk_at "at") ?_)
  | (refine L2.Rx.r_rEq rfl ?_) | (refine L2.Rx.r_rNe rfl ?_)
  | refine L2.Rx.r_rU ?_ | refine L2.Rx.r_max2 ?_ | refine L2.Rx.r_min2 ?_ | refine L2.Rx.r_int1i ?_ | (refine L2.Rx.r_lenh (by walk_at "hp") ?_)
  | (refine L2.Rx.r_ixLh (by walk_at "hp") (by walk_at "at") ?_)
  | (refine L2.Rx.r_setL (by walk_at "hp") (by walk_at "at") ?_))
local macro_rules | `(tactic| walk_at "at") => `(tactic| with_unfolding_all rfl)
local macro_rules | `(tactic| walk_at "rd") => `(tactic| (repeat walk_at "rd1"))
local macro_rules | `(tactic| walk_at "hp") => `(tactic| first
  | assumption
  | exact L2.upd_same
  | (refine Eq.trans (L2.upd_ne ?_) ?_; (focus walk_at "ne"); (focus walk_at "hp"))
  | (refine L2.Rx.Kp.at0 (by assumption) ?_; walk_at "hp")
  | (refine L2.Rx.Kp.at1 (by assumption) ?_ ?_; (focus walk_at "ne"); (focus walk_at "hp")))
local macro_rules | `(tactic| walk_at "ne") => `(tactic| first
  | assumption | exact Ne.symm (by assumption)
  | (refine L2.ne_of_none (H := ?nH) (o := ?nO) ?nh ?nn; (case nn => assumption); (case nh => walk_at "hp"))
  | (refine Ne.symm (L2.ne_of_none (H := ?nH) (o := ?nO) ?nh ?nn); (case nn => assumption); (case nh => walk_at "hp")))
local macro_rules | `(tactic| walk_at "len") => `(tactic| (rw [PySem.sizeLine_eq]; omega))
local macro_rules | `(tactic| walk_at "nin") => `(tactic| first
  | exact List.not_mem_nil
  | (refine L2.Rx.nin1 ?_; walk_at "ne"))
local macro_rules | `(tactic| walk_at "none") => `(tactic| first
  | assumption
  | (refine L2.Rx.Kp.none0 (by assumption) ?_ ?_; (focus walk_at "nin"); (focus walk_at "none")))
namespace L2.Ro
open PySem PySem.Spec PyProof.Rows L2.Rx
local macro_rules | `(tactic| walk_at "rdB") => `(tactic| (repeat (first | walk_at "rd1" | with_reducible refine L2.Rx.r_lstB ?_ | with_reducible refine L2.Rx.r_revT ?_)))
theorem cut_low {xs : List V} {j : Nat} (h : j ≤ xs.length) : cutV xs none (some (j : Int)) = xs.take j := by
  unfold cutV
  rw [HT.sIx_nat, HT.sIx_none, List.drop_zero, Nat.sub_zero, Nat.min_eq_left h]
theorem cut_high {xs : List V} {j : Nat} (h : j < xs.length) : cutV xs (some ((j : Int) + 1)) none = xs.drop (j + 1) := by
  unfold cutV
  have e : ((j : Int) + 1) = ((j + 1 : Nat) : Int) := by omega
  rw [e, HT.sIx_nat, HT.sIx_none, Nat.min_eq_left h]
  exact List.take_of_length_le (by rw [List.length_drop]; exact Nat.le_refl _)
structure Bt (m : Nat) (d d' : PyData) : Prop where
  g : gm (m + 1) d' = true
  t : tl d' ≤ 3 * tl d + 3
  dp : d'.depth ≤ d.depth + 5
  w : wt d' ≤ 3 * wt d + 300
theorem tls_at {ds : List PyData} {j : Nat} {x : PyData} (h : ds[j]? = some x) : tls ds = tls (ds.take j) + tl x + tls (ds.drop (j + 1)) ∧ wts ds = wts (ds.take j) + (wt x + 2) + wts (ds.drop (j + 1)) := by
  have e : ds = ds.take j ++ x :: ds.drop (j + 1) := by
    obtain ⟨hj, hx⟩ := List.getElem?_eq_some_iff.mp h
    rw [← hx, List.getElem_cons_drop, List.take_append_drop]
  have a := congrArg tls e
  have b := congrArg wts e
  rw [tls_app, tls] at a
  rw [wts_app, wts] at b
  omega
/-- changed somewhere -/
def sp_bent (n : Nat) : Sp := fun vs H Q _ => ∃ (b l : Addr) (k m : Nat) (v : V) (d : PyData) (cs : List Str) (S : List Addr), vs = [.ref b, v, .ref l] ∧ Box H b (k + (2 * n + 1)) ∧ b ∈ S ∧ Mu H S ∧ H l = some (.lst (cs.map V.str)) ∧ l ≠ b ∧ Cells cs ∧ 0 < cs.length ∧ cs.length ≤ 26 ∧
  Dg H S v d ∧ gm m d = true ∧ d.depth ≤ n ∧ 1000000001 ≤ m ∧ m ≤ 1000000100 ∧ wt d ≤ 400000 ∧ ∀ (H' : Hp) (v' : V) (d' : PyData), Kp [b] H H' → Box H' b k → Dg H' S v' d' → Bt m d d' → Q v' H'
section
variable {P : Program} {w : World} {K : PySem.W.Frag} {mg : Str → Option Value} {base : Heap}
theorem k_bent1 {f : Addr} {fd : FuncData} (F : Fun K "_law_bent" "_law_bent" s_bent f fd) (g : mg "_law_bent" = some (.ref f)) (z : Zb mg) (n : Nat) (spx : Sp) (k_take : Kn P w K mg base CX0 1 "_law_take" sp_take) (k_odd : Kn P w K mg base CX0 3 "_law_odd" (sp_odd K)) (k_bent : Kn P w K mg base CX0 (n + 3) "_law_bent" spx) (hx : ∀ m, n = m + 1 → spx = sp_bent m)  : FnG P w K mg base CX0 (n + 4) f fd ["_law_box_here", "_law_item", "_law_names"] (sp_bent n) := by
  refine fnG_body F sc_bent (fun vs H Q E h => ?_) (fun cdv A outer s H vs Q E hr h => ?_)
  · obtain ⟨b, l, k, m, v, d, cs, S, rfl, _⟩ := h
    rfl
  · obtain ⟨b, l, k, m, v, d, cs, S, rfl, B, bS, mS, hl, lb, Cs, c0, c1, hd, hg, hdp, hm, hm2, hw, q⟩ := h
    refine ⟨_, PSs.nox (pss_cons (ps_if (PW.pt (pw_and (pt_val (pe_callB (show CallR _ _ (rIsi K) from call_isi) (by rfl) z.n_isinstance (by decide +kernel) (pa_cons (pv 1) (pa_cons (pe_bltn (v := .ty "tuple") (by rfl) z.n_tuple (by decide +kernel) rfl) pa_nil)))) (pw_and (pt_cmpR (show OpR _ _ rNeN from op_neN hr) (pv 1) (pe_tupF pa_nil) (nomark _)) (pw_and1 (pt_cmpR op_gt (k_take.call hr (by omega) (by rfl) (pa_cons (pv 0) (pa_cons pe_int pa_nil))) pe_int (nomark _))))))
        (pss_cons (ps_set (i := 3) sc_bent.nd rfl (.inl rfl) (k_take.call hr (by omega) (by rfl) (pa_cons (pv 0) (pa_cons (pe_callB (show CallR _ _ (rLenQ K) from c_len) (by rfl) z.n_len (by decide +kernel) (pa_cons (pv 1) pa_nil)) pa_nil))))
        (pss_one (ps_ret (pe_op (show OpR _ _ (rCatF K) from op_catF) (pe_op (show OpR _ _ (rCatF K) from op_catF) (pe_slice (show SlR _ (rSlA K) from sl_tupA) (pv 1) po_none (po_some (pv 3))) (pe_tupF (pa_cons (k_bent.call hr (by omega) (by rfl) (pa_cons (pv 0) (pa_cons (pe_ix (show IxR _ (rIxT K) from ix_tup) (pv 1) (pv 3) (fun _ _ => rfl)) (pa_cons (pv 2) pa_nil)))) pa_nil))) (pe_slice (show SlR _ (rSlA K) from sl_tupA) (pv 1) (po_some (pe_op op_add (pv 3) pe_int)) po_none)))))
        pss_nil)
      (pss_one (ps_ret (k_odd.call hr (by omega) (by rfl) (pa_cons (pv 0) (pa_cons (pv 1) (pa_cons (pv 2) pa_nil))))))), ?_⟩
    have odd : ∀ (H1 : Hp), Kp [b] H H1 → Box H1 b (k + 1) → sp_odd K [.ref b, v, .ref l] H1 Q E0 := by
      intro H1 k1 B1
      have mS1 : Mu H1 S := fun a ha => by
        have := mS a ha
        by_cases e : a = b
        · obtain ⟨x, hb⟩ := B1.lst
          rw [e, hb]
          exact True.intro
        · revert this
          cases e2 : H a with
          | none => intro z; exact z.elim
          | some o => intro z; rw [k1.at1 e e2]; exact z
      refine ⟨b, l, k, m, tl d, d.depth, wt d, v, d, cs, S, rfl, B1, bS, mS1, k1.at1 lb hl, Cs, c0, c1, hd.keep (k1.mono (by simpa using bS)) mS, ⟨hg, Nat.le_refl _, Nat.le_refl _, Nat.le_refl _⟩, hm, hm2, hw, ?_⟩
      intro H' v' d' k' B' D' Bm'
      exact q H' v' d' (k1.trans k') B' D' ⟨Bm'.g, Nat.le_trans Bm'.t (by omega), Bm'.dp, Nat.le_trans Bm'.w (by omega)⟩
    walk_at "rdB"
    refine r_isG hd (kit_tup d) ?_
    walk_at "rdB"
    refine r_itb (fun e => ?_) (fun e => ?_)
    rotate_left
    · walk_at "rdB"
      exact odd H Kp.refl (B.mono (by omega))
    obtain ⟨ds, rfl⟩ : ∃ ds, d = .tuple ds := by
      cases d <;> first | exact ⟨_, rfl⟩ | cases e
    have hdp' := hdp
    rw [PyData.depth] at hdp'
    obtain ⟨n', rfl⟩ : ∃ n', n = n' + 1 := ⟨n - 1, by omega⟩
    obtain rfl := hx n' rfl
    obtain ⟨a, xs, rfl, ha, dx⟩ := dg_tup hd
    have lx := dgAll_len dx
    have lw := wts_len ds
    have hw' := hw
    rw [wt_tup] at hw'
    walk_at "rdB"
    refine r_newF rfl fun e1 oe1 ne1 oe1d => ?_
    refine gen_newT ne1 oe1d fun H1 k1 he1 => ?_
    walk_at "rdB"
    refine ⟨ds, S, e1, hd.keep0 k1, rfl, he1, ?_⟩
    walk_at "rdB"
    refine r_itb (fun e0 => ?_) (fun e0 => ?_)
    rotate_left
    · walk_at "rdB"
      exact odd H1 (Kp.to1 k1) ((B.keep k1).mono (by omega))
    have l0 : 0 < ds.length := by
      cases ds with
      | nil => cases e0
      | cons _ _ => exact Nat.succ_pos _
    walk_at "rdB"
    refine ⟨b, k + (2 * n' + 2), _, rfl, (B.keep k1).mono (by omega), by decide, by decide, fun H2 u k2 B2 u0 u1 => ?_⟩
    have kA : Kp [b] H H2 := (Kp.to1 k1).trans k2
    walk_at "rdB"
    refine r_ite (fun hu => ?_) (fun hu => ?_)
    rotate_left
    · walk_at "rdB"
      exact odd H2 kA (B2.mono (by omega))
    have ha2 : Rd H2 a (.tup xs) := rd_keepM ha (kA.mono (by simpa using bS)) mS
    refine r_seq (r_asg (r_call (r_cons (r_var rfl (r_cons (r_cb (r_cons (r_var rfl (r_nil ?_)))))))))
    refine r_len (.inr (.inl ha2)) ?_
    walk_at "rdB"
    refine ⟨b, k + (2 * n' + 1), _, rfl, B2.mono (by omega), by omega, by omega, fun H3 r k3 B3 r0 r1 => ?_⟩
    have kB : Kp [b] H H3 := kA.trans k3
    have ha3 : Rd H3 a (.tup xs) := rd_keepM ha (kB.mono (by simpa using bS)) mS
    obtain ⟨j, rfl⟩ : ∃ j : Nat, r = (j : Int) := ⟨r.toNat, by omega⟩
    have hj : j < xs.length := by omega
    obtain ⟨x, hx3⟩ : ∃ x, xs[j]? = some x := ⟨_, List.getElem?_eq_getElem hj⟩
    obtain ⟨dj, hdj, gx⟩ := DgAll.at (dx.keep (kB.mono (by simpa using bS)) mS) hx3
    walk_at "rdB"
    refine r_slT ha3 fun s1 H4 k4 hs1 => ?_
    rw [cut_low (Nat.le_of_lt hj)] at hs1
    walk_at "rdB"
    refine r_ixT (.inl (rd_keep0 ha3 k4)) (atI_nat hx3) ?_
    walk_at "rdB"
    have kC : Kp [b] H H4 := kB.trans (Kp.to1 k4)
    have mS4 : Mu H4 S := fun c hc => by
      have := mS c hc
      by_cases e : c = b
      · obtain ⟨x, hb⟩ := (B3.keep k4).lst
        rw [e, hb]
        exact True.intro
      · revert this
        cases e2 : H c with
        | none => intro z; exact z.elim
        | some o => intro z; rw [kC.at1 e e2]; exact z
    obtain ⟨et, ew⟩ := tls_at hdj
    have mj : dj ∈ ds := List.mem_of_getElem? hdj
    have gj : gms m ds = true := by
      rw [gm] at hg
      exact hg
    have dd := depth_le_all mj
    have etl : tl (.tuple ds) = tls ds := by
      rw [tl, if_neg (by cases ds with | nil => cases l0 | cons _ _ => simp)]
      exact Nat.zero_add _
    refine ⟨b, l, k, m, x, dj, cs, S, rfl, (B3.keep k4).mono (by omega), bS, mS4, kC.at1 lb hl, lb, Cs, c0, c1, gx.keep0 k4, gms_mem.mp gj _ mj, by omega, hm, hm2, by omega, fun H5 y dy k5 B5 gy bt => ?_⟩
    walk_at "rdB"
    have kD : Kp [b] H H5 := kC.trans k5
    have mS5 : Mu H5 S := fun c hc => by
      have := mS c hc
      by_cases e : c = b
      · obtain ⟨x, hb⟩ := B5.lst
        rw [e, hb]
        exact True.intro
      · revert this
        cases e2 : H c with
        | none => intro z; exact z.elim
        | some o => intro z; rw [kD.at1 e e2]; exact z
    refine r_newF rfl fun e6 oe6 ne6 oe6d => ?_
    refine gen_newT ne6 oe6d fun H6 k6 he6 => ?_
    walk_at "rdB"
    have k5S : Kp S H4 H5 := k5.mono (by simpa using bS)
    refine r_catT (rd_keep0 (rd_keepM hs1 k5S mS4) k6) he6.rd (by rw [List.length_take]; show min j xs.length + 1 ≤ 1000000; omega) fun s2 H7 k7 hs2 => ?_
    walk_at "rdB"
    have ha7 : Rd H7 a (.tup xs) := rd_keep0 (rd_keep0 (rd_keepM (rd_keep0 ha3 k4) k5S mS4) k6) k7
    refine r_slT ha7 fun s3 H8 k8 hs3 => ?_
    rw [cut_high hj] at hs3
    walk_at "rdB"
    refine r_catT (rd_keep0 hs2 k8) hs3 (by rw [List.length_append, List.length_take, List.length_drop]; show min j xs.length + 1 + (xs.length - (j + 1)) ≤ 1000000; omega) fun s4 H9 k9 hs4 => ?_
    walk_at "rdB"
    have kE : Kp [] H5 H9 := ((k6.trans k7).trans k8).trans k9
    have dx9 : DgAll H9 S xs ds := ((dx.keep (kD.mono (by simpa using bS)) mS).keep0 kE)
    refine q H9 (.ref s4) (.tuple ((ds.take j ++ [dy]) ++ ds.drop (j + 1))) (kD.trans (Kp.to1 kE)) (B5.keep kE) (.tup hs4 (((dx9.take j).append (.cons (gy.keep0 kE) .nil)).append (dx9.drop (j + 1)))) ⟨?_, ?_, ?_, ?_⟩
    · rw [gm, gms_app, gms_app, gms, gms, bt.g]
      have g2 := gms_mono (n := m + 1) (by omega) ds gj
      rw [gms_sub (a := ds.take j) (b := ds) (fun _ h => List.mem_of_mem_take h) g2, gms_sub (a := ds.drop (j + 1)) (b := ds) (fun _ h => List.mem_of_mem_drop h) g2]
      rfl
    · rw [etl, tl, if_neg (by simp), tls_app, tls_app, tls, tls]
      have := bt.t
      omega
    · rw [PyData.depth, PyData.depth, depthAll_app, depthAll_app, PyData.depthAll, PyData.depthAll]
      have := bt.dp
      have := depthAll_sub (a := ds.take j) (b := ds) (fun _ h => List.mem_of_mem_take h)
      have := depthAll_sub (a := ds.drop (j + 1)) (b := ds) (fun _ h => List.mem_of_mem_drop h)
      omega
    · rw [wt_tup, wt_tup, wts_app, wts_app, wts, wts]
      have := bt.w
      omega
end
theorem fn_bent {P : Program} {w : World} {K : PySem.W.Frag} {mg : Str → Option Value} {base : Heap} {f : Addr} {fd : FuncData} (F : Fun K "_law_bent" "_law_bent" s_bent f fd) (g : mg "_law_bent" = some (.ref f)) (z : Zb mg)
    (k_take : Kn P w K mg base CX0 1 "_law_take" sp_take) (k_odd : Kn P w K mg base CX0 3 "_law_odd" (sp_odd K)) : ∀ n, FnG P w K mg base CX0 (n + 4) f fd ["_law_box_here", "_law_item", "_law_names"] (sp_bent n)
  | 0 => k_bent1 F g z 0 (fun _ _ _ _ => False) k_take k_odd ⟨f, fd, ["_law_box_here", "_law_item", "_law_names"], ⟨fun _ _ _ _ h => h.elim, fun _ _ _ _ _ _ _ _ _ _ _ _ _ h => h.elim⟩, g, F.kp, F.binds (fun _ _ _ _ _ _ us hl => match us, hl with | [_, _, _], _ => rfl)⟩ (fun m h => by omega)
  | n + 1 => k_bent1 F g z (n + 1) (sp_bent n) k_take k_odd ⟨f, fd, _, fn_bent F g z k_take k_odd n, g, F.kp, F.binds (fun _ _ _ _ _ _ us hl => match us, hl with | [_, _, _], _ => rfl)⟩ (fun m h => by
    have : n = m := by omega
    rw [this])
theorem k_bent {P : Program} {w : World} {K : PySem.W.Frag} {mg : Str → Option Value} {base : Heap} {f : Addr} {fd : FuncData} (F : Fun K "_law_bent" "_law_bent" s_bent f fd) (g : mg "_law_bent" = some (.ref f)) (z : Zb mg)
    (k_take : Kn P w K mg base CX0 1 "_law_take" sp_take) (k_odd : Kn P w K mg base CX0 3 "_law_odd" (sp_odd K)) : Kn P w K mg base CX0 44 "_law_bent" (sp_bent 40) :=
  ⟨f, fd, ["_law_box_here", "_law_item", "_law_names"], fn_bent F g z k_take k_odd 40, g, F.kp, F.binds (fun _ _ _ _ _ _ us hl => match us, hl with | [_, _, _], _ => rfl)⟩

end L2.Ro

end
section
set_option Elab.async false
set_option linter.all false
set_option maxRecDepth 100000
set_option maxHeartbeats 4000000
local macro_rules | `(tactic| walk_at "rd1") => `(tactic| with_reducible first
  | refine L2.Rx.r_seq ?_ | refine L2.Rx.r_asg ?_ | refine L2.Rx.r_gname ?_ | refine L2.Rx.r_op ?_ | refine L2.Rx.r_c ?_
  | refine L2.Rx.r_var rfl ?_
  | refine L2.Rx.r_rI0 ?_ | refine L2.Rx.r_test ?_ | refine L2.Rx.r_bl ?_ | refine L2.Rx.r_if ?_ | refine L2.Rx.r_ret ?_
  | refine L2.Rx.r_cons ?_ | refine L2.Rx.r_nil ?_ | refine L2.Rx.r_call ?_ | refine L2.Rx.r_cb ?_ | refine L2.Rx.r_next ?_ | refine L2.Rx.r_drop ?_
  | refine L2.Rx.r_gsub ?_ | refine L2.Rx.r_tupF ?_ | refine L2.Rx.r_lst ?_ | refine L2.Rx.r_par ?_ | refine L2.Rx.r_par2 ?_
  | refine L2.Rx.r_un ?_ | refine L2.Rx.r_tb ?_ | refine L2.Rx.r_and ?_ | refine L2.Rx.r_or ?_ | refine L2.Rx.r_not ?_
  | refine L2.Rx.r_andV ?_ | refine L2.Rx.r_orV ?_ | refine L2.Rx.r_notV ?_ | refine L2.Rx.r_ifx ?_ | refine L2.Rx.r_chain ?_
  | refine L2.Rx.r_sl ?_ | refine L2.Rx.r_nopart ?_ | refine L2.Rx.r_part ?_ | refine L2.Rx.r_exint ?_ | refine L2.Rx.r_bm0 ?_ | refine L2.Rx.r_bm ?_
  | refine L2.Rx.r_lc ?_ | refine L2.Rx.r_rng1 ?_ | refine L2.Rx.r_yes ?_ | refine L2.Rx.r_tt ?_ | refine L2.Rx.r_ff ?_ | refine L2.Rx.r_m1 ?_ | refine L2.Rx.r_m0 ?_ | refine L2.Rx.r_isS ?_
  | (refine L2.Rx.r_wipe (by with_unfolding_all rfl) ?_) | (refine L2.Rx.r_tyL (by walk_at "hp") ?_)
  | refine L2.Rx.r_addS (by walk_at "len") ?_ | refine L2.Rx.r_lenS (by walk_at "len") ?_ | refine L2.Rx.r_slS (by walk_at "len") ?_
  | refine L2.Rx.r_dnotin ?_ | refine L2.Rx.r_dget ?_ | refine L2.Rx.r_dget1 ?_ | refine L2.Rx.r_dput ?_ | refine L2.Rx.r_dpop1 ?_ | refine L2.Rx.r_isN ?_
  | refine L2.Rx.r_for ?_ | refine L2.Rx.r_ilist ?_ | refine L2.Rx.r_itup ?_
  | refine L2.Rx.r_gcons ?_ | refine L2.Rx.r_gnil ?_ | (refine L2.Rx.r_gtupP (by assumption) (by walk_at "at") ?_)
  | (refine L2.Rx.r_rEq rfl ?_) | (refine L2.Rx.r_rNe rfl ?_)
  | refine L2.Rx.r_rU ?_ | refine L2.Rx.r_max2 ?_ | refine L2.Rx.r_min2 ?_ | refine L2.Rx.r_int1i ?_ | (refine L2.Rx.r_lenh (by walk_at "hp") ?_)
  | (refine L2.Rx.r_ixLh (by walk_at "hp") (by walk_at "at") ?_)
  | (refine L2.Rx.r_setL (by walk_at "hp") (by walk_at "at") ?_))
local macro_rules | `(tactic| walk_at "at") => `(tactic| with_unfolding_all rfl)
local macro_rules | `(tactic| walk_at "rd") => `(tactic| (repeat walk_at "rd1"))
local macro_rules | `(tactic| walk_at "hp") => `(tactic| first
  | assumption
  | exact L2.upd_same
  | (refine Eq.trans (L2.upd_ne ?_) ?_; (focus walk_at "ne"); (focus walk_at "hp"))
  | (refine L2.Rx.Kp.at0 (by assumption) ?_; walk_at "hp")
  | (refine L2.Rx.Kp.at1 (by assumption) ?_ ?_; (focus walk_at "ne"); (focus walk_at "hp")))
local macro_rules | `(tactic| walk_at "ne") => `(tactic| first
  | assumption | exact Ne.symm (by assumption)
  | (refine L2.ne_of_none (H := ?nH) (o := ?nO) ?nh ?nn; (case nn => assumption); (case nh => walk_at "hp"))
  | (refine Ne.symm (L2.ne_of_none (H := ?nH) (o := ?nO) ?nh ?nn); (case nn => assumption); (case nh => walk_at "hp")))
local macro_rules | `(tactic| walk_at "len") => `(tactic| (rw [PySem.sizeLine_eq]; omega))
local macro_rules | `(tactic| walk_at "nin") => `(tactic| first
  | exact List.not_mem_nil
  | (refine L2.Rx.nin1 ?_; walk_at "ne"))
local macro_rules | `(tactic| walk_at "none") => `(tactic| first
  | assumption
  | (refine L2.Rx.Kp.none0 (by assumption) ?_ ?_; (focus walk_at "nin"); (focus walk_at "none")))
namespace L2.Ro
open PySem PySem.Spec PyProof.Rows L2.Rx
/-- the constants of the two modules -/
structure Gz (mg : Str → Option Value) : Prop where
  longest_cell : ∃ t, mg "LONGEST_CELL" = some (.int 8 t)
  largest_value : ∃ t, mg "LARGEST_VALUE" = some (.int 1000000000 t)
  most_nodes : ∃ t, mg "MOST_NODES" = some (.int 60 t)
  most_leaves : ∃ t, mg "MOST_LEAVES" = some (.int 300 t)
def cellD : PyData → Bool
  | .str c => cellB c
  | _ => false
def sp_is_cell : Sp := fun vs H Q _ => ∃ (v : V) (d : PyData) (S : List Addr), vs = [v] ∧ Dg H S v d ∧ gd d = true ∧ ∀ H', Kp [] H H' → Q (.bl (cellD d)) H'
theorem sign_lo (x : Nat) : (!decide ((⟨#[x]⟩ : Str).cps.toList < (Str.ofString "a").cps.toList)) = decide (97 ≤ x) := by
  have e : (Str.ofString "a").cps.toList = [97] := by decide +kernel
  rw [e]
  show (!decide ([x] < [97])) = _
  have e2 : ([x] < [97]) ↔ x < 97 := by simp [List.cons_lt_cons_iff]
  rw [Bool.eq_iff_iff]
  simp [e2]
theorem sign_hi (x : Nat) : (!decide ((Str.ofString "z").cps.toList < (⟨#[x]⟩ : Str).cps.toList)) = decide (x ≤ 122) := by
  have e : (Str.ofString "z").cps.toList = [122] := by decide +kernel
  rw [e]
  show (!decide ([122] < [x])) = _
  have e2 : ([122] < [x]) ↔ 122 < x := by simp [List.cons_lt_cons_iff]
  rw [Bool.eq_iff_iff]
  simp [e2]
def signB (x : Nat) : Bool := decide (97 ≤ x) && decide (x ≤ 122)
theorem all_map_id (f : Nat → Bool) (l : List Nat) : (l.map f).all id = l.all f := by
  rw [List.all_map]
  rfl
section
variable {P : Program} {w : World} {K : PySem.W.Frag} {mg : Str → Option Value} {base : Heap}
theorem k_is_cell {f : Addr} {fd : FuncData} (F : Fun K "is_cell" "is_cell" s_is_cell f fd) (g : mg "is_cell" = some (.ref f)) (z : Zb mg) (gz : Gz mg)  : FnG P w K mg base CX0 1 f fd ["thing"] sp_is_cell := by
  refine fnG_body F sc_is_cell (fun vs H Q E h => ?_) (fun cdv A outer s H vs Q E hr h => ?_)
  · obtain ⟨v, d, S, rfl, _⟩ := h
    rfl
  · obtain ⟨v, d, S, rfl, hd, hg, q⟩ := h
    refine ⟨_, PSs.nox (pss_cons (ps_if (PW.pt (pw_or (pt_not (pt_val (pe_callB (show CallR _ _ (rIsi K) from call_isi) (by rfl) z.n_isinstance (by decide +kernel) (pa_cons (pv 0) (pa_cons (pe_bltn (v := .ty "str") (by rfl) z.n_str (by decide +kernel) rfl) pa_nil))))) (pw_or1 (pt_not (pt_chain op_le op_le pe_int (pe_callB c_lenS (by rfl) z.n_len (by decide +kernel) (pa_cons (pv 0) pa_nil)) (pe_glob (v := V.int 8) (by rfl) gz.longest_cell.choose_spec ⟨_, rfl⟩))))))
        (pss_one (ps_ret pe_bl))
        pss_nil)
      (pss_one (ps_ret (pe_callB (show CallR _ _ (rAll K) from (cr_all rfl)) (by rfl) z.n_all (by decide +kernel) (pa_cons (pe_lc (own := [("sign", 1)]) (g := (gName 1)) (by rfl) sc_is_cell.nd (pi_str (pv 0)) (blkOk_by (own := [("sign", 1)]) (N := ["thing", "sign"]) (sc := defScope s_is_cell) (by decide +kernel)) (fun _ _ _ _ _ => (pg_name (i := 1) sc_is_cell.nd rfl (.inl rfl))) (fun _ _ _ _ _ => pts_nil) (fun _ _ _ _ _ => (pe_chain op_le_str op_le_str pe_str (pv 1) pe_str))) pa_nil))))), ?_⟩
    walk_at "rd"
    refine r_isG hd (kit_str d) ?_
    walk_at "rd"
    refine r_itb (fun e => ?_) (fun e => ?_)
    · walk_at "rd"
      have := q H Kp.refl
      cases d <;> first | exact this | cases e
    obtain ⟨c, rfl⟩ : ∃ c, d = .str c := by
      cases d <;> first | exact ⟨_, rfl⟩ | cases e
    obtain rfl := dg_str hd
    rw [gd, Bool.and_eq_true, decide_eq_true_eq] at hg
    have hl := hg.2
    have q' : ∀ (b : Bool) (H' : Hp), cellB c = b → Kp [] H H' → Q (.bl b) H' := fun b H' e k => by
      rw [← e]
      exact q H' k
    walk_at "rd"
    refine r_ite (fun h1 => ?_) (fun h1 => ?_)
    · walk_at "rd"
      refine r_itn (fun h2 => ?_) (fun h2 => ?_)
      · walk_at "rd"
        refine q' _ _ ?_ Kp.refl
        rw [cellB, decide_eq_false h2, Bool.false_and, Bool.and_false]
      · walk_at "rd"
        refine r_var rfl ⟨c, rfl, ?_⟩
        intro D nD
        have lz : c.cps.size = c.cps.toList.length := by simp
        refine lc_it (walk_str (z := c)) (PvL D (fun i acc H' => acc = ((c.cps.toList.take i).map signB).map V.bl ∧ Kp [] H H')) ⟨[], upd_same, Nat.le_refl _, rfl, Kp.new nD⟩ (fun _ _ _ _ => True.intro) (fun i x H9 H9' hi ⟨acc, ea, la, eacc, kp9⟩ y => ?_) (fun H9 ⟨acc, ea, la, eacc, kp9⟩ => ?_)
        · obtain ⟨rfl, s, hs, rfl⟩ := y
          have hs' : c.cps.toList[i]? = some s := by
            rw [Array.getElem?_toList]
            exact hs
          walk_at "rd"
          refine ⟨_, _, rfl, rfl, ?_⟩
          rw [sign_lo]
          walk_at "rd"
          have hil : i < 1000 := by
            have : c.length = c.cps.size := rfl
            omega
          have fin : ∀ b, signB s = b → ∃ acc, H9' D = some (.lst acc) ∧ acc.length < sizeLine ∧ PvL D (fun i acc H' => acc = ((c.cps.toList.take i).map signB).map V.bl ∧ Kp [] H H') (i + 1) (upd H9' D (.lst (acc ++ [.bl b]))) := fun b e => by
            refine PvL.step ea la (by omega) ⟨?_, kp9.new0 nD⟩
            rw [List.take_add_one, hs', List.map_append, List.map_append, eacc, ← e]
            rfl
          refine r_ite (fun h3 => ?_) (fun h3 => ?_)
          · walk_at "rd"
            refine ⟨_, _, rfl, rfl, ?_⟩
            rw [sign_hi]
            exact fin _ (by rw [signB, decide_eq_true h3, Bool.true_and])
          · exact fin _ (by rw [signB, decide_eq_false h3, Bool.false_and])
        · rw [List.take_of_length_le (by omega)] at eacc
          refine ⟨D, c.cps.toList.map signB, rfl, .inl (.inl (ea.trans (by rw [eacc]))), ?_⟩
          walk_at "rd"
          refine q' _ _ ?_ kp9
          rw [cellB, decide_eq_true h1, decide_eq_true h2, Bool.true_and, Bool.true_and, all_map_id]
          rfl
    · walk_at "rd"
      refine q' _ _ ?_ Kp.refl
      rw [cellB, decide_eq_false h1, Bool.false_and]
end
end L2.Ro

end
section
set_option Elab.async false
set_option linter.all false
set_option maxRecDepth 100000
set_option maxHeartbeats 4000000
local macro_rules | `(tactic| walk_at "rd1") => `(tactic| with_reducible first
  | refine L2.Rx.r_seq ?_ | refine L2.Rx.r_asg ?_ | refine L2.Rx.r_gname ?_ | refine L2.Rx.r_op ?_ | refine L2.Rx.r_c ?_
  | refine L2.Rx.r_var rfl ?_
  | refine L2.Rx.r_rI0 ?_ | refine L2.Rx.r_test ?_ | refine L2.Rx.r_bl ?_ | refine L2.Rx.r_if ?_ | refine L2.Rx.r_ret ?_
  | refine L2.Rx.r_cons ?_ | refine L2.Rx.r_nil ?_ | refine L2.Rx.r_call ?_ | refine L2.Rx.r_cb ?_ | refine L2.Rx.r_next ?_ | refine L2.Rx.r_drop ?_
  | refine L2.Rx.r_gsub ?_ | refine L2.Rx.r_tupF ?_ | refine L2.Rx.r_lst ?_ | refine L2.Rx.r_par ?_ | refine L2.Rx.r_par2 ?_
  | refine L2.Rx.r_un ?_ | refine L2.Rx.r_tb ?_ | refine L2.Rx.r_and ?_ | refine L2.Rx.r_or ?_ | refine L2.Rx.r_not ?_
  | refine L2.Rx.r_andV ?_ | refine L2.Rx.r_orV ?_ | refine L2.Rx.r_notV ?_ | refine L2.Rx.r_ifx ?_ | refine L2.Rx.r_chain ?_
  | refine L2.Rx.r_sl ?_ | refine L2.Rx.r_nopart ?_ | refine L2.Rx.r_part ?_ | refine L2.Rx.r_exint ?_ | refine L2.Rx.r_bm0 ?_ | refine L2.Rx.r_bm ?_
  | refine L2.Rx.r_lc ?_ | refine L2.Rx.r_rng1 ?_ | refine L2.Rx.r_yes ?_ | refine L2.Rx.r_tt ?_ | refine L2.Rx.r_ff ?_ | refine L2.Rx.r_m1 ?_ | refine L2.Rx.r_m0 ?_ | refine L2.Rx.r_isS ?_
  | (refine L2.Rx.r_wipe (by with_unfolding_all rfl) ?_) | (refine L2.Rx.r_tyL (by walk_at "hp") ?_)
  | refine L2.Rx.r_addS (by walk_at "len") ?_ | refine L2.Rx.r_lenS (by walk_at "len") ?_ | refine L2.Rx.r_slS (by walk_at "len") ?_
  | refine L2.Rx.r_dnotin ?_ | refine L2.Rx.r_dget ?_ | refine L2.Rx.r_dget1 ?_ | refine L2.Rx.r_dput ?_ | refine L2.Rx.r_dpop1 ?_ | refine L2.Rx.r_isN ?_
  | refine L2.Rx.r_for ?_ | refine L2.Rx.r_ilist ?_ | refine L2.Rx.r_itup ?_
  | refine L2.Rx.r_gcons ?_ | refine L2.Rx.r_gnil ?_ | (refine L2.Rx.r_gtupP (by assumption) (by walk_at "at") ?_)
  | (refine L2.Rx.r_rEq rfl ?_) | (refine L2.Rx.r_rNe rfl ?_)
  | refine L2.Rx.r_rU ?_ | refine L2.Rx.r_max2 ?_ | refine L2.Rx.r_min2 ?_ | refine L2.Rx.r_int1i ?_ | (refine L2.Rx.r_lenh (by walk_at "hp") ?_)
  | (refine L2.Rx.r_ixLh (by walk_at "hp") (by walk_at "at") ?_)
  | (refine L2.Rx.r_setL (by walk_at "hp") (by walk_at "at") ?_))
local macro_rules | `(tactic| walk_at "at") => `(tactic| with_unfolding_all rfl)
local macro_rules | `(tactic| walk_at "rd") => `(tactic| (repeat walk_at "rd1"))
local macro_rules | `(tactic| walk_at "hp") => `(tactic| first
  | assumption
  | exact L2.upd_same
  | (refine Eq.trans (L2.upd_ne ?_) ?_; (focus walk_at "ne"); (focus walk_at "hp"))
  | (refine L2.Rx.Kp.at0 (by assumption) ?_; walk_at "hp")
  | (refine L2.Rx.Kp.at1 (by assumption) ?_ ?_; (focus walk_at "ne"); (focus walk_at "hp")))
local macro_rules | `(tactic| walk_at "ne") => `(tactic| first
  | assumption | exact Ne.symm (by assumption)
  | (refine L2.ne_of_none (H := ?nH) (o := ?nO) ?nh ?nn; (case nn => assumption); (case nh => walk_at "hp"))
  | (refine Ne.symm (L2.ne_of_none (H := ?nH) (o := ?nO) ?nh ?nn); (case nn => assumption); (case nh => walk_at "hp")))
local macro_rules | `(tactic| walk_at "len") => `(tactic| (rw [PySem.sizeLine_eq]; omega))
local macro_rules | `(tactic| walk_at "nin") => `(tactic| first
  | exact List.not_mem_nil
  | (refine L2.Rx.nin1 ?_; walk_at "ne"))
local macro_rules | `(tactic| walk_at "none") => `(tactic| first
  | assumption
  | (refine L2.Rx.Kp.none0 (by assumption) ?_ ?_; (focus walk_at "nin"); (focus walk_at "none")))
namespace L2.Ro
open PySem PySem.Spec PyProof.Rows L2.Rx
def intD : PyData → Bool
  | .int _ => true
  | _ => false
def sp_is_integer : Sp := fun vs H Q _ => ∃ (v : V) (d : PyData) (S : List Addr), vs = [v] ∧ Dg H S v d ∧ Q (.bl (intD d)) H
section
variable {P : Program} {w : World} {K : PySem.W.Frag} {mg : Str → Option Value} {base : Heap}
theorem k_is_integer {f : Addr} {fd : FuncData} (F : Fun K "is_integer" "is_integer" s_is_integer f fd) (g : mg "is_integer" = some (.ref f)) (z : Zb mg)   : FnG P w K mg base CX0 1 f fd ["thing"] sp_is_integer := by
  refine fnG_body F sc_is_integer (fun vs H Q E h => ?_) (fun cdv A outer s H vs Q E hr h => ?_)
  · obtain ⟨v, d, S, rfl, _⟩ := h
    rfl
  · obtain ⟨v, d, S, rfl, hd, q⟩ := h
    refine ⟨_, PSs.nox (pss_one (ps_ret (pe_and (pe_callB (show CallR _ _ (rIsi K) from call_isi) (by rfl) z.n_isinstance (by decide +kernel) (pa_cons (pv 0) (pa_cons (pe_bltn (v := .ty "int") (by rfl) z.n_int (by decide +kernel) rfl) pa_nil))) (pe_one (pe_not (pe_callB (show CallR _ _ (rIsi K) from call_isi) (by rfl) z.n_isinstance (by decide +kernel) (pa_cons (pv 0) (pa_cons (pe_bltn (v := .ty "bool") (by rfl) z.n_bool (by decide +kernel) rfl) pa_nil)))))))), ?_⟩
    walk_at "rd"
    refine r_isG hd (kit_int d) ?_
    walk_at "rd"
    refine r_itb (fun e => ?_) (fun e => ?_)
    · walk_at "rd"
      refine r_isG hd (kit_bool d) ?_
      walk_at "rd"
      cases d <;> first | exact q | cases e
    · cases d <;> first | exact q | cases e
end
end L2.Ro

end
section
set_option Elab.async false
set_option linter.all false
set_option maxRecDepth 100000
set_option maxHeartbeats 4000000
local macro_rules | `(tactic| walk_at "rd1") => `(tactic| with_reducible first
  | refine L2.Rx.r_seq ?_ | refine L2.Rx.r_asg ?_ | refine L2.Rx.r_gname ?_ | refine L2.Rx.r_op ?_ | refine L2.Rx.r_c ?_
  | refine L2.Rx.r_var rfl ?_
  | refine L2.Rx.r_rI0 ?_ | refine L2.Rx.r_test ?_ | refine L2.Rx.r_bl ?_ | refine L2.Rx.r_if ?_ | refine L2.Rx.r_ret ?_
  | refine L2.Rx.r_cons ?_ | refine L2.Rx.r_nil ?_ | refine L2.Rx.r_call ?_ | refine L2.Rx.r_cb ?_ | refine L2.Rx.r_next ?_ | refine L2.Rx.r_drop ?_
  | refine L2.Rx.r_gsub ?_ | refine L2.Rx.r_tupF ?_ | refine L2.Rx.r_lst ?_ | refine L2.Rx.r_par ?_ | refine L2.Rx.r_par2 ?_
  | refine L2.Rx.r_un ?_ | refine L2.Rx.r_tb ?_ | refine L2.Rx.r_and ?_ | refine L2.Rx.r_or ?_ | refine L2.Rx.r_not ?_
  | refine L2.Rx.r_andV ?_ | refine L2.Rx.r_orV ?_ | refine L2.Rx.r_notV ?_ | refine L2.Rx.r_ifx ?_ | refine L2.Rx.r_chain ?_
  | refine L2.Rx.r_sl ?_ | refine L2.Rx.r_nopart ?_ | refine L2.Rx.r_part ?_ | refine L2.Rx.r_exint ?_ | refine L2.Rx.r_bm0 ?_ | refine L2.Rx.r_bm ?_
  | refine L2.Rx.r_lc ?_ | refine L2.Rx.r_rng1 ?_ | refine L2.Rx.r_yes ?_ | refine L2.Rx.r_tt ?_ | refine L2.Rx.r_ff ?_ | refine L2.Rx.r_m1 ?_ | refine L2.Rx.r_m0 ?_ | refine L2.Rx.r_isS ?_
  | (refine L2.Rx.r_wipe (by with_unfolding_all rfl) ?_) | (refine L2.Rx.r_tyL (by walk_at "hp") ?_)
  | refine L2.Rx.r_addS (by walk_at "len") ?_ | refine L2.Rx.r_lenS (by walk_at "len") ?_ | refine L2.Rx.r_slS (by walk_at "len") ?_
  | refine L2.Rx.r_dnotin ?_ | refine L2.Rx.r_dget ?_ | refine L2.Rx.r_dget1 ?_ | refine L2.Rx.r_dput ?_ | refine L2.Rx.r_dpop1 ?_ | refine L2.Rx.r_isN ?_
  | refine L2.Rx.r_for ?_ | refine L2.Rx.r_ilist ?_ | refine L2.Rx.r_itup ?_
  | refine L2.Rx.r_gcons ?_ | refine L2.Rx.r_gnil ?_ | (refine L2.Rx.r_gtupP (by assumption) (by walk_at "at") ?_)
  | (refine L2.Rx.r_rEq rfl ?_) | (refine L2.Rx.r_rNe rfl ?_)
  | refine L2.Rx.r_rU ?_ | refine L2.Rx.r_max2 ?_ | refine L2.Rx.r_min2 ?_ | refine L2.Rx.r_int1i ?_ | (refine L2.Rx.r_lenh (by walk_at "hp") ?_)
  | (refine L2.Rx.r_ixLh (by walk_at "hp") (by walk_at "at") ?_)
  | (refine L2.Rx.r_setL (by walk_at "hp") (by walk_at "at") ?_))
local macro_rules | `(tactic| walk_at "at") => `(tactic| with_unfolding_all rfl)
local macro_rules | `(tactic| walk_at "rd") => `(tactic| (repeat walk_at "rd1"))
local macro_rules | `(tactic| walk_at "hp") => `(tactic| first
  | assumption
  | exact L2.upd_same
  | (refine Eq.trans (L2.upd_ne ?_) ?_; (focus walk_at "ne"); (focus walk_at "hp"))
  | (refine L2.Rx.Kp.at0 (by assumption) ?_; walk_at "hp")
  | (refine L2.Rx.Kp.at1 (by assumption) ?_ ?_; (focus walk_at "ne"); (focus walk_at "hp")))
local macro_rules | `(tactic| walk_at "ne") => `(tactic| first
  | assumption | exact Ne.symm (by assumption)
  | (refine L2.ne_of_none (H := ?nH) (o := ?nO) ?nh ?nn; (case nn => assumption); (case nh => walk_at "hp"))
  | (refine Ne.symm (L2.ne_of_none (H := ?nH) (o := ?nO) ?nh ?nn); (case nn => assumption); (case nh => walk_at "hp")))
local macro_rules | `(tactic| walk_at "len") => `(tactic| (rw [PySem.sizeLine_eq]; omega))
local macro_rules | `(tactic| walk_at "nin") => `(tactic| first
  | exact List.not_mem_nil
  | (refine L2.Rx.nin1 ?_; walk_at "ne"))
local macro_rules | `(tactic| walk_at "none") => `(tactic| first
  | assumption
  | (refine L2.Rx.Kp.none0 (by assumption) ?_ ?_; (focus walk_at "nin"); (focus walk_at "none")))
namespace L2.Ro
open PySem PySem.Spec PyProof.Rows L2.Rx
def valD : PyData → Bool
  | .int i => valB i
  | _ => false
def sp_is_value : Sp := fun vs H Q _ => ∃ (v : V) (d : PyData) (S : List Addr), vs = [v] ∧ Dg H S v d ∧ Q (.bl (valD d)) H
section
variable {P : Program} {w : World} {K : PySem.W.Frag} {mg : Str → Option Value} {base : Heap}
theorem k_is_value {f : Addr} {fd : FuncData} (F : Fun K "is_value" "is_value" s_is_value f fd) (g : mg "is_value" = some (.ref f)) (z : Zb mg) (gz : Gz mg) (k_is_integer : Kn P w K mg base CX0 1 "is_integer" sp_is_integer)  : FnG P w K mg base CX0 2 f fd ["thing"] sp_is_value := by
  refine fnG_body F sc_is_value (fun vs H Q E h => ?_) (fun cdv A outer s H vs Q E hr h => ?_)
  · obtain ⟨v, d, S, rfl, _⟩ := h
    rfl
  · obtain ⟨v, d, S, rfl, hd, q⟩ := h
    refine ⟨_, PSs.nox (pss_one (ps_ret (pe_and (k_is_integer.call hr (by decide) (by rfl) (pa_cons (pv 0) pa_nil)) (pe_one (pe_chain op_le op_le pe_int (pv 0) (pe_glob (v := V.int 1000000000) (by rfl) gz.largest_value.choose_spec ⟨_, rfl⟩)))))), ?_⟩
    walk_at "rd"
    refine ⟨v, d, S, rfl, hd, ?_⟩
    walk_at "rd"
    refine r_itb (fun e => ?_) (fun e => ?_)
    · obtain ⟨i, rfl⟩ : ∃ i, d = .int i := by
        cases d <;> first | exact ⟨_, rfl⟩ | cases e
      obtain rfl := dg_int hd
      walk_at "rd"
      refine r_ite (fun h1 => ?_) (fun h1 => ?_)
      · walk_at "rd"
        rw [valD, valB, decide_eq_true h1, Bool.true_and] at q
        exact q
      · rw [valD, valB, decide_eq_false h1, Bool.false_and] at q
        exact q
    · cases d <;> first | exact q | cases e
end
end L2.Ro

end
section
set_option Elab.async false
set_option linter.all false
set_option maxRecDepth 100000
set_option maxHeartbeats 4000000
local macro_rules | `(tactic| walk_at "rd1") => `(tactic| with_reducible first
  | refine L2.Rx.r_seq ?_ | refine L2.Rx.r_asg ?_ | refine L2.Rx.r_gname ?_ | refine L2.Rx.r_op ?_ | refine L2.Rx.r_c ?_
  | refine L2.Rx.r_var rfl ?_
  | refine L2.Rx.r_rI0 ?_ | refine L2.Rx.r_test ?_ | refine L2.Rx.r_bl ?_ | refine L2.Rx.r_if ?_ | refine L2.Rx.r_ret ?_
  | refine L2.Rx.r_cons ?_ | refine L2.Rx.r_nil ?_ | refine L2.Rx.r_call ?_ | refine L2.Rx.r_cb ?_ | refine L2.Rx.r_next ?_ | refine L2.Rx.r_drop ?_
  | refine L2.Rx.r_gsub ?_ | refine L2.Rx.r_tupF ?_ | refine L2.Rx.r_lst ?_ | refine L2.Rx.r_par ?_ | refine L2.Rx.r_par2 ?_
  | refine L2.Rx.r_un ?_ | refine L2.Rx.r_tb ?_ | refine L2.Rx.r_and ?_ | refine L2.Rx.r_or ?_ | refine L2.Rx.r_not ?_
  | refine L2.Rx.r_andV ?_ | refine L2.Rx.r_orV ?_ | refine L2.Rx.r_notV ?_ | refine L2.Rx.r_ifx ?_ | refine L2.Rx.r_chain ?_
  | refine L2.Rx.r_sl ?_ | refine L2.Rx.r_nopart ?_ | refine L2.Rx.r_part ?_ | refine L2.Rx.r_exint ?_ | refine L2.Rx.r_bm0 ?_ | refine L2.Rx.r_bm ?_
  | refine L2.Rx.r_lc ?_ | refine L2.Rx.r_rng1 ?_ | refine L2.Rx.r_yes ?_ | refine L2.Rx.r_tt ?_ | refine L2.Rx.r_ff ?_ | refine L2.Rx.r_m1 ?_ | refine L2.Rx.r_m0 ?_ | refine L2.Rx.r_isS ?_
  | (refine L2.Rx.r_wipe (by with_unfolding_all rfl) ?_) | (refine L2.Rx.r_tyL (by walk_at "hp") ?_)
  | refine L2.Rx.r_addS (by walk_at "len") ?_ | refine L2.Rx.r_lenS (by walk_at "len") ?_ | refine L2.Rx.r_slS (by walk_at "len") ?_
  | refine L2.Rx.r_dnotin ?_ | refine L2.Rx.r_dget ?_ | refine L2.Rx.r_dget1 ?_ | refine L2.Rx.r_dput ?_ | refine L2.Rx.r_dpop1 ?_ | refine L2.Rx.r_isN ?_
  | refine L2.Rx.r_for ?_ | refine L2.Rx.r_ilist ?_ | refine L2.Rx.r_itup ?_
  | refine L2.Rx.r_gcons ?_ | refine L2.Rx.r_gnil ?_ | (refine L2.Rx.r_gtupP (by assumption) (by walk_at "at") ?_)
  | (refine L2.Rx.r_rEq rfl ?_) | (refine L2.Rx.r_rNe rfl ?_)
  | refine L2.Rx.r_rU ?_ | refine L2.Rx.r_max2 ?_ | refine L2.Rx.r_min2 ?_ | refine L2.Rx.r_int1i ?_ | (refine L2.Rx.r_lenh (by walk_at "hp") ?_)
  | (refine L2.Rx.r_ixLh (by walk_at "hp") (by walk_at "at") ?_)
  | (refine L2.Rx.r_setL (by walk_at "hp") (by walk_at "at") ?_))
local macro_rules | `(tactic| walk_at "at") => `(tactic| with_unfolding_all rfl)
local macro_rules | `(tactic| walk_at "rd") => `(tactic| (repeat walk_at "rd1"))
local macro_rules | `(tactic| walk_at "hp") => `(tactic| first
  | assumption
  | exact L2.upd_same
  | (refine Eq.trans (L2.upd_ne ?_) ?_; (focus walk_at "ne"); (focus walk_at "hp"))
  | (refine L2.Rx.Kp.at0 (by assumption) ?_; walk_at "hp")
  | (refine L2.Rx.Kp.at1 (by assumption) ?_ ?_; (focus walk_at "ne"); (focus walk_at "hp")))
local macro_rules | `(tactic| walk_at "ne") => `(tactic| first
  | assumption | exact Ne.symm (by assumption)
  | (refine L2.ne_of_none (H := ?nH) (o := ?nO) ?nh ?nn; (case nn => assumption); (case nh => walk_at "hp"))
  | (refine Ne.symm (L2.ne_of_none (H := ?nH) (o := ?nO) ?nh ?nn); (case nn => assumption); (case nh => walk_at "hp")))
local macro_rules | `(tactic| walk_at "len") => `(tactic| (rw [PySem.sizeLine_eq]; omega))
local macro_rules | `(tactic| walk_at "nin") => `(tactic| first
  | exact List.not_mem_nil
  | (refine L2.Rx.nin1 ?_; walk_at "ne"))
local macro_rules | `(tactic| walk_at "none") => `(tactic| first
  | assumption
  | (refine L2.Rx.Kp.none0 (by assumption) ?_ ?_; (focus walk_at "nin"); (focus walk_at "none")))
namespace L2.Ro
open PySem PySem.Spec PyProof.Rows L2.Rx
def sp_is_branch : Sp := fun vs H Q _ => ∃ (v : V) (d : PyData) (S : List Addr), vs = [v] ∧ Dg H S v d ∧ Q (.bl (brB d)) H
section
variable {P : Program} {w : World} {K : PySem.W.Frag} {mg : Str → Option Value} {base : Heap}
theorem k_is_branch {f : Addr} {fd : FuncData} (F : Fun K "is_branch" "is_branch" s_is_branch f fd) (g : mg "is_branch" = some (.ref f)) (z : Zb mg) (gz : Gz mg) (k_is_value : Kn P w K mg base CX0 2 "is_value" sp_is_value)   : Kn P w K mg base CX0 3 "is_branch" sp_is_branch := by
  refine ⟨f, fd, ["thing"], fnG_body F sc_is_branch (fun vs H Q E h => ?_) (fun cdv A outer s H vs Q E hr h => ?_), g, F.kp, F.binds (fun _ _ _ _ _ _ us hl => match us, hl with | [_], _ => rfl)⟩
  · obtain ⟨v, d, S, rfl, _⟩ := h
    rfl
  · obtain ⟨v, d, S, rfl, hd, q⟩ := h
    refine ⟨_, PSs.nox (pss_one (ps_ret (pe_and (pe_callB (show CallR _ _ (rIsi K) from call_isi) (by rfl) z.n_isinstance (by decide +kernel) (pa_cons (pv 0) (pa_cons (pe_bltn (v := .ty "tuple") (by rfl) z.n_tuple (by decide +kernel) rfl) pa_nil))) (pe_and (pe_cmpR op_eq (pe_callB (show CallR _ _ (rLenQ K) from c_len) (by rfl) z.n_len (by decide +kernel) (pa_cons (pv 0) pa_nil)) pe_int (nomark _)) (pe_one (k_is_value.call hr (by decide) (by rfl) (pa_cons (pe_ix (show IxR _ (rIxT K) from ix_tup) (pv 0) pe_int (fun _ _ => rfl)) pa_nil))))))), ?_⟩
    walk_at "rd"
    refine r_isG hd (kit_tup d) ?_
    walk_at "rd"
    refine r_itb (fun e => ?_) (fun e => ?_)
    · obtain ⟨ds, rfl⟩ : ∃ ds, d = .tuple ds := by
        cases d <;> first | exact ⟨_, rfl⟩ | cases e
      obtain ⟨a, xs, rfl, ha, dx⟩ := dg_tup hd
      have lx := dgAll_len dx
      walk_at "rd"
      refine r_len (.inr (.inl ha)) ?_
      walk_at "rd"
      refine r_ite (fun h1 => ?_) (fun h1 => ?_)
      · have l2 : ds.length = 2 := by
          have := V.int.inj h1
          omega
        match ds, l2 with
        | [d1, d2], _ =>
          obtain ⟨v1, _, rfl, g1, dx⟩ := dg_cons dx
          obtain ⟨v2, _, rfl, g2, dx⟩ := dg_cons dx
          obtain rfl := dg_nil dx
          walk_at "rd"
          refine r_ixT (.inl ha) (by with_unfolding_all rfl) ?_
          walk_at "rd"
          refine ⟨v1, d1, S, rfl, g1, ?_⟩
          walk_at "rd"
          cases d1 <;> exact q
      · have l2 : ds.length ≠ 2 := fun z => h1 (by rw [lx, z]; rfl)
        match ds, l2 with
        | [], _ => exact q
        | [d1], _ => cases d1 <;> exact q
        | [d1, d2], l => exact absurd rfl l
        | d1 :: d2 :: d3 :: r, _ => cases d1 <;> exact q
    · cases d <;> first | exact q | cases e
end
end L2.Ro

end
section
set_option Elab.async false
set_option linter.all false
set_option maxRecDepth 100000
set_option maxHeartbeats 4000000
local macro_rules | `(tactic| walk_at "rd1") => `(tactic| with_reducible first
  | refine L2.Rx.r_seq ?_ | refine L2.Rx.r_asg ?_ | refine L2.Rx.r_gname ?_ | refine L2.Rx.r_op ?_ | refine L2.Rx.r_c ?_
  | refine L2.Rx.r_var rfl ?_
  | refine L2.Rx.r_rI0 ?_ | refine L2.Rx.r_test ?_ | refine L2.Rx.r_bl ?_ | refine L2.Rx.r_if ?_ | refine L2.Rx.r_ret ?_
  | refine L2.Rx.r_cons ?_ | refine L2.Rx.r_nil ?_ | refine L2.Rx.r_call ?_ | refine L2.Rx.r_cb ?_ | refine L2.Rx.r_next ?_ | refine L2.Rx.r_drop ?_
  | refine L2.Rx.r_gsub ?_ | refine L2.Rx.r_tupF ?_ | refine L2.Rx.r_lst ?_ | refine L2.Rx.r_par ?_ | refine L2.Rx.r_par2 ?_
  | refine L2.Rx.r_un ?_ | refine L2.Rx.r_tb ?_ | refine L2.Rx.r_and ?_ | refine L2.Rx.r_or ?_ | refine L2.Rx.r_not ?_
  | refine L2.Rx.r_andV ?_ | refine L2.Rx.r_orV ?_ | refine L2.Rx.r_notV ?_ | refine L2.Rx.r_ifx ?_ | refine L2.Rx.r_chain ?_
  | refine L2.Rx.r_sl ?_ | refine L2.Rx.r_nopart ?_ | refine L2.Rx.r_part ?_ | refine L2.Rx.r_exint ?_ | refine L2.Rx.r_bm0 ?_ | refine L2.Rx.r_bm ?_
  | refine L2.Rx.r_lc ?_ | refine L2.Rx.r_rng1 ?_ | refine L2.Rx.r_yes ?_ | refine L2.Rx.r_tt ?_ | refine L2.Rx.r_ff ?_ | refine L2.Rx.r_m1 ?_ | refine L2.Rx.r_m0 ?_ | refine L2.Rx.r_isS ?_
  | (refine L2.Rx.r_wipe (by with_unfolding_all rfl) ?_) | (refine L2.Rx.r_tyL (by walk_at "hp") ?_)
  | refine L2.Rx.r_addS (by walk_at "len") ?_ | refine L2.Rx.r_lenS (by walk_at "len") ?_ | refine L2.Rx.r_slS (by walk_at "len") ?_
  | refine L2.Rx.r_dnotin ?_ | refine L2.Rx.r_dget ?_ | refine L2.Rx.r_dget1 ?_ | refine L2.Rx.r_dput ?_ | refine L2.Rx.r_dpop1 ?_ | refine L2.Rx.r_isN ?_
  | refine L2.Rx.r_for ?_ | refine L2.Rx.r_ilist ?_ | refine L2.Rx.r_itup ?_
  | refine L2.Rx.r_gcons ?_ | refine L2.Rx.r_gnil ?_ | (refine L2.Rx.r_gtupP (by assumption) (by walk_at "at") ?_)
  | (refine L2.Rx.r_rEq rfl ?_) | (refine L2.Rx.r_rNe rfl ?_)
  | refine L2.Rx.r_rU ?_ | refine L2.Rx.r_max2 ?_ | refine L2.Rx.r_min2 ?_ | refine L2.Rx.r_int1i ?_ | (refine L2.Rx.r_lenh (by walk_at "hp") ?_)
  | (refine L2.Rx.r_ixLh (by walk_at "hp") (by walk_at "at") ?_)
  | (refine L2.Rx.r_setL (by walk_at "hp") (by walk_at "at") ?_))
local macro_rules | `(tactic| walk_at "at") => `(tactic| with_unfolding_all rfl)
local macro_rules | `(tactic| walk_at "rd") => `(tactic| (repeat walk_at "rd1"))
local macro_rules | `(tactic| walk_at "hp") => `(tactic| first
  | assumption
  | exact L2.upd_same
  | (refine Eq.trans (L2.upd_ne ?_) ?_; (focus walk_at "ne"); (focus walk_at "hp"))
  | (refine L2.Rx.Kp.at0 (by assumption) ?_; walk_at "hp")
  | (refine L2.Rx.Kp.at1 (by assumption) ?_ ?_; (focus walk_at "ne"); (focus walk_at "hp")))
local macro_rules | `(tactic| walk_at "ne") => `(tactic| first
  | assumption | exact Ne.symm (by assumption)
  | (refine L2.ne_of_none (H := ?nH) (o := ?nO) ?nh ?nn; (case nn => assumption); (case nh => walk_at "hp"))
  | (refine Ne.symm (L2.ne_of_none (H := ?nH) (o := ?nO) ?nh ?nn); (case nn => assumption); (case nh => walk_at "hp")))
local macro_rules | `(tactic| walk_at "len") => `(tactic| (rw [PySem.sizeLine_eq]; omega))
local macro_rules | `(tactic| walk_at "nin") => `(tactic| first
  | exact List.not_mem_nil
  | (refine L2.Rx.nin1 ?_; walk_at "ne"))
local macro_rules | `(tactic| walk_at "none") => `(tactic| first
  | assumption
  | (refine L2.Rx.Kp.none0 (by assumption) ?_ ?_; (focus walk_at "nin"); (focus walk_at "none")))
namespace L2.Ro
open PySem PySem.Spec PyProof.Rows L2.Rx
def sp_is_ascending (K : PySem.W.Frag) : Sp := fun vs H Q _ => ∃ (a : Addr) (ns : List Int), vs = [.ref a] ∧ SqL K H a (ns.map V.int) ∧ ns.length ≤ 900000 ∧ ∀ H', Kp [] H H' → Q (.bl (ascB ns)) H'
theorem cutV_from (xs : List V) : ∀ n : Nat, cutV xs (some (n : Int)) none = xs.drop n := fun n => by
  unfold cutV
  rw [HT.sIx_nat, HT.sIx_none]
  by_cases h : n ≤ xs.length
  · rw [Nat.min_eq_left h, List.take_of_length_le (by rw [List.length_drop]; omega)]
  · rw [Nat.min_eq_right (by omega), List.drop_of_length_le (Nat.le_refl _), List.drop_of_length_le (by omega), List.take_nil]
theorem asc_zip : ∀ ns : List Int, ((ns.zip ns.tail).all fun p => decide (p.1 < p.2)) = ascB ns
  | [] => rfl
  | x :: r => by
    show ((x :: r).zip r).all _ = ascF x r
    induction r generalizing x with
    | nil => rfl
    | cons y r ih => rw [List.zip_cons_cons, List.all_cons, ih y, ascF]
section
variable {P : Program} {w : World} {K : PySem.W.Frag} {mg : Str → Option Value} {base : Heap}
theorem k_is_ascending {f : Addr} {fd : FuncData} (F : Fun K "is_ascending" "is_ascending" s_is_ascending f fd) (g : mg "is_ascending" = some (.ref f)) (z : Zb mg)   : FnG P w K mg base CX0 1 f fd ["items"] (sp_is_ascending K) := by
  refine fnG_body F sc_is_ascending (fun vs H Q E h => ?_) (fun cdv A outer s H vs Q E hr h => ?_)
  · obtain ⟨a, ns, rfl, _⟩ := h
    rfl
  · obtain ⟨a, ns, rfl, hs, hl, q⟩ := h
    refine ⟨_, PSs.nox (pss_one (ps_ret (pe_callB (show CallR _ _ (rAll K) from (cr_all rfl)) (by rfl) z.n_all (by decide +kernel) (pa_cons (pe_lc (own := [("item", 1), ("after", 2)]) (g := (gTup K 2 (gCons (gName 1) (gCons (gName 2) gNil)))) (by rfl) sc_is_ascending.nd (pi_zip (by rfl) z.n_zip (pa_cons (pv 0) (pa_cons (pe_slice (show SlR _ (rSlL K) from sl_list) (pv 0) (po_some pe_int) po_none) pa_nil))) (blkOk_by (own := [("item", 1), ("after", 2)]) (N := ["items", "item", "after"]) (sc := defScope s_is_ascending) (by decide +kernel)) (fun _ _ _ _ _ => (show PG _ _ (gTup K 2 (gCons (gName 1) (gCons (gName 2) gNil))) from pg_tup rfl (pgs_cons (pg_name (i := 1) sc_is_ascending.nd rfl (.inl rfl)) (pgs_cons (pg_name (i := 2) sc_is_ascending.nd rfl (.inl rfl)) pgs_nil)))) (fun _ _ _ _ _ => pts_nil) (fun _ _ _ _ _ => (pe_cmpR op_lt (pv 1) (pv 2) (nomark _)))) pa_nil)))), ?_⟩
    walk_at "rd"
    refine r_cons (r_var rfl (r_cons (r_sl (r_var rfl ?_))))
    walk_at "rd"
    refine ⟨a, _, rfl, hs, fun p np => ?_⟩
    have ct : cutV (ns.map V.int) (some 1) none = (ns.tail).map V.int := by
      have := cutV_from (ns.map V.int) 1
      rw [show (1 : Int) = ((1 : Nat) : Int) from rfl, this]
      cases ns <;> rfl
    rw [ct]
    refine gen_new np fun H1 kp1 hp => ?_
    refine r_nil ⟨a, p, _, _, rfl, kp_sqL kp1 (by simp) hs, .inl (.inl hp), ?_⟩
    intro D nD
    refine lc_it (walk_zip (K := K) (a := a) (b := p) (xs := ns.map V.int) (ys := ns.tail.map V.int) rfl) (PvL D (fun i acc H' => acc = (((ns.zip ns.tail).take i).map fun p => decide (p.1 < p.2)).map V.bl ∧ Kp [] H1 H')) ⟨[], upd_same, Nat.le_refl _, rfl, Kp.new nD⟩ (fun i H9 hi ⟨acc, ea, la, eacc, kp9⟩ => ⟨kp_sqL (kp1.trans kp9) (by simp) hs, .inl (.inl (kp9.at0 hp))⟩) (fun i x H9 H9' hi ⟨acc, ea, la, eacc, kp9⟩ y => ?_) (fun H9 ⟨acc, ea, la, eacc, kp9⟩ => ?_)
    · obtain ⟨T, u, w, rfl, nT, rfl, hu, hw⟩ := y
      replace hu : (ns.map V.int)[i]? = some u := hu
      replace hw : (ns.tail.map V.int)[i]? = some w := hw
      rw [List.getElem?_map] at hu hw
      obtain ⟨x1, e1, rfl⟩ := Option.map_eq_some_iff.mp hu
      obtain ⟨x2, e2, rfl⟩ := Option.map_eq_some_iff.mp hw
      refine gen_new nT fun H10 kp10 hT => ?_
      refine r_gtupS (.inl (.inl hT)) rfl ?_
      walk_at "rd"
      have hi1 : i < 1000000 := by
        have := (List.getElem?_eq_some_iff.mp e1).1
        omega
      refine PvL.step (kp10.at0 ea) la (by omega) ⟨?_, (kp9.trans kp10).new0 nD⟩
      rw [List.take_add_one, show (ns.zip ns.tail)[i]? = some (x1, x2) from List.getElem?_zip_eq_some.mpr ⟨e1, e2⟩, List.map_append, List.map_append, eacc]
      rfl
    · rw [List.take_of_length_le (by rw [List.length_zip, List.length_map, List.length_map]; exact Nat.le_refl _)] at eacc
      refine ⟨D, (ns.zip ns.tail).map fun p => decide (p.1 < p.2), rfl, .inl (.inl (ea.trans (by rw [eacc]))), ?_⟩
      rw [List.all_map]
      have := asc_zip ns
      have q1 := q H9 (kp1.trans kp9)
      rw [← this] at q1
      exact q1
end
end L2.Ro

end
section
set_option Elab.async false
set_option linter.all false
set_option maxRecDepth 100000
set_option maxHeartbeats 4000000
local macro_rules | `(tactic| walk_at "rd1") => `(tactic| with_reducible first
  | refine L2.Rx.r_seq ?_ | refine L2.Rx.r_asg ?_ | refine L2.Rx.r_gname ?_ | refine L2.Rx.r_op ?_ | refine L2.Rx.r_c ?_
  | refine L2.Rx.r_var rfl ?_
  | refine L2.Rx.r_rI0 ?_ | refine L2.Rx.r_test ?_ | refine L2.Rx.r_bl ?_ | refine L2.Rx.r_if ?_ | refine L2.Rx.r_ret ?_
  | refine L2.Rx.r_cons ?_ | refine L2.Rx.r_nil ?_ | refine L2.Rx.r_call ?_ | refine L2.Rx.r_cb ?_ | refine L2.Rx.r_next ?_ | refine L2.Rx.r_drop ?_
  | refine L2.Rx.r_gsub ?_ | refine L2.Rx.r_tupF ?_ | refine L2.Rx.r_lst ?_ | refine L2.Rx.r_par ?_ | refine L2.Rx.r_par2 ?_
  | refine L2.Rx.r_un ?_ | refine L2.Rx.r_tb ?_ | refine L2.Rx.r_and ?_ | refine L2.Rx.r_or ?_ | refine L2.Rx.r_not ?_
  | refine L2.Rx.r_andV ?_ | refine L2.Rx.r_orV ?_ | refine L2.Rx.r_notV ?_ | refine L2.Rx.r_ifx ?_ | refine L2.Rx.r_chain ?_
  | refine L2.Rx.r_sl ?_ | refine L2.Rx.r_nopart ?_ | refine L2.Rx.r_part ?_ | refine L2.Rx.r_exint ?_ | refine L2.Rx.r_bm0 ?_ | refine L2.Rx.r_bm ?_
  | refine L2.Rx.r_lc ?_ | refine L2.Rx.r_rng1 ?_ | refine L2.Rx.r_yes ?_ | refine L2.Rx.r_tt ?_ | refine L2.Rx.r_ff ?_ | refine L2.Rx.r_m1 ?_ | refine L2.Rx.r_m0 ?_ | refine L2.Rx.r_isS ?_
  | (refine L2.Rx.r_wipe (by with_unfolding_all rfl) ?_) | (refine L2.Rx.r_tyL (by walk_at "hp") ?_)
  | refine L2.Rx.r_addS (by walk_at "len") ?_ | refine L2.Rx.r_lenS (by walk_at "len") ?_ | refine L2.Rx.r_slS (by walk_at "len") ?_
  | refine L2.Rx.r_dnotin ?_ | refine L2.Rx.r_dget ?_ | refine L2.Rx.r_dget1 ?_ | refine L2.Rx.r_dput ?_ | refine L2.Rx.r_dpop1 ?_ | refine L2.Rx.r_isN ?_
  | refine L2.Rx.r_for ?_ | refine L2.Rx.r_ilist ?_ | refine L2.Rx.r_itup ?_
  | refine L2.Rx.r_gcons ?_ | refine L2.Rx.r_gnil ?_ | (refine L2.Rx.r_gtupP (by assumption) (by walk_at "at") ?_)
  | (refine L2.Rx.r_rEq rfl ?_) | (refine L2.Rx.r_rNe rfl ?_)
  | refine L2.Rx.r_rU ?_ | refine L2.Rx.r_max2 ?_ | refine L2.Rx.r_min2 ?_ | refine L2.Rx.r_int1i ?_ | (refine L2.Rx.r_lenh (by walk_at "hp") ?_)
  | (refine L2.Rx.r_ixLh (by walk_at "hp") (by walk_at "at") ?_)
  | (refine L2.Rx.r_setL (by walk_at "hp") (by walk_at "at") ?_))
local macro_rules | `(tactic| walk_at "at") => `(tactic| with_unfolding_all rfl)
local macro_rules | `(tactic| walk_at "rd") => `(tactic| (repeat walk_at "rd1"))
local macro_rules | `(tactic| walk_at "hp") => `(tactic| first
  | assumption
  | exact L2.upd_same
  | (refine Eq.trans (L2.upd_ne ?_) ?_; (focus walk_at "ne"); (focus walk_at "hp"))
  | (refine L2.Rx.Kp.at0 (by assumption) ?_; walk_at "hp")
  | (refine L2.Rx.Kp.at1 (by assumption) ?_ ?_; (focus walk_at "ne"); (focus walk_at "hp")))
local macro_rules | `(tactic| walk_at "ne") => `(tactic| first
  | assumption | exact Ne.symm (by assumption)
  | (refine L2.ne_of_none (H := ?nH) (o := ?nO) ?nh ?nn; (case nn => assumption); (case nh => walk_at "hp"))
  | (refine Ne.symm (L2.ne_of_none (H := ?nH) (o := ?nO) ?nh ?nn); (case nn => assumption); (case nh => walk_at "hp")))
local macro_rules | `(tactic| walk_at "len") => `(tactic| (rw [PySem.sizeLine_eq]; omega))
local macro_rules | `(tactic| walk_at "nin") => `(tactic| first
  | exact List.not_mem_nil
  | (refine L2.Rx.nin1 ?_; walk_at "ne"))
local macro_rules | `(tactic| walk_at "none") => `(tactic| first
  | assumption
  | (refine L2.Rx.Kp.none0 (by assumption) ?_ ?_; (focus walk_at "nin"); (focus walk_at "none")))
namespace L2.Ro
open PySem PySem.Spec PyProof.Rows L2.Rx
def brsB : PyData → Bool
  | .tuple bs => !bs.isEmpty && (bs.all brB && ascB (bs.map brV))
  | _ => false
theorem nodeB2 (d1 d2 : PyData) : nodeB (.tuple [d1, d2]) = (cellD d1 && brsB d2) := by
  cases d1 <;> cases d2 <;> simp [nodeB, cellD, brsB]
theorem nodeB_len {ds : List PyData} (h : ds.length ≠ 2) : nodeB (.tuple ds) = false := by
  match ds, h with
  | [], _ => rfl
  | [d1], _ => cases d1 <;> rfl
  | [_, _], h => exact absurd rfl h
  | d1 :: d2 :: _ :: _, _ => cases d1 <;> cases d2 <;> rfl
theorem len_wts : ∀ ds : List PyData, 2 * ds.length ≤ wts ds
  | [] => by rw [wts]; decide
  | d :: ds => by
    have := len_wts ds
    rw [wts, List.length_cons]
    omega
theorem wt_mem {d : PyData} : ∀ {ds : List PyData}, d ∈ ds → wt d ≤ wts ds
  | [], h => by cases h
  | e :: ds, h => by
    rw [wts]
    rcases List.mem_cons.mp h with q | q
    · subst q; omega
    · have := wt_mem q; omega
def sp_is_node : Sp := fun vs H Q _ => ∃ (v : V) (d : PyData) (S : List Addr), vs = [v] ∧ Dg H S v d ∧ gd d = true ∧ wt d ≤ 1000000 ∧ ∀ H', Kp [] H H' → Q (.bl (nodeB d)) H'
theorem brB_shape {b : PyData} (h : brB b = true) : ∃ v t, b = .tuple [.int v, t] := by
  unfold brB at h
  split at h
  · exact ⟨_, _, rfl⟩
  · cases h
section
variable {P : Program} {w : World} {K : PySem.W.Frag} {mg : Str → Option Value} {base : Heap}
theorem k_is_node {f : Addr} {fd : FuncData} (F : Fun K "is_node" "is_node" s_is_node f fd) (g : mg "is_node" = some (.ref f)) (z : Zb mg) (gz : Gz mg) (k_is_cell : Kn P w K mg base CX0 1 "is_cell" sp_is_cell) (k_is_branch : Kn P w K mg base CX0 3 "is_branch" sp_is_branch) (k_is_ascending : Kn P w K mg base CX0 1 "is_ascending" (sp_is_ascending K))  : Kn P w K mg base CX0 4 "is_node" sp_is_node := by
  refine ⟨f, fd, ["thing"], fnG_body F sc_is_node (fun vs H Q E h => ?_) (fun cdv A outer s H vs Q E hr h => ?_), g, F.kp, F.binds (fun _ _ _ _ _ _ us hl => match us, hl with | [_], _ => rfl)⟩
  · obtain ⟨v, d, S, rfl, _⟩ := h
    rfl
  · obtain ⟨v, d, S, rfl, hd, hg, hw, q⟩ := h
    refine ⟨_, PSs.nox (pss_cons (ps_if (PW.pt (pw_or (pt_not (pt_val (pe_callB (show CallR _ _ (rIsi K) from call_isi) (by rfl) z.n_isinstance (by decide +kernel) (pa_cons (pv 0) (pa_cons (pe_bltn (v := .ty "tuple") (by rfl) z.n_tuple (by decide +kernel) rfl) pa_nil))))) (pw_or1 (pt_cmpR op_ne (pe_callB (show CallR _ _ (rLenQ K) from c_len) (by rfl) z.n_len (by decide +kernel) (pa_cons (pv 0) pa_nil)) pe_int (nomark _)))))
        (pss_one (ps_ret pe_bl))
        pss_nil)
      (pss_cons (ps_asg (pv 0) (show PG _ _ (gTup K 2 _) from pg_tup rfl (pgs_cons (pg_name (i := 1) sc_is_node.nd rfl (.inl rfl)) (pgs_cons (pg_name (i := 2) sc_is_node.nd rfl (.inl rfl)) pgs_nil))))
      (pss_cons (ps_if (PW.pt (pw_or (pt_not (pt_val (k_is_cell.call hr (by decide) (by rfl) (pa_cons (pv 1) pa_nil)))) (pw_or (pt_not (pt_val (pe_callB (show CallR _ _ (rIsi K) from call_isi) (by rfl) z.n_isinstance (by decide +kernel) (pa_cons (pv 2) (pa_cons (pe_bltn (v := .ty "tuple") (by rfl) z.n_tuple (by decide +kernel) rfl) pa_nil))))) (pw_or1 (pt_cmpR op_eq (pe_callB (show CallR _ _ (rLenQ K) from c_len) (by rfl) z.n_len (by decide +kernel) (pa_cons (pv 2) pa_nil)) pe_int (nomark _))))))
        (pss_one (ps_ret pe_bl))
        pss_nil)
      (pss_cons (ps_if (pt_not (pt_val (pe_callB (show CallR _ _ (rAll K) from (cr_all rfl)) (by rfl) z.n_all (by decide +kernel) (pa_cons (pe_lc (own := [("branch", 3)]) (g := (gName 3)) (by rfl) sc_is_node.nd (show PI _ _ _ (iTup K _) from pi_tup (pv 2)) (blkOk_by (own := [("branch", 3)]) (N := ["thing", "cell", "branches", "branch", "value", "below"]) (sc := defScope s_is_node) (by decide +kernel)) (fun _ _ _ _ _ => (pg_name (i := 3) sc_is_node.nd rfl (.inl rfl))) (fun _ _ _ _ _ => pts_nil) (fun _ _ _ _ _ => (k_is_branch.call hr (by decide) (by rfl) (pa_cons (pv 3) pa_nil)))) pa_nil))))
        (pss_one (ps_ret pe_bl))
        pss_nil)
      (pss_one (ps_ret (k_is_ascending.call hr (by decide) (by rfl) (pa_cons (pe_lc (own := [("value", 4), ("below", 5)]) (g := (gTup K 2 (gCons (gName 4) (gCons (gName 5) gNil)))) (by rfl) sc_is_node.nd (show PI _ _ _ (iTup K _) from pi_tup (pv 2)) (blkOk_by (own := [("value", 4), ("below", 5)]) (N := ["thing", "cell", "branches", "branch", "value", "below"]) (sc := defScope s_is_node) (by decide +kernel)) (fun _ _ _ _ _ => (show PG _ _ (gTup K 2 (gCons (gName 4) (gCons (gName 5) gNil))) from pg_tup rfl (pgs_cons (pg_name (i := 4) sc_is_node.nd rfl (.inl rfl)) (pgs_cons (pg_name (i := 5) sc_is_node.nd rfl (.inl rfl)) pgs_nil)))) (fun _ _ _ _ _ => pts_nil) (fun _ _ _ _ _ => (pv 4))) pa_nil)))))))), ?_⟩
    have no : ∀ (H' : Hp), nodeB d = false → Kp [] H H' → Q (.bl false) H' := fun H' e k => by
      rw [← e]
      exact q H' k
    walk_at "rd"
    refine r_isG hd (kit_tup d) ?_
    walk_at "rd"
    refine r_itb (fun e => ?_) (fun e => ?_)
    · walk_at "rd"
      refine no _ ?_ Kp.refl
      cases d <;> first | rfl | cases e
    obtain ⟨ds, rfl⟩ : ∃ ds, d = .tuple ds := by
      cases d <;> first | exact ⟨_, rfl⟩ | cases e
    obtain ⟨a, xs, rfl, ha, dx⟩ := dg_tup hd
    have lx := dgAll_len dx
    walk_at "rd"
    refine r_len (.inr (.inl ha)) ?_
    walk_at "rd"
    refine r_itn (fun h1 => ?_) (fun h1 => ?_)
    · walk_at "rd"
      refine no _ (nodeB_len fun z => h1 (by rw [lx, z]; rfl)) Kp.refl
    have l2 : ds.length = 2 := by
      have := V.int.inj h1
      omega
    obtain ⟨d1, d2, rfl⟩ : ∃ d1 d2, ds = [d1, d2] := match ds, l2 with
      | [d1, d2], _ => ⟨d1, d2, rfl⟩
    obtain ⟨v1, _, rfl, g1, dx⟩ := dg_cons dx
    obtain ⟨v2, _, rfl, g2, dx⟩ := dg_cons dx
    obtain rfl := dg_nil dx
    rw [gd, gds, gds, gds, Bool.and_eq_true, Bool.and_true] at hg
    rw [wt, wts, wts, wts] at hw
    walk_at "rd"
    refine r_gtupS (.inl ha) rfl ?_
    walk_at "rd"
    refine ⟨v1, d1, S, rfl, g1, hg.1, fun H1 k1 => ?_⟩
    walk_at "rd"
    refine r_itb (fun e1 => ?_) (fun e1 => ?_)
    · walk_at "rd"
      refine no _ ?_ k1
      rw [nodeB2]
      have : cellD d1 = false := by simpa using e1
      rw [this, Bool.false_and]
    have e1' : cellD d1 = true := by simpa using e1
    walk_at "rd"
    refine r_isG (g2.keep0 k1) (kit_tup d2) ?_
    walk_at "rd"
    refine r_itb (fun e2 => ?_) (fun e2 => ?_)
    · walk_at "rd"
      refine no _ ?_ k1
      rw [nodeB2, e1', Bool.true_and]
      cases d2 <;> first | rfl | cases e2
    obtain ⟨bs, rfl⟩ : ∃ bs, d2 = .tuple bs := by
      cases d2 <;> first | exact ⟨_, rfl⟩ | cases e2
    obtain ⟨a2, ys, rfl, ha2, dy⟩ := dg_tup g2
    have ly := dgAll_len dy
    have lb : bs.length ≤ 900000 := by
      have := len_wts bs
      rw [wt] at hw
      omega
    walk_at "rd"
    refine r_len (.inr (.inl (rd_keep0 ha2 k1))) ?_
    walk_at "rd"
    have nb : nodeB (.tuple [d1, .tuple bs]) = (!bs.isEmpty && (bs.all brB && ascB (bs.map brV))) := by rw [nodeB2, e1', Bool.true_and]; rfl
    refine r_ite (fun h2 => ?_) (fun h2 => ?_)
    · walk_at "rd"
      refine no _ ?_ k1
      have : bs = [] := by
        have := V.int.inj h2
        exact List.length_eq_zero_iff.mp (by omega)
      rw [nb, this]
      rfl
    have bne : bs.isEmpty = false := by
      cases bs with
      | nil => exact absurd (by rw [ly]; rfl) h2
      | cons b r => rfl
    walk_at "rd"
    refine r_walkT (.inl (rd_keep0 ha2 k1)) ?_
    intro D nD
    refine lc_tup (K := K) (a := a2) (xs := ys) (PvL D (fun i acc H' => acc = ((bs.take i).map brB).map V.bl ∧ Kp [] H1 H')) ⟨[], upd_same, Nat.le_refl _, rfl, Kp.new nD⟩ (fun i H9 hi ⟨acc, ea, la, eacc, kp9⟩ => .inl (rd_keep0 ha2 (k1.trans kp9))) (fun i x H9 hx ⟨acc, ea, la, eacc, kp9⟩ => ?_) (fun H9 ⟨acc, ea, la, eacc, kp9⟩ => ?_)
    · obtain ⟨b, hb, db⟩ := dy.at hx
      walk_at "rd"
      refine ⟨x, b, S, rfl, db.keep0 (k1.trans kp9), ?_⟩
      have hi1 : i < 1000000 := by
        have := (List.getElem?_eq_some_iff.mp hb).1
        omega
      refine PvL.step ea la (by omega) ⟨?_, kp9.new0 nD⟩
      rw [List.take_add_one, hb, List.map_append, List.map_append, eacc]
      rfl
    rw [List.take_of_length_le (by omega)] at eacc
    refine ⟨D, bs.map brB, rfl, .inl (.inl (ea.trans (by rw [eacc]))), ?_⟩
    have eall : (bs.map brB).all id = bs.all brB := by
      rw [List.all_map]
      rfl
    rw [eall]
    walk_at "rd"
    refine r_itb (fun e3 => ?_) (fun e3 => ?_)
    · walk_at "rd"
      refine no _ ?_ (k1.trans kp9)
      have : bs.all brB = false := by simpa using e3
      rw [nb, this, Bool.false_and, Bool.and_false]
    have e3' : bs.all brB = true := by simpa using e3
    walk_at "rd"
    refine r_walkT (.inl (rd_keep0 ha2 (k1.trans kp9))) ?_
    intro D2 nD2
    refine lc_tup (K := K) (a := a2) (xs := ys) (PvL D2 (fun i acc H' => acc = ((bs.take i).map brV).map V.int ∧ Kp [] H9 H')) ⟨[], upd_same, Nat.le_refl _, rfl, Kp.new nD2⟩ (fun i H10 hi ⟨acc, ea, la, eacc, kp10⟩ => .inl (rd_keep0 ha2 ((k1.trans kp9).trans kp10))) (fun i x H10 hx ⟨acc, ea, la, eacc, kp10⟩ => ?_) (fun H10 ⟨acc2, ea2, la2, eacc2, kp10⟩ => ?_)
    · obtain ⟨b, hb, db⟩ := dy.at hx
      have hbm : b ∈ bs := List.mem_of_getElem? hb
      obtain ⟨vb, tb, rfl⟩ := brB_shape (List.all_eq_true.mp e3' b hbm)
      obtain ⟨ba, bx, rfl, hba, dbx⟩ := dg_tup db
      obtain ⟨u1, _, rfl, du1, dbx⟩ := dg_cons dbx
      obtain ⟨u2, _, rfl, du2, dbx⟩ := dg_cons dbx
      obtain rfl := dg_nil dbx
      obtain rfl := dg_int du1
      refine r_gtupS (.inl (rd_keep0 hba ((k1.trans kp9).trans kp10))) rfl ?_
      walk_at "rd"
      have hi1 : i < 1000000 := by
        have := (List.getElem?_eq_some_iff.mp hb).1
        omega
      refine PvL.step ea la (by omega) ⟨?_, kp10.new0 nD2⟩
      rw [List.take_add_one, hb, List.map_append, List.map_append, eacc]
      rfl
    rw [List.take_of_length_le (by omega)] at eacc2
    walk_at "rd"
    refine ⟨D2, bs.map brV, rfl, .inl (.inl (ea2.trans (by rw [eacc2]))), by rw [List.length_map]; omega, fun H11 k11 => ?_⟩
    walk_at "rd"
    have fin := q H11 (((k1.trans kp9).trans kp10).trans k11)
    rw [nb, bne, e3', Bool.true_and, Bool.not_false, Bool.true_and] at fin
    exact fin
end
end L2.Ro

end
section
set_option Elab.async false
set_option linter.all false
set_option maxRecDepth 100000
set_option maxHeartbeats 4000000
local macro_rules | `(tactic| walk_at "rd1") => `(tactic| with_reducible first
  | refine L2.Rx.r_seq ?_ | refine L2.Rx.r_asg ?_ | refine L2.Rx.r_gname ?_ | refine L2.Rx.r_op ?_ | refine L2.Rx.r_c ?_
  | refine L2.Rx.r_var rfl ?_
  | refine L2.Rx.r_rI0 ?_ | refine L2.Rx.r_test ?_ | refine L2.Rx.r_bl ?_ | refine L2.Rx.r_if ?_ | refine L2.Rx.r_ret ?_
  | refine L2.Rx.r_cons ?_ | refine L2.Rx.r_nil ?_ | refine L2.Rx.r_call ?_ | refine L2.Rx.r_cb ?_ | refine L2.Rx.r_next ?_ | refine L2.Rx.r_drop ?_
  | refine L2.Rx.r_gsub ?_ | refine L2.Rx.r_tupF ?_ | refine L2.Rx.r_lst ?_ | refine L2.Rx.r_par ?_ | refine L2.Rx.r_par2 ?_
  | refine L2.Rx.r_un ?_ | refine L2.Rx.r_tb ?_ | refine L2.Rx.r_and ?_ | refine L2.Rx.r_or ?_ | refine L2.Rx.r_not ?_
  | refine L2.Rx.r_andV ?_ | refine L2.Rx.r_orV ?_ | refine L2.Rx.r_notV ?_ | refine L2.Rx.r_ifx ?_ | refine L2.Rx.r_chain ?_
  | refine L2.Rx.r_sl ?_ | refine L2.Rx.r_nopart ?_ | refine L2.Rx.r_part ?_ | refine L2.Rx.r_exint ?_ | refine L2.Rx.r_bm0 ?_ | refine L2.Rx.r_bm ?_
  | refine L2.Rx.r_lc ?_ | refine L2.Rx.r_rng1 ?_ | refine L2.Rx.r_yes ?_ | refine L2.Rx.r_tt ?_ | refine L2.Rx.r_ff ?_ | refine L2.Rx.r_m1 ?_ | refine L2.Rx.r_m0 ?_ | refine L2.Rx.r_isS ?_
  | (refine L2.Rx.r_wipe (by with_unfolding_all rfl) ?_) | (refine L2.Rx.r_tyL (by walk_at "hp") ?_)
  | refine L2.Rx.r_addS (by walk_at "len") ?_ | refine L2.Rx.r_lenS (by walk_at "len") ?_ | refine L2.Rx.r_slS (by walk_at "len") ?_
  | refine L2.Rx.r_dnotin ?_ | refine L2.Rx.r_dget ?_ | refine L2.Rx.r_dget1 ?_ | refine L2.Rx.r_dput ?_ | refine L2.Rx.r_dpop1 ?_ | refine L2.Rx.r_isN ?_
  | refine L2.Rx.r_for ?_ | refine L2.Rx.r_ilist ?_ | refine L2.Rx.r_itup ?_
  | refine L2.Rx.r_gcons ?_ | refine L2.Rx.r_gnil ?_ | (refine L2.Rx.r_gtupP (by assumption) (by walk_at "at") ?_)
  | (refine L2.Rx.r_rEq rfl ?_) | (refine L2.Rx.r_rNe rfl ?_)
  | refine L2.Rx.r_rU ?_ | refine L2.Rx.r_max2 ?_ | refine L2.Rx.r_min2 ?_ | refine L2.Rx.r_int1i ?_ | (refine L2.Rx.r_lenh (by walk_at "hp") ?_)
  | (refine L2.Rx.r_ixLh (by walk_at "hp") (by walk_at "at") ?_)
  | (refine L2.Rx.r_setL (by walk_at "hp") (by walk_at "at") ?_))
local macro_rules | `(tactic| walk_at "at") => `(tactic| with_unfolding_all rfl)
local macro_rules | `(tactic| walk_at "rd") => `(tactic| (repeat walk_at "rd1"))
local macro_rules | `(tactic| walk_at "hp") => `(tactic| first
  | assumption
  | exact L2.upd_same
  | (refine Eq.trans (L2.upd_ne ?_) ?_; (focus walk_at "ne"); (focus walk_at "hp"))
  | (refine L2.Rx.Kp.at0 (by assumption) ?_; walk_at "hp")
  | (refine L2.Rx.Kp.at1 (by assumption) ?_ ?_; (focus walk_at "ne"); (focus walk_at "hp")))
local macro_rules | `(tactic| walk_at "ne") => `(tactic| first
  | assumption | exact Ne.symm (by assumption)
  | (refine L2.ne_of_none (H := ?nH) (o := ?nO) ?nh ?nn; (case nn => assumption); (case nh => walk_at "hp"))
  | (refine Ne.symm (L2.ne_of_none (H := ?nH) (o := ?nO) ?nh ?nn); (case nn => assumption); (case nh => walk_at "hp")))
local macro_rules | `(tactic| walk_at "len") => `(tactic| (rw [PySem.sizeLine_eq]; omega))
local macro_rules | `(tactic| walk_at "nin") => `(tactic| first
  | exact List.not_mem_nil
  | (refine L2.Rx.nin1 ?_; walk_at "ne"))
local macro_rules | `(tactic| walk_at "none") => `(tactic| first
  | assumption
  | (refine L2.Rx.Kp.none0 (by assumption) ?_ ?_; (focus walk_at "nin"); (focus walk_at "none")))
namespace L2.Ro
open PySem PySem.Spec PyProof.Rows L2.Rx
/-- how deep the two sides look -/
abbrev nVd : Nat := 40
abbrev Wi : Type := Nat × PyData × List Str
def wiD (x : Wi) : PyData := .tuple [x.2.1, .tuple (x.2.2.map PyData.str)]
def wiB (x : Wi) : Bool := (vd x.1 x.2.1 x.2.2).isSome
def wiW (wt' : List Wi) : Nat := (wt'.map fun x => wt x.2.1 + 2).sum
def wiT (wt' : List Wi) : Nat := (wt'.map fun x => tl x.2.1).sum
structure WiOk (x : Wi) : Prop where
  dp : x.2.1.depth ≤ x.1
  ab : x.1 + x.2.2.length ≤ 50
  g : gd x.2.1 = true
  w : wt x.2.1 ≤ 1000000
theorem wiW_app (a b : List Wi) : wiW (a ++ b) = wiW a + wiW b := by rw [wiW, List.map_append, List.sum_append]; rfl
theorem wiT_app (a b : List Wi) : wiT (a ++ b) = wiT a + wiT b := by rw [wiT, List.map_append, List.sum_append]; rfl
def wiOf (n : Nat) (ab : List Str) (bs : List PyData) : List Wi := bs.map fun b => (n, brT b, ab)
theorem wiW_of (n : Nat) (ab : List Str) : ∀ bs : List PyData, bs.all brB = true → wiW (wiOf n ab bs) ≤ wts bs
  | [], _ => Nat.zero_le _
  | b :: r, h => by
    rw [List.all_cons, Bool.and_eq_true] at h
    obtain ⟨v, t, rfl⟩ := brB_shape h.1
    have := wiW_of n ab r h.2
    have e : wiW (wiOf n ab (.tuple [.int v, t] :: r)) = wt t + 2 + wiW (wiOf n ab r) := by
      rw [wiOf, List.map_cons, wiW, List.map_cons, List.sum_cons]
      rfl
    rw [e, wts, wt, wts, wts, wts, wt]
    omega
theorem wiT_of (n : Nat) (ab : List Str) : ∀ bs : List PyData, bs.all brB = true → wiT (wiOf n ab bs) ≤ tls bs
  | [], _ => Nat.zero_le _
  | b :: r, h => by
    rw [List.all_cons, Bool.and_eq_true] at h
    obtain ⟨v, t, rfl⟩ := brB_shape h.1
    have := wiT_of n ab r h.2
    have e : wiT (wiOf n ab (.tuple [.int v, t] :: r)) = tl t + wiT (wiOf n ab r) := by
      rw [wiOf, List.map_cons, wiT, List.map_cons, List.sum_cons]
      rfl
    rw [e, tls, tl, tls, tls, tls, tl]
    omega
theorem wiLen (wt' : List Wi) : wt'.length ≤ wiW wt' := by
  induction wt' with
  | nil => exact Nat.zero_le _
  | cons x r ih =>
    rw [wiW, List.map_cons, List.sum_cons, List.length_cons]
    rw [wiW] at ih
    omega
theorem nodeB_shape {d : PyData} (h : nodeB d = true) : ∃ c bs, d = .tuple [.str c, .tuple bs] ∧ bs.isEmpty = false ∧ bs.all brB = true := by
  unfold nodeB at h
  split at h
  · rename_i c bs
    simp only [Bool.and_eq_true] at h
    exact ⟨c, bs, rfl, by simpa using h.2.1, h.2.2.1⟩
  · cases h
theorem strs_ok (ab : List Str) {H : Hp} {S : List Addr} : DgAll H S (ab.map V.str) (ab.map PyData.str) := by
  induction ab with
  | nil => exact .nil
  | cons c r ih => exact .cons (.str c) ih
theorem dg_strs {H : Hp} {S : List Addr} : ∀ {ab : List Str} {ys : List V}, DgAll H S ys (ab.map PyData.str) → ys = ab.map V.str
  | [], ys, h => dg_nil h
  | c :: r, ys, h => by
    obtain ⟨v, vs, rfl, a, b⟩ := dg_cons h
    rw [dg_str a, dg_strs b]
    rfl
def sp_is_reader : Sp := fun vs H Q _ => ∃ (v : V) (d : PyData) (S : List Addr), vs = [v] ∧ Dg H S v d ∧ gd d = true ∧ tl d ≤ 300 ∧ d.depth ≤ nVd ∧ wt d ≤ 400000 ∧ ∀ H', Kp [] H H' → Q (.bl (vd nVd d []).isSome) H'
theorem dgAll_split {H : Hp} {S : List Addr} : ∀ {ds es : List PyData} {ys : List V}, DgAll H S ys (ds ++ es) → ∃ y1 y2, ys = y1 ++ y2 ∧ DgAll H S y1 ds ∧ DgAll H S y2 es
  | [], es, ys, h => ⟨[], ys, rfl, .nil, h⟩
  | d :: ds, es, ys, h => by
    obtain ⟨v, vs, rfl, a, b⟩ := dg_cons h
    obtain ⟨y1, y2, rfl, c, e⟩ := dgAll_split b
    exact ⟨v :: y1, y2, rfl, .cons a c, e⟩
theorem r_catR {H : Hp} {Q : VK} {K : PySem.W.Frag} {a b : Addr} {xs ys : List V} (ha : Rd H a (.tup xs)) (hb : Rd H b (.tup ys)) (l : xs.length + ys.length ≤ 1000000) (h : ∀ (p : Addr) (H' : Hp), Kp [] H H' → Rd H' p (.tup (xs ++ ys)) → Q (.ref p) H') : rCatF K (.ref a) (.ref b) H Q := by
  refine ⟨a, b, xs, ys, rfl, rfl, .inl ha, .inl hb, by rw [sizeLine_eq]; omega, fun e => ?_, fun e e2 => ?_, fun e e2 p o np od => ?_⟩
  · refine h b H Kp.refl ?_
    rw [e]
    exact hb
  · refine h a H Kp.refl ?_
    rw [e2, List.append_nil]
    exact ha
  · exact h p _ (Kp.new np) (.inr ⟨o, upd_same⟩)
section
variable {P : Program} {w : World} {K : PySem.W.Frag} {mg : Str → Option Value} {base : Heap}
theorem k_is_reader0 {f : Addr} {fd : FuncData} (F : Fun K "is_reader" "is_reader" s_is_reader f fd) (g : mg "is_reader" = some (.ref f)) (z : Zb mg) (gz : Gz mg) (k_is_node : Kn P w K mg base CX0 4 "is_node" sp_is_node)  : FnG P w K mg base CX0 5 f fd ["thing"] sp_is_reader := by
  refine fnG_body F sc_is_reader (fun vs H Q E h => ?_) (fun cdv A outer s H vs Q E hr h => ?_)
  · obtain ⟨v, d, S, rfl, _⟩ := h
    rfl
  · obtain ⟨v, d, S, rfl, hd, hg, ht, hdp, hw, q⟩ := h
    refine ⟨_, PSs.nox (pss_cons (ps_set (i := 1) sc_is_reader.nd rfl (.inl rfl) (pe_lst (pa_cons (pe_tupF (pa_cons (pv 0) (pa_cons (pe_tupF pa_nil) pa_nil))) pa_nil)))
      (pss_cons (ps_set (i := 2) sc_is_reader.nd rfl (.inl rfl) pe_int)
      (pss_cons (ps_while PassesOwn.never (PW.pt (pw_and (pt_truth (pv 1) (by intro _; rfl)) (pw_and1 (pt_cmpR op_le (pv 2) (pe_glob (v := V.int 300) (by rfl) gz.most_leaves.choose_spec ⟨_, rfl⟩) (nomark _)))))
        (pss_cons (ps_asg (show PE _ _ (tBM0 K _ _ _) from pe_bm0 PySem.F.plainAttrs_list PySem.F.slot_list_pop PySem.F.type_list_pop mt_pop (pv 1)) (show PG _ _ (gTup K 2 _) from pg_tup rfl (pgs_cons (pg_name (i := 3) sc_is_reader.nd rfl (.inl rfl)) (pgs_cons (pg_name (i := 4) sc_is_reader.nd rfl (.inr rfl)) pgs_nil))))
        (pss_one (ps_if (pt_cmpR (show OpR _ _ rEqN from op_eqN hr) (pv 3) (pe_tupF pa_nil) (nomark _))
          (pss_one (ps_aug (i := 2) sc_is_reader.nd rfl (.inl rfl) pe_int ip_add))
          (pss_one (ps_if (PW.pt (pw_or (pt_not (pt_val (k_is_node.call hr (by decide) (by rfl) (pa_cons (pv 3) pa_nil)))) (pw_or (pt_cmpR (show OpR _ _ (rIn K false) from op_in_seq) (pe_ix (show IxR _ (rIxT K) from ix_tup) (pv 3) pe_int (fun _ _ => rfl)) (pv 4) (by rfl)) (pw_or1 (pt_cmpR op_eq (pe_callB (show CallR _ _ (rLenQ K) from c_len) (by rfl) z.n_len (by decide +kernel) (pa_cons (pv 4) pa_nil)) (pe_glob (v := V.int 60) (by rfl) gz.most_nodes.choose_spec ⟨_, rfl⟩) (nomark _))))))
            (pss_one (ps_ret pe_bl))
            (pss_cons (ps_asg (pv 3) (show PG _ _ (gTup K 2 _) from pg_tup rfl (pgs_cons (pg_name (i := 5) sc_is_reader.nd rfl (.inr rfl)) (pgs_cons (pg_name (i := 6) sc_is_reader.nd rfl (.inl rfl)) pgs_nil))))
            (pss_one (ps_expr (show PE _ _ (tBM K _ _ _ _) from pe_bm PySem.F.plainAttrs_list PySem.F.slot_list_extend PySem.F.type_list_extend mt_extend (pv 1) (pa_cons (pe_lc (own := [("value", 7), ("below", 8)]) (g := (gTup K 2 (gCons (gName 7) (gCons (gName 8) gNil)))) (by rfl) sc_is_reader.nd (show PI _ _ _ (iTup K _) from pi_tup (pv 6)) (blkOk_by (own := [("value", 7), ("below", 8)]) (N := ["thing", "waiting", "leaves", "part", "above", "cell", "branches", "value", "below"]) (sc := defScope s_is_reader) (by decide +kernel)) (fun _ _ _ _ _ => (show PG _ _ (gTup K 2 (gCons (gName 7) (gCons (gName 8) gNil))) from pg_tup rfl (pgs_cons (pg_name (i := 7) sc_is_reader.nd rfl (.inl rfl)) (pgs_cons (pg_name (i := 8) sc_is_reader.nd rfl (.inl rfl)) pgs_nil)))) (fun _ _ _ _ _ => pts_nil) (fun _ _ _ _ _ => (pe_tupF (pa_cons (pv 8) (pa_cons (pe_op (show OpR _ _ (rCatF K) from op_catF) (pv 4) (pe_tupF (pa_cons (pv 5) pa_nil))) pa_nil))))) pa_nil)))))))))))
      (pss_one (ps_ret (pe_cmpR op_le (pv 2) (pe_glob (v := V.int 300) (by rfl) gz.most_leaves.choose_spec ⟨_, rfl⟩) (nomark _))))))), ?_⟩
    walk_at "rd"
    refine r_newF rfl fun e0 oe0 ne0 oe0d => ?_
    refine gen_newT ne0 oe0d fun H1 kp1 he0 => ?_
    walk_at "rd"
    refine r_newF rfl fun e1 oe1 ne1 oe1d => ?_
    refine gen_newT ne1 oe1d fun H2 kp2 he1 => ?_
    walk_at "rd"
    refine r_new rfl (fun wa nwa => ?_)
    have hd2 : Dg H2 [wa] v d := (hd.keep0 (kp1.trans kp2)).sub fun a m => .inr (by rw [show a = wa by simpa using m]; exact nwa)
    refine gen_new nwa fun H3 kp3 hwa => ?_
    have nwaH : H wa = none := (kp1.trans kp2).none0 (by simp) nwa
    walk_at "rd"
    refine r_while ⟨fun m σ' H' => ∃ (wl : List Wi) (ws : List V) (lv : Nat) (a3 a4 a5 a6 a7 a8 : Option V), σ' = [some v, some (.ref wa), some (.int (lv : Int)), a3, a4, a5, a6, a7, a8] ∧ Kp [wa] H3 H' ∧ H' wa = some (.lst ws) ∧ DgAll H' [wa] ws (wl.map wiD) ∧
      (vd nVd d []).isSome = wl.all wiB ∧ lv + wiT wl ≤ 300 ∧ wiW wl ≤ 400002 ∧ (∀ x ∈ wl, WiOk x) ∧ m = wiW wl, ⟨_, [(nVd, d, [])], [.ref e1], 0, _, _, _, _, _, _, rfl, Kp.refl, hwa, ?_, ?_, ?_, ?_, ?_, rfl⟩, ?_⟩
    · exact .cons (.tup (rd_keep0 he1.rd kp3) (.cons (hd2.keep0 kp3) (.cons (.tup (he0.keep0 (kp2.trans kp3)).rd .nil) .nil))) .nil
    · rw [List.all_cons, List.all_nil, Bool.and_true]
      rfl
    · show 0 + (tl d + 0) ≤ 300
      omega
    · show wt d + 2 + 0 ≤ 400002
      omega
    · intro x hx
      have e : x = (nVd, d, []) := by simpa using hx
      subst e
      exact ⟨hdp, (by decide : nVd + 0 ≤ 50), hg, Nat.le_trans hw (by decide)⟩
    rintro m σ' H5 ⟨wl, ws, lv, a3, a4, a5, a6, a7, a8, rfl, kp5, hwa5, dw, eB, hT, hW, ok, rfl⟩
    have stop : ∀ (b : Bool) (H' : Hp), (vd nVd d []).isSome = b → Kp [wa] H5 H' → Q (.bl b) H' := fun b H' e k => by
      rw [← e]
      refine q H' (((kp1.trans kp2).trans kp3).dropT (kp5.trans k) fun a m => .inr ?_)
      rw [show a = wa by simpa using m]
      exact nwaH
    walk_at "rd"
    have ee : ws.isEmpty = (wl.map wiD).isEmpty := by
      have := dgAll_len dw
      cases ws <;> cases wl <;> first | rfl | simp at this
    refine ⟨_, .inl ⟨ws, .inl (.inl hwa5), rfl⟩, ?_⟩
    rw [ee]
    refine r_itb (fun hb => ?_) (fun hb => ?_)
    · walk_at "rd"
      refine r_ite (fun _ => ?_) (fun h => absurd (by omega) h)
      refine ⟨_, fun σ' H' h => h, ?_⟩
      obtain ⟨wl', x, rfl⟩ : ∃ wl' x, wl = wl' ++ [x] := by
        rcases List.eq_nil_or_concat wl with h | ⟨a, b, h⟩
        · rw [h] at hb
          cases hb
        · exact ⟨a, b, by rw [h, List.concat_eq_append]⟩
      rw [List.map_append] at dw
      obtain ⟨ws', w2, rfl, dw1, dw2⟩ := dgAll_split dw
      obtain ⟨w, _, rfl, dx, dn⟩ := dg_cons dw2
      obtain rfl := dg_nil dn
      obtain ⟨n, dd, ab⟩ := x
      obtain ⟨a, _, rfl, sa, da⟩ := dg_tup dx
      obtain ⟨vp, _, rfl, dp, da⟩ := dg_cons da
      obtain ⟨qv, _, rfl, dq, da⟩ := dg_cons da
      obtain rfl := dg_nil da
      obtain ⟨qa, qys, rfl, sq, dqs⟩ := dg_tup dq
      obtain rfl := dg_strs dqs
      have ix := ok (n, dd, ab) (List.mem_append_right _ (List.mem_cons_self ..))
      have ok' : ∀ x ∈ wl', WiOk x := fun x hx => ok x (List.mem_append_left _ hx)
      have ixdp : dd.depth ≤ n := ix.dp
      have ixab : n + ab.length ≤ 50 := ix.ab
      have ixg : gd dd = true := ix.g
      have ixw : wt dd ≤ 1000000 := ix.w
      rw [List.all_append, List.all_cons, List.all_nil, Bool.and_true] at eB
      have hT' : lv + (wiT wl' + (tl dd + 0)) ≤ 300 := by
        rw [wiT_app] at hT
        exact hT
      have eW : wiW (wl' ++ [(n, dd, ab)]) = wiW wl' + (wt dd + 2 + 0) := by
        rw [wiW_app]
        rfl
      rw [eW] at hW
      have bad : wiB (n, dd, ab) = false → (vd nVd d []).isSome = false := fun e => by rw [eB, e, Bool.and_false]
      have mu5 : Mu H5 [wa] := Mu.lst hwa5
      walk_at "rd"
      refine r_pop hwa5 ?_
      refine gen_put fun H7 kp7 hwa7 => ?_
      have dp7 := dp.keep kp7 mu5
      have dw7 := dw1.keep kp7 mu5
      have sq7 := rd_keepM sq kp7 mu5
      refine r_gtupS (.inl (rd_keepM sa kp7 mu5)) rfl ?_
      walk_at "rd"
      refine r_newF rfl fun e3 oe3 ne3 ode3 => ?_
      refine gen_newT ne3 ode3 fun H8 kp8 he3 => ?_
      have hwa8 := kp8.at0 hwa7
      have k58 : Kp [wa] H5 H8 := kp7.trans (Kp.to1 kp8)
      have lws : ws'.length ≤ 400002 := by
        have h1 := dgAll_len dw1
        rw [List.length_map] at h1
        have h2 := wiLen wl'
        omega
      refine ⟨dd, [wa], e3, dp7.keep0 kp8, rfl, he3, ?_⟩
      walk_at "rd"
      refine r_itb (fun e0' => ?_) (fun e0' => ?_)
      · obtain rfl : dd = .tuple [] := by
          unfold isT0 at e0'
          split at e0'
          · rfl
          · cases e0'
        obtain ⟨n', rfl⟩ : ∃ n', n = n' + 1 := ⟨n - 1, by rw [PyData.depth] at ixdp; omega⟩
        refine ⟨_, rfl, ?_⟩
        walk_at "rd"
        refine ⟨_, _, rfl, rfl, ?_⟩
        have tl1 : tl (.tuple []) = 1 := by decide +kernel
        rw [tl1] at hT'
        refine ⟨wiW wl', ?_, wl', ws', lv + 1, some vp, some (.ref qa), a5, a6, a7, a8, ?_, kp5.trans k58, hwa8, dw7.keep0 kp8, ?_, by omega, by omega, ok', rfl⟩
        · rw [eW]
          omega
        · rfl
        · rw [eB]
          have : wiB (n' + 1, .tuple [], ab) = true := rfl
          rw [this, Bool.and_true]
      · walk_at "rd"
        refine ⟨vp, dd, [wa], rfl, dp7.keep0 kp8, ixg, ixw, fun H9 kp9 => ?_⟩
        walk_at "rd"
        refine r_itb (fun e1' => ?_) (fun e1' => ?_)
        · walk_at "rd"
          refine stop _ _ (bad ?_) (k58.trans (Kp.to1 kp9))
          have e1'' : nodeB dd = false := by simpa using e1'
          show (vd n dd ab).isSome = false
          cases n with
          | zero => rfl
          | succ n => rw [vd_bad e0' e1'']; rfl
        have e1'' : nodeB dd = true := by simpa using e1'
        obtain ⟨c, bs, rfl, bne, ball⟩ := nodeB_shape e1''
        obtain ⟨n', rfl⟩ : ∃ n', n = n' + 1 := ⟨n - 1, by rw [PyData.depth] at ixdp; omega⟩
        have vn := vd_node (n := n') (ab := ab) e1''
        obtain ⟨pa, pys, rfl, spa, dps⟩ := dg_tup dp7
        obtain ⟨c1, _, rfl, dc1, dps⟩ := dg_cons dps
        obtain ⟨br, _, rfl, dbr, dps⟩ := dg_cons dps
        obtain rfl := dg_nil dps
        obtain rfl := dg_str dc1
        obtain ⟨ba, bys, rfl, sba, dbs⟩ := dg_tup dbr
        have kp89 := kp8.trans kp9
        walk_at "rd"
        refine r_ixT (.inl (rd_keep0 spa kp89)) (by with_unfolding_all rfl) ?_
        walk_at "rd"
        refine r_inS (.inr (.inl (rd_keep0 sq7 kp89))) ?_
        walk_at "rd"
        refine r_ite (fun e2 => ?_) (fun e2 => ?_)
        · walk_at "rd"
          refine stop _ _ (bad ?_) (k58.trans (Kp.to1 kp9))
          show (vd (n' + 1) _ ab).isSome = false
          rw [vn, decide_eq_true e2]
          rfl
        walk_at "rd"
        refine r_len (.inr (.inl (rd_keep0 sq7 kp89))) ?_
        walk_at "rd"
        have l60 : ¬ (V.int ((ab.map V.str).length : Nat) = V.int 60) := fun z => by
          have z' := V.int.inj z
          rw [List.length_map] at z'
          omega
        refine r_ite (fun e3' => absurd e3' l60) (fun e3' => ?_)
        walk_at "rd"
        refine r_gtupS (.inl (rd_keep0 spa kp89)) rfl ?_
        walk_at "rd"
        refine r_walkT (.inl (rd_keep0 sba kp89)) ?_
        intro D nD
        have lby := dgAll_len dbs
        have lbs : bs.length ≤ 500000 := by
          have := len_wts bs
          rw [wt, wts, wts, wts, wt, wt] at ixw
          omega
        have hwa9 := kp9.at0 hwa8
        have toD : ∀ {v : V} {d : PyData}, Dg H9 [wa] v d → Dg H9 [D, wa] v d := fun h => h.sub fun a m => by
          rcases List.mem_cons.mp m with z | z
          · exact .inr (by rw [z]; exact nD)
          · exact .inl z
        refine lc_tup (K := K) (a := ba) (xs := bys) (PvL D (fun j acc H' => DgAll H' [D, wa] acc ((wiOf n' (ab ++ [c]) (bs.take j)).map wiD) ∧ Kp [] H9 H')) ⟨[], upd_same, Nat.le_refl _, .nil, Kp.new nD⟩ (fun j H10 hj ⟨acc, ea, la, dacc, kp10⟩ => .inl (rd_keep0 sba (kp89.trans kp10))) (fun j x H10 hx ⟨acc, ea, la, dacc, kp10⟩ => ?_) (fun H10 ⟨acc, ea, la, dacc, kp10⟩ => ?_)
        · obtain ⟨b, hb, db⟩ := dbs.at hx
          have hj : j < bs.length := (List.getElem?_eq_some_iff.mp hb).1
          obtain ⟨vb, tb, rfl⟩ := brB_shape (List.all_eq_true.mp ball b (List.mem_of_getElem? hb))
          obtain ⟨xa, _, rfl, sx, dxs⟩ := dg_tup db
          obtain ⟨u1, _, rfl, du1, dxs⟩ := dg_cons dxs
          obtain ⟨u2, _, rfl, du2, dxs⟩ := dg_cons dxs
          obtain rfl := dg_nil dxs
          obtain rfl := dg_int du1
          have k710 := kp89.trans kp10
          refine r_gtupS (.inl (rd_keep0 sx k710)) rfl ?_
          walk_at "rd"
          refine r_newF rfl fun y1 oy1 ny1 ody1 => ?_
          refine gen_newT ny1 ody1 fun H11 kp11 hy1 => ?_
          walk_at "rd"
          refine r_catR (rd_keep0 sq7 (k710.trans kp11)) hy1.rd (by rw [List.length_map]; show ab.length + 1 ≤ 1000000; omega) fun cp H12 kp12 scp => ?_
          walk_at "rd"
          refine r_newF rfl fun y3 oy3 ny3 ody3 => ?_
          refine gen_newT ny3 ody3 fun H13 kp13 hy3 => ?_
          have k1013 := (kp11.trans kp12).trans kp13
          have ea13 := k1013.at0 ea
          have e1 : wiOf n' (ab ++ [c]) (bs.take (j + 1)) = wiOf n' (ab ++ [c]) (bs.take j) ++ [(n', tb, ab ++ [c])] := by
            rw [List.take_add_one, hb, wiOf, List.map_append]
            rfl
          refine PvL.step ea13 la (by omega) ⟨?_, (kp10.trans k1013).new0 nD⟩
          have kup : Kp [D, wa] H13 (upd H13 D (.lst (acc ++ [.ref y3]))) := Kp.mono Kp.put (by simp)
          have muD : Mu H13 [D, wa] := Mu.cons (by rw [ea13]; exact True.intro) (Mu.lst ((kp10.trans k1013).at0 hwa9))
          rw [e1, List.map_append]
          refine DgAll.append ((dacc.keep0 k1013).keep kup muD) (.cons ?_ .nil)
          refine Dg.keep ?_ kup muD
          refine .tup hy3.rd (.cons ((toD (du2.keep0 kp89)).keep0 (kp10.trans k1013)) (.cons (.tup (rd_keep0 scp kp13) ?_) .nil))
          rw [show (ab ++ [c]).map PyData.str = ab.map PyData.str ++ [.str c] by rw [List.map_append]; rfl]
          exact DgAll.append (strs_ok ab) (.cons (.str c) .nil)
        · rw [List.take_of_length_le (by omega)] at dacc
          have lacc : acc.length = bs.length := by rw [dgAll_len dacc, List.length_map, wiOf, List.length_map]
          walk_at "rd"
          have hwa10 := kp10.at0 hwa9
          refine r_extend hwa10 ea (by omega) ?_
          refine gen_put fun H11 kp11 hwa11 => ?_
          have mu10 : Mu H10 [wa] := Mu.lst hwa10
          have dacc' := dacc.sub (T := [wa]) fun a m => .inl (List.mem_cons_of_mem _ m)
          have k911 := (k58.trans (Kp.to1 (kp9.trans kp10))).trans kp11
          have hw3 := wiW_of n' (ab ++ [c]) bs ball
          have ht3 := wiT_of n' (ab ++ [c]) bs ball
          have ewt : wt (.tuple [.str c, .tuple bs]) = 10 * c.length + 8 + 2 + (wts bs + 8 + 2 + 0) + 8 := by rw [wt, wts, wts, wts, wt, wt]
          have etl : tl (.tuple [.str c, .tuple bs]) = tls bs := by
            rw [tl, tls, tls, tls, tl, tl, bne]
            simp
          rw [ewt] at hW
          rw [etl] at hT'
          refine ⟨wiW (wl' ++ wiOf n' (ab ++ [c]) bs), ?_, wl' ++ wiOf n' (ab ++ [c]) bs, ws' ++ acc, lv, _, _, _, _, _, _, rfl, kp5.trans k911, hwa11, ?_, ?_, ?_, ?_, ?_, rfl⟩
          · rw [eW, wiW_app, ewt]
            omega
          · rw [List.map_append]
            exact DgAll.append ((dw7.keep0 (kp89.trans kp10)).keep kp11 mu10) (dacc'.keep kp11 mu10)
          · rw [eB, List.all_append]
            congr 1
            show (vd (n' + 1) _ ab).isSome = _
            rw [vn, decide_eq_false e2, wiOf, List.all_map]
            rfl
          · rw [wiT_app]
            omega
          · rw [wiW_app]
            omega
          · intro x hx
            rcases List.mem_append.mp hx with h | h
            · exact ok' x h
            · obtain ⟨b, hb, rfl⟩ := List.mem_map.mp h
              obtain ⟨vb, tb, rfl⟩ := brB_shape (List.all_eq_true.mp ball b hb)
              have hdb := depth_le_all hb
              have hwb := wt_mem hb
              have hgb : gd (.tuple [.int vb, tb]) = true := by
                rw [gd, gds, gds, gds, gd] at ixg
                simp only [Bool.and_eq_true, Bool.and_true] at ixg
                exact gds_mem.mp ixg.2 _ hb
              have hgt : gd tb = true := by
                rw [gd, gds, gds, gds] at hgb
                simp only [Bool.and_eq_true, Bool.and_true] at hgb
                exact hgb.2
              rw [PyData.depth, PyData.depthAll, PyData.depthAll, PyData.depthAll] at hdb
              rw [PyData.depth, PyData.depthAll, PyData.depthAll, PyData.depthAll, PyData.depth, PyData.depth] at ixdp
              rw [wt, wts, wts, wts] at hwb
              refine ⟨?_, ?_, hgt, ?_⟩
              · show tb.depth ≤ n'
                omega
              · show n' + (ab ++ [c]).length ≤ 50
                rw [List.length_append]
                show n' + (ab.length + 1) ≤ 50
                omega
              · show wt tb ≤ 1000000
                rw [ewt] at ixw
                omega
    · have e0 : wl = [] := by
        cases wl with
        | nil => rfl
        | cons a b => cases hb
      subst e0
      walk_at "rd"
      have lv3 : lv ≤ 300 := by
        have : wiT [] = 0 := rfl
        omega
      rw [decide_eq_true (show (lv : Int) ≤ 300 by omega)]
      exact stop _ _ eB Kp.refl
end
theorem k_is_reader {P : Program} {w : World} {K : PySem.W.Frag} {mg : Str → Option Value} {base : Heap} {f : Addr} {fd : FuncData} (F : Fun K "is_reader" "is_reader" s_is_reader f fd) (g : mg "is_reader" = some (.ref f)) (z : Zb mg) (gz : Gz mg) (k_is_node : Kn P w K mg base CX0 4 "is_node" sp_is_node) : Kn P w K mg base CX0 5 "is_reader" sp_is_reader :=
  ⟨f, fd, _, k_is_reader0 F g z gz k_is_node, g, F.kp, F.binds (fun _ _ _ _ _ _ us hl => match us, hl with | [_], _ => rfl)⟩
theorem k_is_reader_thing {P : Program} {w : World} {K : PySem.W.Frag} {mg : Str → Option Value} {base : Heap} {f : Addr} {fd : FuncData} (F : Fun K "is_reader" "is_reader" s_is_reader f fd) (g : mg "is_reader" = some (.ref f)) (z : Zb mg) (gz : Gz mg) (k_is_node : Kn P w K mg base CX0 4 "is_node" sp_is_node) : KnK P w K mg base CX0 5 "is_reader" ["thing"] id sp_is_reader := by
  refine ⟨f, fd, _, id, k_is_reader0 F g z gz k_is_node, g, F.kp, bindsK F (fun _ _ _ _ _ _ ws hl => ?_), fun zs ws r => r⟩
  rcases ws with _ | ⟨a, _ | ⟨c, r⟩⟩
  · cases hl
  · rfl
  · simp at hl

end L2.Ro

end
section
set_option Elab.async false
set_option linter.all false
set_option maxRecDepth 100000
set_option maxHeartbeats 4000000
local macro_rules | `(tactic| walk_at "rd1") => `(tactic| with_reducible first
  | refine L2.Rx.r_seq ?_ | refine L2.Rx.r_asg ?_ | refine L2.Rx.r_gname ?_ | refine L2.Rx.r_op ?_ | refine L2.Rx.r_c ?_
  | refine L2.Rx.r_var rfl ?_
  | refine L2.Rx.r_rI0 ?_ | refine L2.Rx.r_test ?_ | refine L2.Rx.r_bl ?_ | refine L2.Rx.r_if ?_ | refine L2.Rx.r_ret ?_
  | refine L2.Rx.r_cons ?_ | refine L2.Rx.r_nil ?_ | refine L2.Rx.r_call ?_ | refine L2.Rx.r_cb ?_ | refine L2.Rx.r_next ?_ | refine L2.Rx.r_drop ?_
  | refine L2.Rx.r_gsub ?_ | refine L2.Rx.r_tupF ?_ | refine L2.Rx.r_lst ?_ | refine L2.Rx.r_par ?_ | refine L2.Rx.r_par2 ?_
  | refine L2.Rx.r_un ?_ | refine L2.Rx.r_tb ?_ | refine L2.Rx.r_and ?_ | refine L2.Rx.r_or ?_ | refine L2.Rx.r_not ?_
  | refine L2.Rx.r_andV ?_ | refine L2.Rx.r_orV ?_ | refine L2.Rx.r_notV ?_ | refine L2.Rx.r_ifx ?_ | refine L2.Rx.r_chain ?_
  | refine L2.Rx.r_sl ?_ | refine L2.Rx.r_nopart ?_ | refine L2.Rx.r_part ?_ | refine L2.Rx.r_exint ?_ | refine L2.Rx.r_bm0 ?_ | refine L2.Rx.r_bm ?_
  | refine L2.Rx.r_lc ?_ | refine L2.Rx.r_rng1 ?_ | refine L2.Rx.r_yes ?_ | refine L2.Rx.r_tt ?_ | refine L2.Rx.r_ff ?_ | refine L2.Rx.r_m1 ?_ | refine L2.Rx.r_m0 ?_ | refine L2.Rx.r_isS ?_
  | (refine L2.Rx.r_wipe (by with_unfolding_all rfl) ?_) | (refine L2.Rx.r_tyL (by walk_at "hp") ?_)
  | refine L2.Rx.r_addS (by walk_at "len") ?_ | refine L2.Rx.r_lenS (by walk_at "len") ?_ | refine L2.Rx.r_slS (by walk_at "len") ?_
  | refine L2.Rx.r_dnotin ?_ | refine L2.Rx.r_dget ?_ | refine L2.Rx.r_dget1 ?_ | refine L2.Rx.r_dput ?_ | refine L2.Rx.r_dpop1 ?_ | refine L2.Rx.r_isN ?_
  | refine L2.Rx.r_for ?_ | refine L2.Rx.r_ilist ?_ | refine L2.Rx.r_itup ?_
  | refine L2.Rx.r_gcons ?_ | refine L2.Rx.r_gnil ?_ | (refine L2.Rx.r_gtupP (by assumption) (by walk_at "at") ?_)
  | (refine L2.Rx.r_rEq rfl ?_) | (refine L2.Rx.r_rNe rfl ?_)
  | refine L2.Rx.r_rU ?_ | refine L2.Rx.r_max2 ?_ | refine L2.Rx.r_min2 ?_ | refine L2.Rx.r_int1i ?_ | (refine L2.Rx.r_lenh (by walk_at "hp") ?_)
  | (refine L2.Rx.r_ixLh (by walk_at "hp") (by walk_at "at") ?_)
  | (refine L2.Rx.r_setL (by walk_at "hp") (by walk_at "at") ?_))
local macro_rules | `(tactic| walk_at "at") => `(tactic| with_unfolding_all rfl)
local macro_rules | `(tactic| walk_at "rd") => `(tactic| (repeat walk_at "rd1"))
local macro_rules | `(tactic| walk_at "hp") => `(tactic| first
  | assumption
  | exact L2.upd_same
  | (refine Eq.trans (L2.upd_ne ?_) ?_; (focus walk_at "ne"); (focus walk_at "hp"))
  | (refine L2.Rx.Kp.at0 (by assumption) ?_; walk_at "hp")
  | (refine L2.Rx.Kp.at1 (by assumption) ?_ ?_; (focus walk_at "ne"); (focus walk_at "hp")))
local macro_rules | `(tactic| walk_at "ne") => `(tactic| first
  | assumption | exact Ne.symm (by assumption)
  | (refine L2.ne_of_none (H := ?nH) (o := ?nO) ?nh ?nn; (case nn => assumption); (case nh => walk_at "hp"))
  | (refine Ne.symm (L2.ne_of_none (H := ?nH) (o := ?nO) ?nh ?nn); (case nn => assumption); (case nh => walk_at "hp")))
local macro_rules | `(tactic| walk_at "len") => `(tactic| (rw [PySem.sizeLine_eq]; omega))
local macro_rules | `(tactic| walk_at "nin") => `(tactic| first
  | exact List.not_mem_nil
  | (refine L2.Rx.nin1 ?_; walk_at "ne"))
local macro_rules | `(tactic| walk_at "none") => `(tactic| first
  | assumption
  | (refine L2.Rx.Kp.none0 (by assumption) ?_ ?_; (focus walk_at "nin"); (focus walk_at "none")))
namespace L2.Ro
open PySem PySem.Spec PyProof.Rows L2.Rx
def dueI : Option Nat → Int
  | some k => (k : Int)
  | none => -1
def sp_due (n : Nat) : Sp := fun vs H Q _ => ∃ (v : V) (l : Addr) (d : PyData) (S : List Addr) (ab : List Str), vs = [v, .ref l] ∧ Dg H S v d ∧ gd d = true ∧ d.depth ≤ n ∧ wt d ≤ 1000000 ∧ H l = some (.lst (ab.map V.str)) ∧ ab.length + n ≤ 1000 ∧
  ∀ H', Kp [] H H' → Q (.int (dueI (vd n d ab))) H'
theorem vd_nt {n : Nat} {d : PyData} {ab : List Str} (h : (match d with | .tuple _ => true | _ => false) = false) : vd n d ab = none := by
  cases n with
  | zero => rfl
  | succ n => cases d <;> first | rfl | cases h
theorem vd_len {n : Nat} {ds : List PyData} {ab : List Str} (h0 : isT0 (.tuple ds) = false) (h : ds.length ≠ 2) : vd n (.tuple ds) ab = none := by
  cases n with
  | zero => rfl
  | succ n => exact vd_bad h0 (nodeB_len h)
theorem vd_two {n : Nat} {d1 d2 : PyData} {ab : List Str} (h : (match d1 with | .str _ => true | _ => false) = false ∨ (match d2 with | .tuple _ => true | _ => false) = false) : vd n (.tuple [d1, d2]) ab = none := by
  cases n with
  | zero => rfl
  | succ n =>
    refine vd_bad rfl ?_
    rw [nodeB2]
    rcases h with h | h
    · cases d1 <;> first | rfl | cases h
    · cases d2 <;> first | exact Bool.and_false _ | cases h
theorem vd_str {n : Nat} {c : Str} {bs : List PyData} {ab : List Str} : vd (n + 1) (.tuple [.str c, .tuple bs]) ab = if (cellB c && (!bs.isEmpty && !decide (c ∈ ab))) = true then chk (fun t => vd n t (ab ++ [c])) (-1) 0 bs else none := rfl
theorem vd_no {n : Nat} {c : Str} {bs : List PyData} {ab : List Str} (h : cellB c = false ∨ bs = [] ∨ c ∈ ab) : vd (n + 1) (.tuple [.str c, .tuple bs]) ab = none := by
  rw [vd_str, if_neg]
  rcases h with h | h | h
  · rw [h, Bool.false_and]
    exact Bool.false_ne_true
  · rw [h]
    simp
  · rw [decide_eq_true h]
    simp
theorem chk_no {f : PyData → Option Nat} {ah : Int} {lv : Nat} {b : PyData} {r : List PyData} (h : brW ah b = false ∨ f (brT b) = none) : chk f ah lv (b :: r) = none := by
  rw [chk]
  by_cases w : brW ah b = true
  · rw [if_pos w]
    rcases h with h | h
    · rw [w] at h
      cases h
    · rw [h]
  · rw [if_neg w]
theorem brW_len {ah : Int} {ds : List PyData} (h : ds.length ≠ 2) : brW ah (.tuple ds) = false := by
  match ds, h with
  | [], _ => rfl
  | [d1], _ => cases d1 <;> rfl
  | [_, _], h => exact absurd rfl h
  | d1 :: _ :: _ :: _, _ => cases d1 <;> rfl
theorem brW_int {ah : Int} {d1 t : PyData} (h : (match d1 with | .int _ => true | _ => false) = false) : brW ah (.tuple [d1, t]) = false := by
  cases d1 <;> first | rfl | cases h
theorem sub_bd {d : PyData} {ds : List PyData} (h : d ∈ ds) (g : gds ds = true) {n : Nat} (dp : PyData.depthAll ds ≤ n) {m : Nat} (w : wts ds ≤ m) : gd d = true ∧ d.depth ≤ n ∧ wt d ≤ m := ⟨gds_mem.mp g d h, Nat.le_trans (depth_le_all h) dp, Nat.le_trans (wt_mem h) w⟩
section
variable {P : Program} {w : World} {K : PySem.W.Frag} {mg : Str → Option Value} {base : Heap}
theorem k_due1 {f : Addr} {fd : FuncData} (F : Fun K "_law_due" "_law_due" s_due f fd) (g : mg "_law_due" = some (.ref f)) (z : Zb mg) (n : Nat) (spx : Sp) (k_due : Kn P w K mg base CX0 n "_law_due" spx) (hx : ∀ m, n = m + 1 → spx = sp_due m)  : FnG P w K mg base CX0 (n + 1) f fd ["_law_item", "_law_above"] (sp_due n) := by
  refine fnG_body F sc_due (fun vs H Q E h => ?_) (fun cdv A outer s H vs Q E hr h => ?_)
  · obtain ⟨v, l, d, S, ab, rfl, _⟩ := h
    rfl
  · obtain ⟨v, l, d, S, ab, rfl, hd, hg, hdp, hw, hab, habl, q⟩ := h
    refine ⟨_, PSs.nox (pss_cons (ps_if (pt_not (pt_val (pe_callB (show CallR _ _ (rIsi K) from call_isi) (by rfl) z.n_isinstance (by decide +kernel) (pa_cons (pv 0) (pa_cons (pe_bltn (v := .ty "tuple") (by rfl) z.n_tuple (by decide +kernel) rfl) pa_nil)))))
        (pss_one (ps_ret (pe_un un_neg pe_int)))
        pss_nil)
      (pss_cons (ps_if (pt_cmpR (show OpR _ _ rEqN from op_eqN hr) (pv 0) (pe_tupF pa_nil) (nomark _))
        (pss_one (ps_ret pe_int))
        pss_nil)
      (pss_cons (ps_if (PW.pt (pw_or (pt_cmpR op_ne (pe_callB (show CallR _ _ (rLenQ K) from c_len) (by rfl) z.n_len (by decide +kernel) (pa_cons (pv 0) pa_nil)) pe_int (nomark _)) (pw_or (pt_not (pt_val (pe_callB (show CallR _ _ (rIsi K) from call_isi) (by rfl) z.n_isinstance (by decide +kernel) (pa_cons (pe_ix (show IxR _ (rIxT K) from ix_tup) (pv 0) pe_int (fun _ _ => rfl)) (pa_cons (pe_bltn (v := .ty "str") (by rfl) z.n_str (by decide +kernel) rfl) pa_nil))))) (pw_or (pt_cmpR (show OpR _ _ (rIn K false) from op_in_seq) (pe_ix (show IxR _ (rIxT K) from ix_tup) (pv 0) pe_int (fun _ _ => rfl)) (pv 1) (by rfl)) (pw_or1 (pt_not (pt_val (pe_callB (show CallR _ _ (rIsi K) from call_isi) (by rfl) z.n_isinstance (by decide +kernel) (pa_cons (pe_ix (show IxR _ (rIxT K) from ix_tup) (pv 0) pe_int (fun _ _ => rfl)) (pa_cons (pe_bltn (v := .ty "tuple") (by rfl) z.n_tuple (by decide +kernel) rfl) pa_nil))))))))))
        (pss_one (ps_ret (pe_un un_neg pe_int)))
        pss_nil)
      (pss_cons (ps_if (PW.pt (pw_or (pt_not (pt_chain op_le op_le pe_int (pe_callB c_lenS (by rfl) z.n_len (by decide +kernel) (pa_cons (pe_ix (show IxR _ (rIxT K) from ix_tup) (pv 0) pe_int (fun _ _ => rfl)) pa_nil)) pe_int)) (pw_or (pt_not (pt_val (pe_callB (show CallR _ _ (rAll K) from (cr_all rfl)) (by rfl) z.n_all (by decide +kernel) (pa_cons (pe_lc (own := [("_law_sign", 7)]) (g := (gName 7)) (by rfl) sc_due.nd (pi_str (pe_ix (show IxR _ (rIxT K) from ix_tup) (pv 0) pe_int (fun _ _ => rfl))) (blkOk_by (own := [("_law_sign", 7)]) (N := ["_law_item", "_law_above", "_law_ahead", "_law_leaves", "_law_branch", "_law_value", "_law_here", "_law_sign"]) (sc := defScope s_due) (by decide +kernel)) (fun _ _ _ _ _ => (pg_name (i := 7) sc_due.nd rfl (.inl rfl))) (fun _ _ _ _ _ => pts_nil) (fun _ _ _ _ _ => (pe_chain op_le_str op_le_str pe_str (pv 7) pe_str))) pa_nil)))) (pw_or1 (pt_cmpR (show OpR _ _ rEqN from op_eqN hr) (pe_ix (show IxR _ (rIxT K) from ix_tup) (pv 0) pe_int (fun _ _ => rfl)) (pe_tupF pa_nil) (nomark _))))))
        (pss_one (ps_ret (pe_un un_neg pe_int)))
        pss_nil)
      (pss_cons (ps_asg (pe_tupF (pa_cons (pe_un un_neg pe_int) (pa_cons pe_int pa_nil))) (show PG _ _ (gTup K 2 _) from pg_tup rfl (pgs_cons (pg_name (i := 2) sc_due.nd rfl (.inl rfl)) (pgs_cons (pg_name (i := 3) sc_due.nd rfl (.inl rfl)) pgs_nil))))
      (pss_cons (ps_for PassesOwn.never rfl (show PI _ _ _ (iTup K _) from pi_tup (pe_ix (show IxR _ (rIxT K) from ix_tup) (pv 0) pe_int (fun _ _ => rfl))) (pg_name (i := 4) sc_due.nd rfl (.inl rfl))
        (pss_cons (ps_if (PW.pt (pw_or (pt_not (pt_val (pe_callB (show CallR _ _ (rIsi K) from call_isi) (by rfl) z.n_isinstance (by decide +kernel) (pa_cons (pv 4) (pa_cons (pe_bltn (v := .ty "tuple") (by rfl) z.n_tuple (by decide +kernel) rfl) pa_nil))))) (pw_or1 (pt_cmpR op_ne (pe_callB (show CallR _ _ (rLenQ K) from c_len) (by rfl) z.n_len (by decide +kernel) (pa_cons (pv 4) pa_nil)) pe_int (nomark _)))))
          (pss_one (ps_ret (pe_un un_neg pe_int)))
          pss_nil)
        (pss_cons (ps_set (i := 5) sc_due.nd rfl (.inl rfl) (pe_ix (show IxR _ (rIxT K) from ix_tup) (pv 4) pe_int (fun _ _ => rfl)))
        (pss_cons (ps_if (PW.pt (pw_or (pt_not (pt_val (pe_callB (show CallR _ _ (rIsi K) from call_isi) (by rfl) z.n_isinstance (by decide +kernel) (pa_cons (pv 5) (pa_cons (pe_bltn (v := .ty "int") (by rfl) z.n_int (by decide +kernel) rfl) pa_nil))))) (pw_or (pt_val (pe_callB (show CallR _ _ (rIsi K) from call_isi) (by rfl) z.n_isinstance (by decide +kernel) (pa_cons (pv 5) (pa_cons (pe_bltn (v := .ty "bool") (by rfl) z.n_bool (by decide +kernel) rfl) pa_nil)))) (pw_or1 (pt_not (pt_chain op_lt op_le (pv 2) (pv 5) (pe_op op_pow pe_int pe_int)))))))
          (pss_one (ps_ret (pe_un un_neg pe_int)))
          pss_nil)
        (pss_cons (ps_set (i := 6) sc_due.nd rfl (.inl rfl) (k_due.call hr (by omega) (by rfl) (pa_cons (pe_ix (show IxR _ (rIxT K) from ix_tup) (pv 4) pe_int (fun _ _ => rfl)) (pa_cons (pe_op op_cat (pv 1) (pe_lst (pa_cons (pe_ix (show IxR _ (rIxT K) from ix_tup) (pv 0) pe_int (fun _ _ => rfl)) pa_nil))) pa_nil))))
        (pss_cons (ps_if (pt_cmpR op_lt (pv 6) pe_int (nomark _))
          (pss_one (ps_ret (pe_un un_neg pe_int)))
          pss_nil)
        (pss_one (ps_par (i := 2) (j := 3) (by rfl) sc_due.nd rfl rfl (by decide) rfl rfl (pa_cons (pv 5) (pa_cons (pe_op op_add (pv 3) (pv 6)) pa_nil)) (by rfl)))))))))
      (pss_one (ps_ret (pv 3))))))))), ?_⟩
    have m1 : ∀ (H' : Hp), vd n d ab = none → Kp [] H H' → Q (.int (-1)) H' := fun H' e k => by
      have := q H' k
      rw [e] at this
      exact this
    walk_at "rd"
    refine r_isG hd (kit_tup d) ?_
    walk_at "rd"
    refine r_itb (fun e => ?_) (fun e => ?_)
    · walk_at "rd"
      refine m1 _ (vd_nt ?_) Kp.refl
      cases d <;> first | rfl | cases e
    obtain ⟨ds, rfl⟩ : ∃ ds, d = .tuple ds := by
      cases d <;> first | exact ⟨_, rfl⟩ | cases e
    obtain ⟨m, rfl⟩ : ∃ m, n = m + 1 := ⟨n - 1, by rw [PyData.depth] at hdp; omega⟩
    obtain rfl := hx m rfl
    obtain ⟨a, xs, rfl, ha, dx⟩ := dg_tup hd
    have lx := dgAll_len dx
    walk_at "rd"
    refine r_newF rfl fun e1 oe1 ne1 oe1d => ?_
    refine gen_newT ne1 oe1d fun H1 k1 he1 => ?_
    walk_at "rd"
    refine ⟨.tuple ds, S, e1, hd.keep0 k1, rfl, he1, ?_⟩
    walk_at "rd"
    refine r_itb (fun e0 => ?_) (fun e0 => ?_)
    · walk_at "rd"
      obtain rfl : ds = [] := by
        cases ds with
        | nil => rfl
        | cons _ _ => cases e0
      exact q H1 k1
    walk_at "rd"
    refine r_len (.inr (.inl (rd_keep0 ha k1))) ?_
    walk_at "rd"
    refine r_itn (fun h2 => ?_) (fun h2 => ?_)
    · walk_at "rd"
      exact m1 _ (vd_len e0 fun z => h2 (by rw [lx, z]; rfl)) k1
    have l2 : ds.length = 2 := by
      have := V.int.inj h2
      omega
    obtain ⟨d1, d2, rfl⟩ : ∃ d1 d2, ds = [d1, d2] := match ds, l2 with
      | [d1, d2], _ => ⟨d1, d2, rfl⟩
    obtain ⟨v1, _, rfl, g1, dx⟩ := dg_cons dx
    obtain ⟨v2, _, rfl, g2, dx⟩ := dg_cons dx
    obtain rfl := dg_nil dx
    walk_at "rd"
    refine r_ixT (.inl (rd_keep0 ha k1)) (by with_unfolding_all rfl) ?_
    walk_at "rd"
    refine r_isG (g1.keep0 k1) (kit_str d1) ?_
    walk_at "rd"
    refine r_itb (fun e2 => ?_) (fun e2 => ?_)
    · walk_at "rd"
      refine m1 _ (vd_two (.inl ?_)) k1
      cases d1 <;> first | rfl | cases e2
    obtain ⟨c, rfl⟩ : ∃ c, d1 = .str c := by
      cases d1 <;> first | exact ⟨_, rfl⟩ | cases e2
    obtain rfl := dg_str g1
    walk_at "rd"
    refine r_ixT (.inl (rd_keep0 ha k1)) (by with_unfolding_all rfl) ?_
    walk_at "rd"
    refine r_inS (.inl (.inl (.inl (k1.at0 hab)))) ?_
    walk_at "rd"
    refine r_ite (fun e3 => ?_) (fun e3 => ?_)
    · walk_at "rd"
      refine m1 _ ?_ k1
      cases d2 <;> first | exact vd_two (.inr rfl) | exact vd_no (.inr (.inr e3))
    walk_at "rd"
    refine r_ixT (.inl (rd_keep0 ha k1)) (by with_unfolding_all rfl) ?_
    walk_at "rd"
    refine r_isG (g2.keep0 k1) (kit_tup d2) ?_
    walk_at "rd"
    refine r_itb (fun e4 => ?_) (fun e4 => ?_)
    · walk_at "rd"
      refine m1 _ (vd_two (.inr ?_)) k1
      cases d2 <;> first | rfl | cases e4
    obtain ⟨bs, rfl⟩ : ∃ bs, d2 = .tuple bs := by
      cases d2 <;> first | exact ⟨_, rfl⟩ | cases e4
    obtain ⟨a2, ys, rfl, ha2, dy⟩ := dg_tup g2
    have ly := dgAll_len dy
    rw [gd, gds, gds, gds, gd, gd] at hg
    simp only [Bool.and_eq_true, Bool.and_true, decide_eq_true_eq] at hg
    rw [PyData.depth, PyData.depthAll, PyData.depthAll, PyData.depthAll, PyData.depth, PyData.depth] at hdp
    rw [wt, wts, wts, wts, wt, wt] at hw
    have hl := hg.1.2
    have hlb : bs.length ≤ 500000 := by
      have := len_wts bs
      omega
    walk_at "rd"
    refine r_ixT (.inl (rd_keep0 ha k1)) (by with_unfolding_all rfl) ?_
    walk_at "rd"
    have badc : ∀ (H' : Hp), cellB c = false → Kp [] H H' → Q (.int (-1)) H' := fun H' e k => m1 H' (vd_no (.inl e)) k
    refine r_ite (fun h1 => ?_) (fun h1 => ?_)
    rotate_left
    · walk_at "rd"
      refine r_tt ?_
      walk_at "rd"
      refine badc _ ?_ k1
      rw [cellB, decide_eq_false h1, Bool.false_and]
    walk_at "rd"
    refine r_itn (fun h8 => ?_) (fun h8 => ?_)
    · walk_at "rd"
      refine badc _ ?_ k1
      rw [cellB, decide_eq_false h8, Bool.false_and, Bool.and_false]
    walk_at "rd"
    refine r_op (r_var rfl (r_c (r_ixT (.inl (rd_keep0 ha k1)) (by with_unfolding_all rfl) ⟨c, rfl, ?_⟩)))
    intro D nD
    have lz : c.cps.size = c.cps.toList.length := by simp
    refine lc_it (walk_str (z := c)) (PvL D (fun i acc H' => acc = ((c.cps.toList.take i).map signB).map V.bl ∧ Kp [] H1 H')) ⟨[], upd_same, Nat.le_refl _, rfl, Kp.new nD⟩ (fun _ _ _ _ => True.intro) (fun i x H9 H9' hi ⟨acc, ea, la, eacc, kp9⟩ y => ?_) (fun H9 ⟨acc, ea, la, eacc, kp9⟩ => ?_)
    · obtain ⟨rfl, s, hs, rfl⟩ := y
      have hs' : c.cps.toList[i]? = some s := by
        rw [Array.getElem?_toList]
        exact hs
      walk_at "rd"
      refine ⟨_, _, rfl, rfl, ?_⟩
      rw [sign_lo]
      walk_at "rd"
      have hil : i < 1000 := by
        have : c.length = c.cps.size := rfl
        omega
      have fin : ∀ b, signB s = b → ∃ acc, H9' D = some (.lst acc) ∧ acc.length < sizeLine ∧ PvL D (fun i acc H' => acc = ((c.cps.toList.take i).map signB).map V.bl ∧ Kp [] H1 H') (i + 1) (upd H9' D (.lst (acc ++ [.bl b]))) := fun b e => by
        refine PvL.step ea la (by omega) ⟨?_, kp9.new0 nD⟩
        rw [List.take_add_one, hs', List.map_append, List.map_append, eacc, ← e]
        rfl
      refine r_ite (fun h3 => ?_) (fun h3 => ?_)
      · walk_at "rd"
        refine ⟨_, _, rfl, rfl, ?_⟩
        rw [sign_hi]
        exact fin _ (by rw [signB, decide_eq_true h3, Bool.true_and])
      · exact fin _ (by rw [signB, decide_eq_false h3, Bool.false_and])
    rw [List.take_of_length_le (by omega)] at eacc
    refine ⟨D, c.cps.toList.map signB, rfl, .inl (.inl (ea.trans (by rw [eacc]))), ?_⟩
    have ecell : (c.cps.toList.map signB).all id = cellB c := by
      rw [all_map_id, cellB, decide_eq_true h1, decide_eq_true h8, Bool.true_and, Bool.true_and]
      rfl
    rw [ecell]
    have k19 := k1.trans kp9
    walk_at "rd"
    refine r_itb (fun ec => ?_) (fun ec => ?_)
    · walk_at "rd"
      exact badc _ (by simpa using ec) k19
    have ec' : cellB c = true := by simpa using ec
    walk_at "rd"
    refine r_ixT (.inl (rd_keep0 ha k19)) (by with_unfolding_all rfl) ?_
    walk_at "rd"
    refine r_newF rfl fun e5 oe5 ne5 oe5d => ?_
    refine gen_newT ne5 oe5d fun H2 k2 he5 => ?_
    have k12 := k19.trans k2
    walk_at "rd"
    refine ⟨.tuple bs, S, e5, .tup (rd_keep0 ha2 k12) (dy.keep0 k12), rfl, he5, ?_⟩
    walk_at "rd"
    refine r_itb (fun eb => ?_) (fun eb => ?_)
    · walk_at "rd"
      refine m1 _ (vd_no (.inr (.inl ?_))) k12
      cases bs with
      | nil => rfl
      | cons _ _ => cases eb
    have bne : bs.isEmpty = false := by
      cases bs with
      | nil => cases eb
      | cons _ _ => rfl
    have evd : vd (m + 1) (.tuple [.str c, .tuple bs]) ab = chk (fun t => vd m t (ab ++ [c])) (-1) 0 bs := by
      rw [vd_str, if_pos]
      rw [ec', bne, decide_eq_false e3]
      rfl
    walk_at "rd"
    refine r_newF rfl fun e7 oe7 ne7 oe7d => ?_
    refine gen_newT ne7 oe7d fun H2' k2' he7 => ?_
    replace k12 := k12.trans k2'
    walk_at "rd"
    refine r_ixT (.inl (rd_keep0 ha k12)) (by with_unfolding_all rfl) ?_
    refine r_walkT (.inl (rd_keep0 ha2 k12)) ?_
    refine for_tup (K := K) (a := a2) (xs := ys) (fun j σ' H' => ∃ (ah : Int) (lv : Nat) (x4 x5 x6 x7 : Option V), σ' = [some (.ref a), some (.ref l), some (.int ah), some (.int (lv : Int)), x4, x5, x6, x7] ∧ Kp [] H2' H' ∧
      chk (fun t => vd m t (ab ++ [c])) (-1) 0 bs = chk (fun t => vd m t (ab ++ [c])) ah lv (bs.drop j)) ⟨-1, 0, _, _, _, _, rfl, Kp.refl, rfl⟩ (fun j σ' H' hj ⟨_, _, _, _, _, _, _, k, _⟩ => .inl (rd_keep0 ha2 (k12.trans k))) ?_ ?_
    · rintro j x σ' H3 hx ⟨ah, lv, x4, x5, x6, x7, rfl, k3, eC⟩
      obtain ⟨b, hb, db⟩ := dy.at hx
      have hj : j < bs.length := (List.getElem?_eq_some_iff.mp hb).1
      have hbm : b ∈ bs := List.mem_of_getElem? hb
      have edr : bs.drop j = b :: bs.drop (j + 1) := by
        rw [List.drop_eq_getElem_cons hj]
        congr 1
        exact (List.getElem?_eq_some_iff.mp hb).2
      rw [edr] at eC
      have k13 := k12.trans k3
      have out : ∀ (H' : Hp), (brW ah b = false ∨ vd m (brT b) (ab ++ [c]) = none) → Kp [] H3 H' → Q (.int (-1)) H' := fun H' e k => m1 H' (by rw [evd, eC]; exact chk_no e) (k13.trans k)
      obtain ⟨hgb, hdb, hwb⟩ := sub_bd hbm hg.2 (n := m) (by omega) (m := 1000000) (by omega)
      walk_at "rd"
      refine r_isG (db.keep0 k13) (kit_tup b) ?_
      walk_at "rd"
      refine r_itb (fun f1 => ?_) (fun f1 => ?_)
      · walk_at "rd"
        refine out _ (.inl ?_) Kp.refl
        cases b <;> first | rfl | cases f1
      obtain ⟨cs, rfl⟩ : ∃ cs, b = .tuple cs := by
        cases b <;> first | exact ⟨_, rfl⟩ | cases f1
      obtain ⟨a4, zs, rfl, ha4, dz⟩ := dg_tup db
      have lz4 := dgAll_len dz
      walk_at "rd"
      refine r_len (.inr (.inl (rd_keep0 ha4 k13))) ?_
      walk_at "rd"
      refine r_itn (fun f2 => ?_) (fun f2 => ?_)
      · walk_at "rd"
        exact out _ (.inl (brW_len fun z => f2 (by rw [lz4, z]; rfl))) Kp.refl
      have lc2 : cs.length = 2 := by
        have := V.int.inj f2
        omega
      obtain ⟨c1, c2, rfl⟩ : ∃ c1 c2, cs = [c1, c2] := match cs, lc2 with
        | [c1, c2], _ => ⟨c1, c2, rfl⟩
      obtain ⟨u1, _, rfl, du1, dz⟩ := dg_cons dz
      obtain ⟨u2, _, rfl, du2, dz⟩ := dg_cons dz
      obtain rfl := dg_nil dz
      rw [gd, gds, gds, gds] at hgb
      simp only [Bool.and_eq_true, Bool.and_true] at hgb
      rw [PyData.depth, PyData.depthAll, PyData.depthAll, PyData.depthAll] at hdb
      rw [wt, wts, wts, wts] at hwb
      walk_at "rd"
      refine r_ixT (.inl (rd_keep0 ha4 k13)) (by with_unfolding_all rfl) ?_
      walk_at "rd"
      refine r_isG (du1.keep0 k13) (kit_int c1) ?_
      walk_at "rd"
      refine r_itb (fun f3 => ?_) (fun f3 => ?_)
      · walk_at "rd"
        refine out _ (.inl (brW_int ?_)) Kp.refl
        cases c1 <;> first | rfl | cases f3
      walk_at "rd"
      refine r_isG (du1.keep0 k13) (kit_bool c1) ?_
      walk_at "rd"
      refine r_itb (fun f4 => ?_) (fun f4 => ?_)
      · walk_at "rd"
        refine out _ (.inl (brW_int ?_)) Kp.refl
        cases c1 <;> first | rfl | cases f4
      obtain ⟨i, rfl⟩ : ∃ i, c1 = .int i := by
        cases c1 <;> first | exact ⟨_, rfl⟩ | (cases f4; done) | (cases f3; done)
      obtain rfl := dg_int du1
      walk_at "rd"
      refine r_ite (fun f5 => ?_) (fun f5 => ?_)
      rotate_left
      · walk_at "rd"
        refine r_tt ?_
        walk_at "rd"
        refine out _ (.inl ?_) Kp.refl
        simp [brW, f5]
      walk_at "rd"
      refine r_powx (v := 1000000000) (by decide +kernel) (by decide +kernel) ?_
      walk_at "rd"
      refine r_itn (fun f6 => ?_) (fun f6 => ?_)
      · walk_at "rd"
        refine out _ (.inl ?_) Kp.refl
        simp [brW, f6]
      have bw : brW ah (.tuple [.int i, c2]) = true := by simp [brW, f5, f6]
      walk_at "rd"
      refine r_ixT (.inl (rd_keep0 ha4 k13)) (by with_unfolding_all rfl) ?_
      walk_at "rd"
      refine r_ixT (.inl (rd_keep0 ha k13)) (by with_unfolding_all rfl) ?_
      walk_at "rd"
      refine r_new rfl fun l1 nl1 => ?_
      refine gen_new nl1 fun H4 k4 hl1 => ?_
      walk_at "rd"
      have k14 := k13.trans k4
      refine ⟨_, _, _, _, rfl, rfl, k14.at0 hab, hl1, by rw [List.length_map, sizeLine_eq]; show ab.length + 1 ≤ _; omega, fun lp nlp => ?_⟩
      refine gen_new nlp fun H5 k5 hlp => ?_
      walk_at "rd"
      have k15 := k14.trans k5
      refine ⟨u2, lp, c2, S, ab ++ [c], rfl, du2.keep0 k15, hgb.2, by omega, by omega, by rw [List.map_append]; exact hlp, by rw [List.length_append]; show ab.length + 1 + m ≤ _; omega, fun H6 k6 => ?_⟩
      have k36 := (k4.trans k5).trans k6
      walk_at "rd"
      have eT : brT (.tuple [.int i, c2]) = c2 := rfl
      cases ev : vd m c2 (ab ++ [c]) with
      | none =>
        rw [show dueI none = -1 from rfl]
        refine r_ite (fun _ => ?_) (fun z => absurd (by decide) z)
        walk_at "rd"
        exact out _ (.inr ev) k36
      | some k =>
        rw [show dueI (some k) = (k : Int) from rfl]
        refine r_ite (fun z => absurd z (by omega)) (fun _ => ?_)
        walk_at "rd"
        refine ⟨i, lv + k, _, _, _, _, rfl, k3.trans k36, ?_⟩
        rw [eC, chk, if_pos bw, eT, ev]
        rfl
    · rintro σ' H3 ⟨ah, lv, x4, x5, x6, x7, rfl, k3, eC⟩
      walk_at "rd"
      rw [ly, List.drop_length, chk] at eC
      have fin := q H3 (k12.trans k3)
      rw [evd, eC] at fin
      exact fin
end
theorem fn_due {P : Program} {w : World} {K : PySem.W.Frag} {mg : Str → Option Value} {base : Heap} {f : Addr} {fd : FuncData} (F : Fun K "_law_due" "_law_due" s_due f fd) (g : mg "_law_due" = some (.ref f)) (z : Zb mg) : ∀ n, FnG P w K mg base CX0 (n + 1) f fd ["_law_item", "_law_above"] (sp_due n)
  | 0 => k_due1 F g z 0 (fun _ _ _ _ => False) ⟨f, fd, ["_law_item", "_law_above"], ⟨fun _ _ _ _ h => h.elim, fun _ _ _ _ _ _ _ _ _ _ _ _ _ h => h.elim⟩, g, F.kp, F.binds (fun _ _ _ _ _ _ us hl => match us, hl with | [_, _], _ => rfl)⟩ (fun m h => by omega)
  | n + 1 => k_due1 F g z (n + 1) (sp_due n) ⟨f, fd, _, fn_due F g z n, g, F.kp, F.binds (fun _ _ _ _ _ _ us hl => match us, hl with | [_, _], _ => rfl)⟩ (fun m h => by
    have : n = m := by omega
    rw [this])
theorem k_due {P : Program} {w : World} {K : PySem.W.Frag} {mg : Str → Option Value} {base : Heap} {f : Addr} {fd : FuncData} (F : Fun K "_law_due" "_law_due" s_due f fd) (g : mg "_law_due" = some (.ref f)) (z : Zb mg) : Kn P w K mg base CX0 (nVd + 1) "_law_due" (sp_due nVd) :=
  ⟨f, fd, _, fn_due F g z nVd, g, F.kp, F.binds (fun _ _ _ _ _ _ us hl => match us, hl with | [_, _], _ => rfl)⟩

end L2.Ro

end
section
set_option Elab.async false
set_option linter.all false
set_option maxRecDepth 100000
set_option maxHeartbeats 4000000
local macro_rules | `(tactic| walk_at "rd1") => `(tactic| with_reducible first
  | refine L2.Rx.r_seq ?_ | refine L2.Rx.r_asg ?_ | refine L2.Rx.r_gname ?_ | refine L2.Rx.r_op ?_ | refine L2.Rx.r_c ?_
  | refine L2.Rx.r_var rfl ?_
  | refine L2.Rx.r_rI0 ?_ | refine L2.Rx.r_test ?_ | refine L2.Rx.r_bl ?_ | refine L2.Rx.r_if ?_ | refine L2.Rx.r_ret ?_
  | refine L2.Rx.r_cons ?_ | refine L2.Rx.r_nil ?_ | refine L2.Rx.r_call ?_ | refine L2.Rx.r_cb ?_ | refine L2.Rx.r_next ?_ | refine L2.Rx.r_drop ?_
  | refine L2.Rx.r_gsub ?_ | refine L2.Rx.r_tupF ?_ | refine L2.Rx.r_lst ?_ | refine L2.Rx.r_par ?_ | refine L2.Rx.r_par2 ?_
  | refine L2.Rx.r_un ?_ | refine L2.Rx.r_tb ?_ | refine L2.Rx.r_and ?_ | refine L2.Rx.r_or ?_ | refine L2.Rx.r_not ?_
  | refine L2.Rx.r_andV ?_ | refine L2.Rx.r_orV ?_ | refine L2.Rx.r_notV ?_ | refine L2.Rx.r_ifx ?_ | refine L2.Rx.r_chain ?_
  | refine L2.Rx.r_sl ?_ | refine L2.Rx.r_nopart ?_ | refine L2.Rx.r_part ?_ | refine L2.Rx.r_exint ?_ | refine L2.Rx.r_bm0 ?_ | refine L2.Rx.r_bm ?_
  | refine L2.Rx.r_lc ?_ | refine L2.Rx.r_rng1 ?_ | refine L2.Rx.r_yes ?_ | refine L2.Rx.r_tt ?_ | refine L2.Rx.r_ff ?_ | refine L2.Rx.r_m1 ?_ | refine L2.Rx.r_m0 ?_ | refine L2.Rx.r_isS ?_
  | (refine L2.Rx.r_wipe (by with_unfolding_all rfl) ?_) | (refine L2.Rx.r_tyL (by walk_at "hp") ?_)
  | refine L2.Rx.r_addS (by walk_at "len") ?_ | refine L2.Rx.r_lenS (by walk_at "len") ?_ | refine L2.Rx.r_slS (by walk_at "len") ?_
  | refine L2.Rx.r_dnotin ?_ | refine L2.Rx.r_dget ?_ | refine L2.Rx.r_dget1 ?_ | refine L2.Rx.r_dput ?_ | refine L2.Rx.r_dpop1 ?_ | refine L2.Rx.r_isN ?_
  | refine L2.Rx.r_for ?_ | refine L2.Rx.r_ilist ?_ | refine L2.Rx.r_itup ?_
  | refine L2.Rx.r_gcons ?_ | refine L2.Rx.r_gnil ?_ | (refine L2.Rx.r_gtupP (by assumption) (by walk_at "at") ?_)
  | (refine L2.Rx.r_rEq rfl ?_) | (refine L2.Rx.r_rNe rfl ?_)
  | refine L2.Rx.r_rU ?_ | refine L2.Rx.r_max2 ?_ | refine L2.Rx.r_min2 ?_ | refine L2.Rx.r_int1i ?_ | (refine L2.Rx.r_lenh (by walk_at "hp") ?_)
  | (refine L2.Rx.r_ixLh (by walk_at "hp") (by walk_at "at") ?_)
  | (refine L2.Rx.r_setL (by walk_at "hp") (by walk_at "at") ?_))
local macro_rules | `(tactic| walk_at "at") => `(tactic| with_unfolding_all rfl)
local macro_rules | `(tactic| walk_at "rd") => `(tactic| (repeat walk_at "rd1"))
local macro_rules | `(tactic| walk_at "hp") => `(tactic| first
  | assumption
  | exact L2.upd_same
  | (refine Eq.trans (L2.upd_ne ?_) ?_; (focus walk_at "ne"); (focus walk_at "hp"))
  | (refine L2.Rx.Kp.at0 (by assumption) ?_; walk_at "hp")
  | (refine L2.Rx.Kp.at1 (by assumption) ?_ ?_; (focus walk_at "ne"); (focus walk_at "hp")))
local macro_rules | `(tactic| walk_at "ne") => `(tactic| first
  | assumption | exact Ne.symm (by assumption)
  | (refine L2.ne_of_none (H := ?nH) (o := ?nO) ?nh ?nn; (case nn => assumption); (case nh => walk_at "hp"))
  | (refine Ne.symm (L2.ne_of_none (H := ?nH) (o := ?nO) ?nh ?nn); (case nn => assumption); (case nh => walk_at "hp")))
local macro_rules | `(tactic| walk_at "len") => `(tactic| (rw [PySem.sizeLine_eq]; omega))
local macro_rules | `(tactic| walk_at "nin") => `(tactic| first
  | exact List.not_mem_nil
  | (refine L2.Rx.nin1 ?_; walk_at "ne"))
local macro_rules | `(tactic| walk_at "none") => `(tactic| first
  | assumption
  | (refine L2.Rx.Kp.none0 (by assumption) ?_ ?_; (focus walk_at "nin"); (focus walk_at "none")))
namespace L2.Ro
open PySem PySem.Spec PyProof.Rows L2.Rx
def sp_right : Sp := fun vs H Q _ => ∃ (v : V) (d : PyData) (S : List Addr), vs = [v] ∧ Dg H S v d ∧ gd d = true ∧ tl d ≤ 300 ∧ d.depth ≤ nVd ∧ wt d ≤ 400000 ∧ ∀ H', Kp [] H H' → Q (.bl true) H'
theorem due_pos (n : Nat) (d : PyData) (ab : List Str) : decide (0 < dueI (vd n d ab)) = (vd n d ab).isSome := by
  cases e : vd n d ab with
  | none => rfl
  | some k =>
    have := vd_pos n d ab k e
    show decide (0 < (k : Int)) = true
    exact decide_eq_true (by omega)
section
variable {P : Program} {w : World} {K : PySem.W.Frag} {mg : Str → Option Value} {base : Heap}
theorem k_right {f : Addr} {fd : FuncData} (F : Fun K "_law_right" "_law_right" s_right f fd) (g : mg "_law_right" = some (.ref f)) (z : Zb mg) (k_due : Kn P w K mg base CX0 (nVd + 1) "_law_due" (sp_due nVd)) (k_is_reader : Kn P w K mg base CX0 5 "is_reader" sp_is_reader) (k_is_reader_thing : KnK P w K mg base CX0 5 "is_reader" ["thing"] id sp_is_reader)  : Kn P w K mg base CX0 43 "_law_right" sp_right := by
  refine ⟨f, fd, ["_law_item"], fnG_body F sc_right (fun vs H Q E h => ?_) (fun cdv A outer s H vs Q E hr h => ?_), g, F.kp, F.binds (fun _ _ _ _ _ _ us hl => match us, hl with | [_], _ => rfl)⟩
  · obtain ⟨v, d, S, rfl, _⟩ := h
    rfl
  · obtain ⟨v, d, S, rfl, hd, hg, ht, hdp, hw, q⟩ := h
    refine ⟨_, PSs.nox (pss_cons (ps_par (i := 1) (j := 2) (by rfl) sc_right.nd rfl rfl (by decide) rfl rfl (pa_cons (pe_callB (show CallR _ _ (rReprG K) from call_reprG hr) (by rfl) z.n_repr (by decide +kernel) (pa_cons (pv 0) pa_nil)) (pa_cons (pe_callB (show CallR _ _ (rReprG K) from call_reprG hr) (by rfl) z.n_repr (by decide +kernel) (pa_cons (pe_cmpR op_gt (k_due.call hr (by decide) (by rfl) (pa_cons (pv 0) (pa_cons (pe_lst pa_nil) pa_nil))) pe_int (nomark _)) pa_nil)) pa_nil)) (by rfl))
      (pss_one (ps_ret (pe_and (pe_cmpR op_eq (pe_callB (show CallR _ _ (rReprG K) from call_reprG hr) (by rfl) z.n_repr (by decide +kernel) (pa_cons (k_is_reader.call hr (by decide) (by rfl) (pa_cons (pv 0) pa_nil)) pa_nil)) (pv 2) (nomark _)) (pe_and (pe_cmpR op_eq (pe_callB (show CallR _ _ (rReprG K) from call_reprG hr) (by rfl) z.n_repr (by decide +kernel) (pa_cons (k_is_reader_thing.call hr (by decide) (by rfl) (pk_cons (pv 0) pk_nil)) pa_nil)) (pv 2) (nomark _)) (pe_one (pe_cmpR op_eq (pe_callB (show CallR _ _ (rReprG K) from call_reprG hr) (by rfl) z.n_repr (by decide +kernel) (pa_cons (pv 0) pa_nil)) (pv 1) (nomark _)))))))), ?_⟩
    have h60 : d.depth ≤ 60 := Nat.le_trans hdp (by decide)
    have hW : wt d ≤ 10000000 := by omega
    have kb : ∀ (x : Bool) (H' : Hp), Dg H' [] (.bl x) (.bool x) := fun x H' => .bl x
    walk_at "rd"
    refine ⟨v, d, S, rfl, hd, hg, h60, hW, ?_⟩
    generalize et : d.shown = text
    walk_at "rd"
    refine r_new rfl fun e1 ne1 => ?_
    refine gen_new ne1 fun H1 k1 he1 => ?_
    walk_at "rd"
    refine ⟨v, e1, d, S, [], rfl, hd.keep0 k1, hg, hdp, by omega, he1, by decide, fun H2 k2 => ?_⟩
    walk_at "rd"
    rw [due_pos]
    have reprB : ∀ (x : Bool) (H' : Hp) (Q' : VK), Q' (.str (PyData.bool x).shown) H' → rReprG K [.bl x] H' Q' := fun x H' Q' h => ⟨.bl x, .bool x, [], rfl, .bl x, by rw [gd], by rw [PyData.depth]; omega, by rw [wt]; omega, h⟩
    have k12 := k1.trans k2
    refine reprB _ _ _ ?_
    generalize ed : (PyData.bool (vd nVd d []).isSome).shown = dtext
    walk_at "rd"
    refine ⟨v, d, S, rfl, hd.keep0 k12, hg, ht, hdp, hw, fun H3 k3 => ?_⟩
    walk_at "rd"
    refine reprB _ _ _ ?_
    rw [ed]
    walk_at "rd"
    refine r_ite (fun _ => ?_) (fun z => absurd rfl z)
    walk_at "rd"
    refine r_kw ?_
    walk_at "rd"
    refine ⟨v, d, S, rfl, hd.keep0 (k12.trans k3), hg, ht, hdp, hw, fun H4 k4 => ?_⟩
    walk_at "rd"
    refine reprB _ _ _ ?_
    rw [ed]
    walk_at "rd"
    refine r_ite (fun _ => ?_) (fun z => absurd rfl z)
    walk_at "rd"
    refine ⟨v, d, S, rfl, hd.keep0 ((k12.trans k3).trans k4), hg, h60, hW, ?_⟩
    rw [et]
    walk_at "rd"
    rw [decide_eq_true rfl]
    exact q _ ((k12.trans k3).trans k4)
end
end L2.Ro

end
section
set_option Elab.async false
set_option linter.all false
set_option maxRecDepth 100000
set_option maxHeartbeats 4000000
local macro_rules | `(tactic| walk_at "rd1") => `(tactic| with_reducible first
  | refine L2.Rx.r_seq ?_ | refine L2.Rx.r_asg ?_ | refine L2.Rx.r_gname ?_ | refine L2.Rx.r_op ?_ | refine L2.Rx.r_c ?_
  | refine L2.Rx.r_var rfl ?_
  | refine L2.Rx.r_rI0 ?_ | refine L2.Rx.r_test ?_ | refine L2.Rx.r_bl ?_ | refine L2.Rx.r_if ?_ | refine L2.Rx.r_ret ?_
  | refine L2.Rx.r_cons ?_ | refine L2.Rx.r_nil ?_ | refine L2.Rx.r_call ?_ | refine L2.Rx.r_cb ?_ | refine L2.Rx.r_next ?_ | refine L2.Rx.r_drop ?_
  | refine L2.Rx.r_gsub ?_ | refine L2.Rx.r_tupF ?_ | refine L2.Rx.r_lst ?_ | refine L2.Rx.r_par ?_ | refine L2.Rx.r_par2 ?_
  | refine L2.Rx.r_un ?_ | refine L2.Rx.r_tb ?_ | refine L2.Rx.r_and ?_ | refine L2.Rx.r_or ?_ | refine L2.Rx.r_not ?_
  | refine L2.Rx.r_andV ?_ | refine L2.Rx.r_orV ?_ | refine L2.Rx.r_notV ?_ | refine L2.Rx.r_ifx ?_ | refine L2.Rx.r_chain ?_
  | refine L2.Rx.r_sl ?_ | refine L2.Rx.r_nopart ?_ | refine L2.Rx.r_part ?_ | refine L2.Rx.r_exint ?_ | refine L2.Rx.r_bm0 ?_ | refine L2.Rx.r_bm ?_
  | refine L2.Rx.r_lc ?_ | refine L2.Rx.r_rng1 ?_ | refine L2.Rx.r_yes ?_ | refine L2.Rx.r_tt ?_ | refine L2.Rx.r_ff ?_ | refine L2.Rx.r_m1 ?_ | refine L2.Rx.r_m0 ?_ | refine L2.Rx.r_isS ?_
  | (refine L2.Rx.r_wipe (by with_unfolding_all rfl) ?_) | (refine L2.Rx.r_tyL (by walk_at "hp") ?_)
  | refine L2.Rx.r_addS (by walk_at "len") ?_ | refine L2.Rx.r_lenS (by walk_at "len") ?_ | refine L2.Rx.r_slS (by walk_at "len") ?_
  | refine L2.Rx.r_dnotin ?_ | refine L2.Rx.r_dget ?_ | refine L2.Rx.r_dget1 ?_ | refine L2.Rx.r_dput ?_ | refine L2.Rx.r_dpop1 ?_ | refine L2.Rx.r_isN ?_
  | refine L2.Rx.r_for ?_ | refine L2.Rx.r_ilist ?_ | refine L2.Rx.r_itup ?_
  | refine L2.Rx.r_gcons ?_ | refine L2.Rx.r_gnil ?_ | (refine L2.Rx.r_gtupP (by assumption) (by walk_at "at") ?_)
  | (refine L2.Rx.r_rEq rfl ?_) | (refine L2.Rx.r_rNe rfl ?_)
  | refine L2.Rx.r_rU ?_ | refine L2.Rx.r_max2 ?_ | refine L2.Rx.r_min2 ?_ | refine L2.Rx.r_int1i ?_ | (refine L2.Rx.r_lenh (by walk_at "hp") ?_)
  | (refine L2.Rx.r_ixLh (by walk_at "hp") (by walk_at "at") ?_)
  | (refine L2.Rx.r_setL (by walk_at "hp") (by walk_at "at") ?_))
local macro_rules | `(tactic| walk_at "at") => `(tactic| with_unfolding_all rfl)
local macro_rules | `(tactic| walk_at "rd") => `(tactic| (repeat walk_at "rd1"))
local macro_rules | `(tactic| walk_at "hp") => `(tactic| first
  | assumption
  | exact L2.upd_same
  | (refine Eq.trans (L2.upd_ne ?_) ?_; (focus walk_at "ne"); (focus walk_at "hp"))
  | (refine L2.Rx.Kp.at0 (by assumption) ?_; walk_at "hp")
  | (refine L2.Rx.Kp.at1 (by assumption) ?_ ?_; (focus walk_at "ne"); (focus walk_at "hp")))
local macro_rules | `(tactic| walk_at "ne") => `(tactic| first
  | assumption | exact Ne.symm (by assumption)
  | (refine L2.ne_of_none (H := ?nH) (o := ?nO) ?nh ?nn; (case nn => assumption); (case nh => walk_at "hp"))
  | (refine Ne.symm (L2.ne_of_none (H := ?nH) (o := ?nO) ?nh ?nn); (case nn => assumption); (case nh => walk_at "hp")))
local macro_rules | `(tactic| walk_at "len") => `(tactic| (rw [PySem.sizeLine_eq]; omega))
local macro_rules | `(tactic| walk_at "nin") => `(tactic| first
  | exact List.not_mem_nil
  | (refine L2.Rx.nin1 ?_; walk_at "ne"))
local macro_rules | `(tactic| walk_at "none") => `(tactic| first
  | assumption
  | (refine L2.Rx.Kp.none0 (by assumption) ?_ ?_; (focus walk_at "nin"); (focus walk_at "none")))
namespace L2.Ro
open PySem PySem.Spec PyProof.Rows L2.Rx
local macro_rules | `(tactic| walk_at "rdB") => `(tactic| (repeat (first | walk_at "rd1" | with_reducible refine L2.Rx.r_lstB ?_ | with_reducible refine L2.Rx.r_revT ?_)))
def sp_law (K : PySem.W.Frag) : Sp := fun vs H Q _ => ∃ (a : Addr) (ns : List Int), vs = [.ref a] ∧ SqL K H a (ns.map V.int) ∧ ∀ H', Q (.bl true) H'
structure Fit (d : PyData) : Prop where
  g : gd d = true
  t : tl d ≤ 300
  dp : d.depth ≤ nVd
  w : wt d ≤ 400000
def fitB (d : PyData) : Bool := gd d && (decide (tl d ≤ 300) && (decide (d.depth ≤ nVd) && decide (wt d ≤ 400000)))
theorem fit_of {d : PyData} (h : fitB d = true) : Fit d := by
  rw [fitB, Bool.and_eq_true, Bool.and_eq_true, Bool.and_eq_true] at h
  exact ⟨h.1, of_decide_eq_true h.2.1, of_decide_eq_true h.2.2.1, of_decide_eq_true h.2.2.2⟩
def fst0 : List PyData := [.tuple [], .tuple [], .tuple [.tuple []], .none, .str "", .str ".", .int 1, .list [], .dict [], .tuple [.str "a"], .tuple [.str "a", .tuple []], .tuple [.str "a", .tuple [.tuple [.int 1]]], .tuple [.int 1, .tuple [.tuple [.int 1, .tuple []]]]]
theorem fst0_fit : ∀ d ∈ fst0, Fit d := fun d hd => fit_of (List.all_eq_true.mp (by decide +kernel : fst0.all fitB = true) d hd)
def wTr : Nat → Nat
  | 0 => 8
  | n + 1 => 108 + 3 * (wTr n + 38)
theorem wTr_ge : ∀ n, 8 ≤ wTr n
  | 0 => Nat.le_refl _
  | n + 1 => by rw [wTr]; omega
theorem wTr_le : ∀ n, n ≤ 5 → wTr n ≤ 30000 := by decide +kernel
theorem wts_le {ds : List PyData} {m : Nat} (h : ∀ d ∈ ds, wt d ≤ m) : wts ds ≤ ds.length * (m + 2) := by
  induction ds with
  | nil => simp [wts]
  | cons d ds ih =>
    rw [wts, List.length_cons, Nat.succ_mul]
    have := h d (List.mem_cons_self ..)
    have := ih fun e he => h e (List.mem_cons_of_mem _ he)
    omega
theorem okt_gm {n : Nat} {cs : List Str} {t : Tr} (h : Okt n cs t) (hc : ∀ c ∈ cs, Cell c) : gm 1000000000 t.d = true ∧ wt t.d ≤ wTr n := by
  induction h with
  | lf n cs =>
    rw [Tr.d, gm, gms, wt, wts]
    exact ⟨rfl, wTr_ge n⟩
  | @nd n cs cs' c bs h1 h2 h3 h4 h5 h6 h7 h8 ih =>
    obtain ⟨a, b⟩ := cell_gm (m := 1000000000) (hc c h1)
    have ih' := fun p hp => ih p hp fun x hx => hc x (h3 x hx)
    rw [Tr.d, wt_tup, wts, wts, wts, wt_tup, wTr]
    refine ⟨?_, ?_⟩
    · rw [gm, gms, gms, gms, a, gm, gms_mem.mpr]
      · rfl
      · intro d hd
        rw [brd_eq] at hd
        obtain ⟨p, hp, rfl⟩ := List.mem_map.mp hd
        rw [gm, gms, gms, gms, gm, (ih' p hp).1, decide_eq_true (by have := h7 p hp; omega)]
        rfl
    · have := wts_le (ds := brd bs) (m := wTr n + 36) fun d hd => by
        rw [brd_eq] at hd
        obtain ⟨p, hp, rfl⟩ := List.mem_map.mp hd
        rw [wt_tup, wts, wts, wts, wt]
        have := (ih' p hp).2
        omega
      rw [brd_len] at this
      have := Nat.mul_le_mul_right (wTr n + 36 + 2) h5
      omega
theorem nTree_le : ∀ n, n ≤ 5 → nTree n ≤ 5000 := by decide +kernel
section
variable {P : Program} {w : World} {K : PySem.W.Frag} {mg : Str → Option Value} {base : Heap}
theorem k_law {f : Addr} {fd : FuncData} (F : Fun K "law" "law" s_law f fd) (g : mg "law" = some (.ref f)) (z : Zb mg) (k_box : Kn P w K mg base CX0 1 "_law_box" (sp_box K)) (k_take : Kn P w K mg base CX0 1 "_law_take" sp_take) (k_cells : Kn P w K mg base CX0 3 "_law_cells" sp_cells) (k_tree : Kn P w K mg base CX0 12 "_law_tree" (sp_treeA K)) (k_bent : Kn P w K mg base CX0 44 "_law_bent" (sp_bent 40)) (k_right : Kn P w K mg base CX0 43 "_law_right" sp_right)  : FnG P w K mg base CX0 45 f fd ["_law_script"] (sp_law K) := by
  refine fnG_body F sc_law (fun vs H Q E h => ?_) (fun cdv A outer s H vs Q E hr h => ?_)
  · obtain ⟨a, ns, rfl, _⟩ := h
    rfl
  · obtain ⟨a, ns, rfl, hS, q⟩ := h
    refine ⟨_, PSs.nox (pss_cons (ps_for PassesOwn.never rfl (pi_range1 rfl z.n_range (pa_cons (pe_callB (c_max2 rfl) (by rfl) z.n_max (by decide +kernel) (pa_cons pe_int (pa_cons (pe_callB (c_min2 rfl) (by rfl) z.n_min (by decide +kernel) (pa_cons pe_int (pa_cons (pe_callB (show CallR _ _ (rLenQ K) from c_len) (by rfl) z.n_len (by decide +kernel) (pa_cons (pv 0) pa_nil)) pa_nil))) pa_nil))) pa_nil)) (pg_name (i := 1) sc_law.nd rfl (.inl rfl))
        (pss_cons (ps_set (i := 2) sc_law.nd rfl (.inl rfl) (k_box.call hr (by decide) (by rfl) (pa_cons (pv 0) (pa_cons (pv 1) pa_nil))))
        (pss_cons (ps_set (i := 3) sc_law.nd rfl (.inl rfl) (k_cells.call hr (by decide) (by rfl) (pa_cons (pv 2) (pa_cons (pe_op op_add pe_int (k_take.call hr (by decide) (by rfl) (pa_cons (pv 2) (pa_cons pe_int pa_nil)))) pa_nil))))
        (pss_cons (ps_set (i := 4) sc_law.nd rfl (.inl rfl) (pe_lstB (pa_cons (pe_tupF pa_nil) (pa_cons (pe_tupF pa_nil) (pa_cons (pe_tupF (pa_cons (pe_tupF pa_nil) pa_nil)) (pa_cons pe_non (pa_cons pe_str (pa_cons pe_str (pa_cons pe_int (pa_cons (pe_lstB pa_nil) (pa_cons pe_dnewK (pa_cons (pe_tupF (pa_cons pe_str pa_nil)) (pa_cons (pe_tupF (pa_cons pe_str (pa_cons (pe_tupF pa_nil) pa_nil))) (pa_cons (pe_tupF (pa_cons pe_str (pa_cons (pe_tupF (pa_cons (pe_tupF (pa_cons pe_int pa_nil)) pa_nil)) pa_nil))) (pa_cons (pe_tupF (pa_cons pe_int (pa_cons (pe_tupF (pa_cons (pe_tupF (pa_cons pe_int (pa_cons (pe_tupF pa_nil) pa_nil))) pa_nil)) pa_nil))) pa_nil)))))))))))))))
        (pss_cons (ps_for PassesOwn.never rfl (pi_range1 rfl z.n_range (pa_cons pe_int pa_nil)) (pg_name (i := 5) sc_law.nd rfl (.inl rfl))
          (pss_cons (ps_set (i := 6) sc_law.nd rfl (.inl rfl) (k_tree.call hr (by decide) (by rfl) (pa_cons (pv 2) (pa_cons (pv 3) (pa_cons pe_int pa_nil)))))
          (pss_cons (ps_expr (show PE _ _ (tBM K _ _ _ _) from pe_bm PySem.F.plainAttrs_list PySem.F.slot_list_append PySem.F.type_list_append mt_append (pv 4) (pa_cons (pv 6) pa_nil)))
          (pss_one (ps_for PassesOwn.never rfl (pi_range1 rfl z.n_range (pa_cons pe_int pa_nil)) (pg_name (i := 7) sc_law.nd rfl (.inl rfl))
            (pss_cons (ps_set (i := 8) sc_law.nd rfl (.inl rfl) (k_bent.call hr (by decide) (by rfl) (pa_cons (pv 2) (pa_cons (pv 6) (pa_cons (pv 3) pa_nil)))))
            (pss_one (ps_expr (show PE _ _ (tBM K _ _ _ _) from pe_bm PySem.F.plainAttrs_list PySem.F.slot_list_extend PySem.F.type_list_extend mt_extend (pv 4) (pa_cons (pe_lstB (pa_cons (pv 8) (pa_cons (k_bent.call hr (by decide) (by rfl) (pa_cons (pv 2) (pa_cons (pv 8) (pa_cons (pv 3) pa_nil)))) pa_nil))) pa_nil))))))))))
        (pss_one (ps_if (pt_not (pt_val (pe_callB (show CallR _ _ (rAll K) from (cr_all rfl)) (by rfl) z.n_all (by decide +kernel) (pa_cons (pe_lc (own := [("_law_item", 9)]) (g := (gName 9)) (by rfl) sc_law.nd (show PI _ _ _ (iList K _) from pi_list (pv 4)) (blkOk_by (own := [("_law_item", 9)]) (N := ["_law_script", "_law_nth", "_law_box_here", "_law_names", "_law_some", "_law_turn", "_law_reader", "_law_again", "_law_bent_here", "_law_item"]) (sc := defScope s_law) (by decide +kernel)) (fun _ _ _ _ _ => (pg_name (i := 9) sc_law.nd rfl (.inl rfl))) (fun _ _ _ _ _ => pts_nil) (fun _ _ _ _ _ => (k_right.call hr (by decide) (by rfl) (pa_cons (pv 9) pa_nil)))) pa_nil))))
          (pss_one (ps_ret pe_bl))
          pss_nil)))))))
      (pss_one (ps_ret pe_bl))), ?_⟩
    walk_at "rd"
    refine r_len (.inl hS) ?_
    walk_at "rd"
    refine r_rngv (by omega) (by omega) ?_
    refine for_range (lo := 0) (n := (max 1 (min 3 (((ns.map V.int).length : Nat) : Int))).toNat) (fun i σ' H' => ∃ (x1 x2 x3 x4 x5 x6 x7 x8 x9 : Option V), σ' = [some (.ref a), x1, x2, x3, x4, x5, x6, x7, x8, x9] ∧ Kp [] H H') ⟨_, _, _, _, _, _, _, _, _, rfl, Kp.refl⟩ ?_ ?_
    · rintro i σ' H1 hi ⟨x1, x2, x3, x4, x5, x6, x7, x8, x9, rfl, kp1⟩
      walk_at "rd"
      refine ⟨a, ns, _, rfl, kp_sqL kp1 (by simp) hS, by omega, by omega, fun H2 p kp2 np B => ?_⟩
      have kH2 : Kp [] H H2 := kp1.trans kp2
      have npH : H p = none := kp1.none0 (by simp) np
      clear kp1 kp2 hS
      walk_at "rd"
      refine ⟨p, 999999999, _, rfl, B.mono (by omega), by decide, by decide, fun H3 r kp3 B3 r0 r1 => ?_⟩
      walk_at "rd"
      refine ⟨p, 999999900, _, rfl, B3.mono (by omega), by omega, by omega, fun H4 cp cs kp4 ncp B4 hcp lcs Cs => ?_⟩
      have cpp : cp ≠ p := by
        obtain ⟨_, hb⟩ := B3.lst
        exact Ne.symm (ne_of_none hb ncp)
      obtain ⟨pb0, hpb⟩ := B4.lst
      have kH4 : Kp [p] H2 H4 := kp3.trans kp4
      clear kp3 kp4 ncp
      have l6 : 0 < cs.length ∧ cs.length ≤ 5 := by omega
      walk_at "rdB"
      refine r_newF rfl fun f1 of1 nf1 df1 => ?_
      refine gen_newT nf1 df1 fun N1 kn1 hf1 => ?_
      walk_at "rdB"
      refine r_newF rfl fun f2 of2 nf2 df2 => ?_
      refine gen_newT nf2 df2 fun N2 kn2 hf2 => ?_
      walk_at "rdB"
      refine r_newF rfl fun f3 of3 nf3 df3 => ?_
      refine gen_newT nf3 df3 fun N3 kn3 hf3 => ?_
      walk_at "rdB"
      refine r_newF rfl fun f4 of4 nf4 df4 => ?_
      refine gen_newT nf4 df4 fun N4 kn4 hf4 => ?_
      walk_at "rdB"
      refine r_newB rfl fun p5 np5 zp5 => ?_
      refine gen_new np5 fun N5 kn5 hp5 => ?_
      walk_at "rdB"
      refine r_dnew fun p6 np6 => ?_
      refine gen_new np6 fun N6 kn6 hp6 => ?_
      walk_at "rdB"
      refine r_newF rfl fun f7 of7 nf7 df7 => ?_
      refine gen_newT nf7 df7 fun N7 kn7 hf7 => ?_
      walk_at "rdB"
      refine r_newF rfl fun f8 of8 nf8 df8 => ?_
      refine gen_newT nf8 df8 fun N8 kn8 hf8 => ?_
      walk_at "rdB"
      refine r_newF rfl fun f9 of9 nf9 df9 => ?_
      refine gen_newT nf9 df9 fun N9 kn9 hf9 => ?_
      walk_at "rdB"
      refine r_newF rfl fun f10 of10 nf10 df10 => ?_
      refine gen_newT nf10 df10 fun N10 kn10 hf10 => ?_
      walk_at "rdB"
      refine r_newF rfl fun f11 of11 nf11 df11 => ?_
      refine gen_newT nf11 df11 fun N11 kn11 hf11 => ?_
      walk_at "rdB"
      refine r_newF rfl fun f12 of12 nf12 df12 => ?_
      refine gen_newT nf12 df12 fun N12 kn12 hf12 => ?_
      walk_at "rdB"
      refine r_newF rfl fun f13 of13 nf13 df13 => ?_
      refine gen_newT nf13 df13 fun N13 kn13 hf13 => ?_
      walk_at "rdB"
      refine r_newF rfl fun f14 of14 nf14 df14 => ?_
      refine gen_newT nf14 df14 fun N14 kn14 hf14 => ?_
      walk_at "rdB"
      refine r_newF rfl fun f15 of15 nf15 df15 => ?_
      refine gen_newT nf15 df15 fun N15 kn15 hf15 => ?_
      walk_at "rdB"
      refine r_newF rfl fun f16 of16 nf16 df16 => ?_
      refine gen_newT nf16 df16 fun N16 kn16 hf16 => ?_
      walk_at "rdB"
      have kA : Kp [] H4 N16 := (((((((((((((((kn1).trans kn2).trans kn3).trans kn4).trans kn5).trans kn6).trans kn7).trans kn8).trans kn9).trans kn10).trans kn11).trans kn12).trans kn13).trans kn14).trans kn15).trans kn16
      have outp : ∀ {H' : Hp} {z : Addr}, Kp [] H4 H' → H' z = none → z ∉ ([p] : List Addr) := fun {H' z} k e m => by
        have e2 : z = p := by simpa using m
        rw [e2, k.at0 hpb] at e
        cases e
      have D1 : Dg N16 [p] (.ref f1) (.tuple []) := (.tup (hf1.keep0 (((((((((((((((kn2).trans kn3).trans kn4).trans kn5).trans kn6).trans kn7).trans kn8).trans kn9).trans kn10).trans kn11).trans kn12).trans kn13).trans kn14).trans kn15).trans kn16)).rd .nil)
      have D2 : Dg N16 [p] (.ref f2) (.tuple []) := (.tup (hf2.keep0 ((((((((((((((kn3).trans kn4).trans kn5).trans kn6).trans kn7).trans kn8).trans kn9).trans kn10).trans kn11).trans kn12).trans kn13).trans kn14).trans kn15).trans kn16)).rd .nil)
      have D4 : Dg N16 [p] (.ref f4) (.tuple [.tuple []]) := (.tup (hf4.keep0 ((((((((((((kn5).trans kn6).trans kn7).trans kn8).trans kn9).trans kn10).trans kn11).trans kn12).trans kn13).trans kn14).trans kn15).trans kn16)).rd (.cons (.tup (hf3.keep0 (((((((((((((kn4).trans kn5).trans kn6).trans kn7).trans kn8).trans kn9).trans kn10).trans kn11).trans kn12).trans kn13).trans kn14).trans kn15).trans kn16)).rd .nil) .nil))
      have D5 : Dg N16 [p] (.ref p5) (.list []) := .lst ((((((((((((kn6).trans kn7).trans kn8).trans kn9).trans kn10).trans kn11).trans kn12).trans kn13).trans kn14).trans kn15).trans kn16).at0 hp5) (outp ((((kn1).trans kn2).trans kn3).trans kn4) np5) zp5 .nil
      have D6 : Dg N16 [p] (.ref p6) (.dict []) := .d0 (((((((((((kn7).trans kn8).trans kn9).trans kn10).trans kn11).trans kn12).trans kn13).trans kn14).trans kn15).trans kn16).at0 hp6) (outp (((((kn1).trans kn2).trans kn3).trans kn4).trans kn5) np6)
      have D7 : Dg N16 [p] (.ref f7) (.tuple [.str "a"]) := (.tup (hf7.keep0 (((((((((kn8).trans kn9).trans kn10).trans kn11).trans kn12).trans kn13).trans kn14).trans kn15).trans kn16)).rd (.cons (.str _) .nil))
      have D9 : Dg N16 [p] (.ref f9) (.tuple [.str "a", .tuple []]) := (.tup (hf9.keep0 (((((((kn10).trans kn11).trans kn12).trans kn13).trans kn14).trans kn15).trans kn16)).rd (.cons (.str _) (.cons (.tup (hf8.keep0 ((((((((kn9).trans kn10).trans kn11).trans kn12).trans kn13).trans kn14).trans kn15).trans kn16)).rd .nil) .nil)))
      have D12 : Dg N16 [p] (.ref f12) (.tuple [.str "a", .tuple [.tuple [.int 1]]]) := (.tup (hf12.keep0 ((((kn13).trans kn14).trans kn15).trans kn16)).rd (.cons (.str _) (.cons (.tup (hf11.keep0 (((((kn12).trans kn13).trans kn14).trans kn15).trans kn16)).rd (.cons (.tup (hf10.keep0 ((((((kn11).trans kn12).trans kn13).trans kn14).trans kn15).trans kn16)).rd (.cons (.int _) .nil)) .nil)) .nil)))
      have D16 : Dg N16 [p] (.ref f16) (.tuple [.int 1, .tuple [.tuple [.int 1, .tuple []]]]) := (.tup (hf16.keep0 (Kp.refl)).rd (.cons (.int _) (.cons (.tup (hf15.keep0 (kn16)).rd (.cons (.tup (hf14.keep0 ((kn15).trans kn16)).rd (.cons (.int _) (.cons (.tup (hf13.keep0 (((kn14).trans kn15).trans kn16)).rd .nil) .nil))) .nil)) .nil)))
      have DA : DgAll N16 [p] [.ref f1, .ref f2, .ref f4, .non, .str "", .str ".", .int 1, .ref p5, .ref p6, .ref f7, .ref f9, .ref f12, .ref f16] fst0 := .cons D1 (.cons D2 (.cons D4 (.cons .non (.cons (.str _) (.cons (.str _) (.cons (.int _) (.cons D5 (.cons D6 (.cons D7 (.cons D9 (.cons D12 (.cons D16 .nil))))))))))))
      clear D1 D2 D4 D5 D6 D7 D9 D12 D16 hf1 hf2 hf3 hf4 hp5 hp6 hf7 hf8 hf9 hf10 hf11 hf12 hf13 hf14 hf15 hf16
      refine r_newB rfl fun s ns' zs => ?_
      generalize eX : ([.ref f1, .ref f2, .ref f4, .non, .str "", .str ".", .int 1, .ref p5, .ref p6, .ref f7, .ref f9, .ref f12, .ref f16] : List V) = X0 at DA ⊢
      have lX : X0.length = 13 := by rw [← eX]; rfl
      have ff := fst0_fit
      generalize fst0 = F0 at DA ff
      clear eX
      have sp : s ≠ p := Ne.symm (ne_of_none (kA.at0 hpb) ns')
      have scp : s ≠ cp := Ne.symm (ne_of_none (kA.at0 hcp) ns')
      have DB := DA.sub (T := [p, s]) fun z hz => by
        rcases List.mem_cons.mp hz with e | e
        · exact .inl (by rw [e]; exact List.mem_cons_self ..)
        · exact .inr (by rw [show z = s by simpa using e]; exact ns')
      clear DA
      refine gen_new ns' fun M k0 hs => ?_
      replace DB := DB.keep0 k0
      have B5 : Box M p 999999900 := (B4.keep kA).keep k0
      have hcpM := (kA.trans k0).at0 hcp
      have kM : Kp [p] H2 M := kH4.trans (Kp.to1 (kA.trans k0))
      have nsH2 : H2 s = none := by
        refine kH4.none0 (by simpa using sp) (kA.none0 (by simp) ns')
      clear B4 hcp hpb kA k0 outp
      clear kn1 kn2 kn3 kn4 kn5 kn6 kn7 kn8 kn9 kn10 kn11 kn12 kn13 kn14 kn15 kn16
      walk_at "rd"
      refine r_rngv (by decide) (by decide) ?_
      have mu : ∀ {M' : Hp} {xs : List V} {n : Nat}, M' s = some (.lst xs) → Box M' p n → Mu M' [p, s] := fun {M' xs n} h b => by
        obtain ⟨_, hb⟩ := b.lst
        exact Mu.cons (by rw [hb]; exact True.intro) (Mu.lst h)
      refine for_range (lo := 0) (n := 3) (fun j σ' M' => ∃ (y5 y6 y7 y8 y9 : Option V) (xs : List V) (ds : List PyData), σ' = [some (.ref a), some (.int (0 + (i : Int))), some (.ref p), some (.ref cp), some (.ref s), y5, y6, y7, y8, y9] ∧ Kp [p, s] M M' ∧ M' s = some (.lst xs) ∧ xs.length ≤ 13 + 11 * j ∧ DgAll M' [p, s] xs ds ∧ (∀ d ∈ ds, Fit d) ∧ Box M' p (100000 * (4 - j))) ⟨_, _, _, _, _, X0, F0, rfl, Kp.refl, hs, by omega, DB, ff, B5.mono (by omega)⟩ ?_ ?_
      · rintro j σ' M1 hj ⟨y5, y6, y7, y8, y9, xs, ds, rfl, k1, hs1, lxs, D1, f1, B1⟩
        clear hs lX DB ff
        have hcp1 : M1 cp = some (.lst (cs.map V.str)) := k1 _ _ (by simp [cpp, Ne.symm scp]) hcpM
        have mu1 := mu hs1 B1
        have nt := nTree_le cs.length l6.2
        have e4 : 4 - j = (3 - j) + 1 := by omega
        rw [e4, Nat.mul_succ] at B1
        walk_at "rd"
        refine ⟨cs.length, by omega, p, cp, 100000 * (3 - j) + 10000, 10, cs, rfl, B1.mono (by omega), .inl (.inl hcp1), cpp, Cs, rfl, by omega, by decide, fun M2 v t k2 B2 dt ok t10 => ?_⟩
        have k2S : Kp [p, s] M1 M2 := k2.mono (by simp)
        have hs2 := k2.at1 sp hs1
        have mu2 := mu hs2 B2
        have D2 := D1.keep k2S mu1
        have hv2 : Dg M2 [p, s] v t.d := Dg.ofDq _ _ ok.noL dt
        obtain ⟨g0, w0⟩ := okt_gm ok Cs.2
        have w5 := wTr_le cs.length l6.2
        have d0 := ok.depth
        have gr : gm 1000000001 t.d = true := gm_mono (by omega) _ g0
        have fr : Fit t.d := ⟨gm_gd (by omega) _ gr, by omega, Nat.le_trans d0 (by show 3 * cs.length + 1 ≤ 40; omega), by omega⟩
        have tr : tl t.d ≤ 10 := by omega
        have wr : wt t.d ≤ 30000 := by omega
        have dr : t.d.depth ≤ 16 := by omega
        clear D1 hs1 mu1 B1 dt
        walk_at "rd"
        refine r_app0 hs2 (by omega) ?_
        refine gen_put fun M3 k3 hs3 => ?_
        have k3S : Kp [p, s] M2 M3 := k3.mono (by simp)
        have D3 := (D2.keep k3S mu2).append (.cons (hv2.keep k3S mu2) .nil)
        have hv3 := hv2.keep k3S mu2
        have B3' := B2.keepS k3 (nin1 (Ne.symm sp))
        have f3 : ∀ d ∈ ds ++ [t.d], Fit d := fun d hd => (List.mem_append.mp hd).elim (f1 d) fun z => by rw [show d = t.d by simpa using z]; exact fr
        have kk3 : Kp [p, s] M M3 := (k1.trans k2S).trans k3S
        have l3 : (xs ++ [v]).length ≤ 13 + 11 * j + 1 := by rw [List.length_append, List.length_singleton]; omega
        clear D2 hv2 hs2 B2 mu2 k1 k2 k2S k3 k3S hcp1 f1
        walk_at "rd"
        refine r_rngv (by decide) (by decide) ?_
        refine for_range (lo := 0) (n := 5) (fun u σ' M' => ∃ (y7 y8 : Option V) (zs : List V) (es : List PyData), σ' = [some (.ref a), some (.int (0 + (i : Int))), some (.ref p), some (.ref cp), some (.ref s), some (.int (0 + (j : Int))), some v, y7, y8, y9] ∧ Kp [p, s] M M' ∧ M' s = some (.lst zs) ∧ zs.length ≤ 14 + 11 * j + 2 * u ∧ DgAll M' [p, s] zs es ∧ (∀ d ∈ es, Fit d) ∧ Dg M' [p, s] v t.d ∧ Box M' p (100000 * (3 - j) + 1000 * (6 - u))) ⟨_, _, _, _, rfl, kk3, hs3, by omega, D3, f3, hv3, B3'.mono (by omega)⟩ ?_ ?_
        · rintro u σ' M4 hu ⟨z7, z8, zs, es, rfl, k4, hs4, lzs, D4, f4, hv4, B4⟩
          clear D3 hv3 hs3 B3' kk3 f3 l3
          have hcp4 : M4 cp = some (.lst (cs.map V.str)) := k4 _ _ (by simp [cpp, Ne.symm scp]) hcpM
          have mu4 := mu hs4 B4
          have e6 : 6 - u = (5 - u) + 1 := by omega
          rw [e6, Nat.mul_succ] at B4
          walk_at "rd"
          refine ⟨p, cp, 100000 * (3 - j) + 1000 * (5 - u) + 500, 1000000001, v, t.d, cs, [p, s], rfl, B4.mono (by omega), by simp, mu4, hcp4, cpp, Cs, l6.1, by omega, hv4, gr, by omega, by omega, by omega, by omega, fun M5 v5 d5 k5 B5' hv5 b5 => ?_⟩
          have k5S : Kp [p, s] M4 M5 := k5.mono (by simp)
          have hs5 := k5.at1 sp hs4
          have hcp5 := k5.at1 cpp hcp4
          have mu5 := mu hs5 B5'
          have D5 := D4.keep k5S mu4
          have hvr5 := hv4.keep k5S mu4
          have t5 := b5.t
          have w5' := b5.w
          have p5 := b5.dp
          have fit5 : Fit d5 := ⟨gm_gd (by omega) _ b5.g, by omega, Nat.le_trans p5 (by show t.d.depth + 5 ≤ 40; omega), by omega⟩
          clear D4 hv4 mu4
          walk_at "rdB"
          refine ⟨p, cp, 100000 * (3 - j) + 1000 * (5 - u), 1000000002, v5, d5, cs, [p, s], rfl, B5'.mono (by omega), by simp, mu5, hcp5, cpp, Cs, l6.1, by omega, hv5, b5.g, by omega, by omega, by omega, by omega, fun M6 v6 d6 k6 B6 hv6 b6 => ?_⟩
          have k6S : Kp [p, s] M5 M6 := k6.mono (by simp)
          have hs6 := k6.at1 sp hs5
          have mu6 := mu hs6 B6
          have D6 := D5.keep k6S mu5
          have hvr6 := hvr5.keep k6S mu5
          have hv56 := hv5.keep k6S mu5
          have t6 := b6.t
          have w6 := b6.w
          have p6 := b6.dp
          have fit6 : Fit d6 := ⟨gm_gd (by omega) _ b6.g, by omega, Nat.le_trans p6 (by show d5.depth + 5 ≤ 40; omega), by omega⟩
          walk_at "rdB"
          refine r_newB rfl fun qa nqa zqa => ?_
          refine gen_new nqa fun M7 k7 hqa => ?_
          refine r_nil ?_
          have hs7 := k7.at0 hs6
          refine r_extend hs7 hqa (by show zs.length + 2 ≤ 1000000; omega) ?_
          have B7 := B6.keep k7
          have mu7 := mu hs7 B7
          refine gen_put fun M8 k8 hs8 => ?_
          have k8S : Kp [p, s] M7 M8 := k8.mono (by simp)
          walk_at "rd"
          refine ⟨_, _, zs ++ [v5, v6], es ++ [d5, d6], rfl, (((k4.trans k5S).trans k6S).trans (Kp.mono k7 (by simp))).trans k8S, hs8, ?_, ?_, ?_, (hvr6.keep0 k7).keep k8S mu7, ?_⟩
          · rw [List.length_append]
            show zs.length + 2 ≤ _
            omega
          · exact ((D6.keep0 k7).keep k8S mu7).append (.cons ((hv56.keep0 k7).keep k8S mu7) (.cons ((hv6.keep0 k7).keep k8S mu7) .nil))
          · intro d hd
            rcases List.mem_append.mp hd with z | z
            · exact f4 d z
            · rcases List.mem_cons.mp z with z | z
              · rw [z]; exact fit5
              · rw [show d = d6 by simpa using z]; exact fit6
          · refine (B7.keepS k8 (nin1 (Ne.symm sp))).mono ?_
            have : 6 - (u + 1) = 5 - u := by omega
            rw [this]
            exact Nat.le_refl _
        · rintro σ' M4 ⟨z7, z8, zs, es, rfl, k4, hs4, lzs, D4, f4, hv4, B4⟩
          walk_at "rd"
          refine ⟨_, _, _, _, _, zs, es, rfl, k4, hs4, by omega, D4, f4, B4.mono ?_⟩
          have : 4 - (j + 1) = 3 - j := by omega
          rw [this]
          omega
      · rintro σ' M1 ⟨y5, y6, y7, y8, y9, xs, ds, rfl, k1, hs1, lxs, D1, f1, B1⟩
        walk_at "rd"
        refine r_walkL (.inl (.inl hs1)) ?_
        intro D nD
        have k2H : Kp [] H M1 := by
          refine (kH2.dropT (kM.dropT k1 fun z hz => ?_) fun z hz => .inr (by rw [show z = p by simpa using hz]; exact npH))
          rcases List.mem_cons.mp hz with e | e
          · exact .inl (by rw [e]; exact List.mem_cons_self ..)
          · exact .inr (by rw [show z = s by simpa using e]; exact nsH2)
        refine lc_list (K := K) (a := s) (xs := xs) (PvL D (fun i acc H' => acc = (List.replicate i true).map V.bl ∧ Kp [] M1 H')) ⟨[], upd_same, Nat.le_refl _, rfl, Kp.new nD⟩ (fun i H9 hi ⟨acc, ea, la, eacc, kp9⟩ => .inl (.inl (kp9.at0 hs1))) (fun i x H9 hx ⟨acc, ea, la, eacc, kp9⟩ => ?_) (fun H9 ⟨acc, ea, la, eacc, kp9⟩ => ?_)
        · obtain ⟨d, hd, dx⟩ := D1.at hx
          have fd := f1 d (List.mem_of_getElem? hd)
          walk_at "rd"
          refine ⟨x, d, [p, s], rfl, dx.keep0 kp9, fd.g, fd.t, fd.dp, fd.w, fun H10 k10 => ?_⟩
          have hi1 : i < 1000000 := by
            have := (List.getElem?_eq_some_iff.mp hx).1
            omega
          refine PvL.step (k10.at0 ea) la (by omega) ⟨?_, (kp9.trans k10).new0 nD⟩
          rw [List.replicate_succ', List.map_append, eacc]
          rfl
        refine ⟨D, List.replicate xs.length true, rfl, .inl (.inl (ea.trans (by rw [eacc]))), ?_⟩
        have eall : (List.replicate xs.length true).all id = true := by
          rw [List.all_eq_true]
          intro z hz
          rw [List.eq_of_mem_replicate hz]
          rfl
        rw [eall]
        walk_at "rd"
        exact ⟨_, _, _, _, _, _, _, _, _, rfl, k2H.trans kp9⟩
    · rintro σ' H1 ⟨x1, x2, x3, x4, x5, x6, x7, x8, x9, rfl, kp1⟩
      walk_at "rd"
      exact q _
end
end L2.Ro

end
namespace L2.Ro
open PySem PySem.Spec PyProof.Rows L2.Rx
theorem all_mk {w : World} {K : PySem.W.Frag} {h : Heap} {mg : Str → Option Value} {fa : Addr} (X : K.In h) (G : h.Ns mainGlobals mg) (hfa : mg "law" = some (.ref fa))
    {f0 : Addr} {od0 an0 : Option Addr} {sl0 : Array (Option Value)} {oc0 kV0 dc0 pm0 cd0 ct0 : Value}
    (a0 : PySem.W.nsIn K mainGlobals "is_cell" = some (some (.ref f0))) (l0 : K.lookup f0 = some ⟨oc0, od0, .func (PySem.W.fnOf "is_cell" "is_cell" (defArgs s_is_cell) (defBody s_is_cell) (defScope s_is_cell) .none kV0 dc0 pm0 an0 cd0 ct0), sl0⟩) (c0 : PySem.W.codeIn K cd0 "is_cell" = true) (k0 : PySem.W.keepIn K (.ref f0) = true)
    {f1 : Addr} {od1 an1 : Option Addr} {sl1 : Array (Option Value)} {oc1 kV1 dc1 pm1 cd1 ct1 : Value}
    (a1 : PySem.W.nsIn K mainGlobals "is_integer" = some (some (.ref f1))) (l1 : K.lookup f1 = some ⟨oc1, od1, .func (PySem.W.fnOf "is_integer" "is_integer" (defArgs s_is_integer) (defBody s_is_integer) (defScope s_is_integer) .none kV1 dc1 pm1 an1 cd1 ct1), sl1⟩) (c1 : PySem.W.codeIn K cd1 "is_integer" = true) (k1 : PySem.W.keepIn K (.ref f1) = true)
    {f2 : Addr} {od2 an2 : Option Addr} {sl2 : Array (Option Value)} {oc2 kV2 dc2 pm2 cd2 ct2 : Value}
    (a2 : PySem.W.nsIn K mainGlobals "is_value" = some (some (.ref f2))) (l2 : K.lookup f2 = some ⟨oc2, od2, .func (PySem.W.fnOf "is_value" "is_value" (defArgs s_is_value) (defBody s_is_value) (defScope s_is_value) .none kV2 dc2 pm2 an2 cd2 ct2), sl2⟩) (c2 : PySem.W.codeIn K cd2 "is_value" = true) (k2 : PySem.W.keepIn K (.ref f2) = true)
    {f3 : Addr} {od3 an3 : Option Addr} {sl3 : Array (Option Value)} {oc3 kV3 dc3 pm3 cd3 ct3 : Value}
    (a3 : PySem.W.nsIn K mainGlobals "is_ascending" = some (some (.ref f3))) (l3 : K.lookup f3 = some ⟨oc3, od3, .func (PySem.W.fnOf "is_ascending" "is_ascending" (defArgs s_is_ascending) (defBody s_is_ascending) (defScope s_is_ascending) .none kV3 dc3 pm3 an3 cd3 ct3), sl3⟩) (c3 : PySem.W.codeIn K cd3 "is_ascending" = true) (k3 : PySem.W.keepIn K (.ref f3) = true)
    {f4 : Addr} {od4 an4 : Option Addr} {sl4 : Array (Option Value)} {oc4 kV4 dc4 pm4 cd4 ct4 : Value}
    (a4 : PySem.W.nsIn K mainGlobals "is_branch" = some (some (.ref f4))) (l4 : K.lookup f4 = some ⟨oc4, od4, .func (PySem.W.fnOf "is_branch" "is_branch" (defArgs s_is_branch) (defBody s_is_branch) (defScope s_is_branch) .none kV4 dc4 pm4 an4 cd4 ct4), sl4⟩) (c4 : PySem.W.codeIn K cd4 "is_branch" = true) (k4 : PySem.W.keepIn K (.ref f4) = true)
    {f5 : Addr} {od5 an5 : Option Addr} {sl5 : Array (Option Value)} {oc5 kV5 dc5 pm5 cd5 ct5 : Value}
    (a5 : PySem.W.nsIn K mainGlobals "is_node" = some (some (.ref f5))) (l5 : K.lookup f5 = some ⟨oc5, od5, .func (PySem.W.fnOf "is_node" "is_node" (defArgs s_is_node) (defBody s_is_node) (defScope s_is_node) .none kV5 dc5 pm5 an5 cd5 ct5), sl5⟩) (c5 : PySem.W.codeIn K cd5 "is_node" = true) (k5 : PySem.W.keepIn K (.ref f5) = true)
    {f6 : Addr} {od6 an6 : Option Addr} {sl6 : Array (Option Value)} {oc6 kV6 dc6 pm6 cd6 ct6 : Value}
    (a6 : PySem.W.nsIn K mainGlobals "is_reader" = some (some (.ref f6))) (l6 : K.lookup f6 = some ⟨oc6, od6, .func (PySem.W.fnOf "is_reader" "is_reader" (defArgs s_is_reader) (defBody s_is_reader) (defScope s_is_reader) .none kV6 dc6 pm6 an6 cd6 ct6), sl6⟩) (c6 : PySem.W.codeIn K cd6 "is_reader" = true) (k6 : PySem.W.keepIn K (.ref f6) = true)
    {f7 : Addr} {od7 an7 : Option Addr} {sl7 : Array (Option Value)} {oc7 kV7 dc7 pm7 cd7 ct7 : Value}
    (a7 : PySem.W.nsIn K mainGlobals "_law_box" = some (some (.ref f7))) (l7 : K.lookup f7 = some ⟨oc7, od7, .func (PySem.W.fnOf "_law_box" "_law_box" (defArgs s_box) (defBody s_box) (defScope s_box) .none kV7 dc7 pm7 an7 cd7 ct7), sl7⟩) (c7 : PySem.W.codeIn K cd7 "_law_box" = true) (k7 : PySem.W.keepIn K (.ref f7) = true)
    {f8 : Addr} {od8 an8 : Option Addr} {sl8 : Array (Option Value)} {oc8 kV8 dc8 pm8 cd8 ct8 : Value}
    (a8 : PySem.W.nsIn K mainGlobals "_law_take" = some (some (.ref f8))) (l8 : K.lookup f8 = some ⟨oc8, od8, .func (PySem.W.fnOf "_law_take" "_law_take" (defArgs s_take) (defBody s_take) (defScope s_take) .none kV8 dc8 pm8 an8 cd8 ct8), sl8⟩) (c8 : PySem.W.codeIn K cd8 "_law_take" = true) (k8 : PySem.W.keepIn K (.ref f8) = true)
    {f9 : Addr} {od9 an9 : Option Addr} {sl9 : Array (Option Value)} {oc9 kV9 dc9 pm9 cd9 ct9 : Value}
    (a9 : PySem.W.nsIn K mainGlobals "_law_of" = some (some (.ref f9))) (l9 : K.lookup f9 = some ⟨oc9, od9, .func (PySem.W.fnOf "_law_of" "_law_of" (defArgs s_of) (defBody s_of) (defScope s_of) .none kV9 dc9 pm9 an9 cd9 ct9), sl9⟩) (c9 : PySem.W.codeIn K cd9 "_law_of" = true) (k9 : PySem.W.keepIn K (.ref f9) = true)
    {f10 : Addr} {od10 an10 : Option Addr} {sl10 : Array (Option Value)} {oc10 kV10 dc10 pm10 cd10 ct10 : Value}
    (a10 : PySem.W.nsIn K mainGlobals "_law_cells" = some (some (.ref f10))) (l10 : K.lookup f10 = some ⟨oc10, od10, .func (PySem.W.fnOf "_law_cells" "_law_cells" (defArgs s_cells) (defBody s_cells) (defScope s_cells) .none kV10 dc10 pm10 an10 cd10 ct10), sl10⟩) (c10 : PySem.W.codeIn K cd10 "_law_cells" = true) (k10 : PySem.W.keepIn K (.ref f10) = true)
    {f11 : Addr} {od11 an11 : Option Addr} {sl11 : Array (Option Value)} {oc11 kV11 dc11 pm11 cd11 ct11 : Value}
    (a11 : PySem.W.nsIn K mainGlobals "_law_values" = some (some (.ref f11))) (l11 : K.lookup f11 = some ⟨oc11, od11, .func (PySem.W.fnOf "_law_values" "_law_values" (defArgs s_values) (defBody s_values) (defScope s_values) .none kV11 dc11 pm11 an11 cd11 ct11), sl11⟩) (c11 : PySem.W.codeIn K cd11 "_law_values" = true) (k11 : PySem.W.keepIn K (.ref f11) = true)
    {f12 : Addr} {od12 an12 : Option Addr} {sl12 : Array (Option Value)} {oc12 kV12 dc12 pm12 cd12 ct12 : Value}
    (a12 : PySem.W.nsIn K mainGlobals "_law_tree" = some (some (.ref f12))) (l12 : K.lookup f12 = some ⟨oc12, od12, .func (PySem.W.fnOf "_law_tree" "_law_tree" (defArgs s_tree) (defBody s_tree) (defScope s_tree) .none kV12 dc12 pm12 an12 cd12 ct12), sl12⟩) (c12 : PySem.W.codeIn K cd12 "_law_tree" = true) (k12 : PySem.W.keepIn K (.ref f12) = true)
    {f13 : Addr} {od13 an13 : Option Addr} {sl13 : Array (Option Value)} {oc13 kV13 dc13 pm13 cd13 ct13 : Value}
    (a13 : PySem.W.nsIn K mainGlobals "_law_due" = some (some (.ref f13))) (l13 : K.lookup f13 = some ⟨oc13, od13, .func (PySem.W.fnOf "_law_due" "_law_due" (defArgs s_due) (defBody s_due) (defScope s_due) .none kV13 dc13 pm13 an13 cd13 ct13), sl13⟩) (c13 : PySem.W.codeIn K cd13 "_law_due" = true) (k13 : PySem.W.keepIn K (.ref f13) = true)
    {f14 : Addr} {od14 an14 : Option Addr} {sl14 : Array (Option Value)} {oc14 kV14 dc14 pm14 cd14 ct14 : Value}
    (a14 : PySem.W.nsIn K mainGlobals "_law_odd" = some (some (.ref f14))) (l14 : K.lookup f14 = some ⟨oc14, od14, .func (PySem.W.fnOf "_law_odd" "_law_odd" (defArgs s_odd) (defBody s_odd) (defScope s_odd) .none kV14 dc14 pm14 an14 cd14 ct14), sl14⟩) (c14 : PySem.W.codeIn K cd14 "_law_odd" = true) (k14 : PySem.W.keepIn K (.ref f14) = true)
    {f15 : Addr} {od15 an15 : Option Addr} {sl15 : Array (Option Value)} {oc15 kV15 dc15 pm15 cd15 ct15 : Value}
    (a15 : PySem.W.nsIn K mainGlobals "_law_bent" = some (some (.ref f15))) (l15 : K.lookup f15 = some ⟨oc15, od15, .func (PySem.W.fnOf "_law_bent" "_law_bent" (defArgs s_bent) (defBody s_bent) (defScope s_bent) .none kV15 dc15 pm15 an15 cd15 ct15), sl15⟩) (c15 : PySem.W.codeIn K cd15 "_law_bent" = true) (k15 : PySem.W.keepIn K (.ref f15) = true)
    {f16 : Addr} {od16 an16 : Option Addr} {sl16 : Array (Option Value)} {oc16 kV16 dc16 pm16 cd16 ct16 : Value}
    (a16 : PySem.W.nsIn K mainGlobals "_law_right" = some (some (.ref f16))) (l16 : K.lookup f16 = some ⟨oc16, od16, .func (PySem.W.fnOf "_law_right" "_law_right" (defArgs s_right) (defBody s_right) (defScope s_right) .none kV16 dc16 pm16 an16 cd16 ct16), sl16⟩) (c16 : PySem.W.codeIn K cd16 "_law_right" = true) (k16 : PySem.W.keepIn K (.ref f16) = true)
    {f17 : Addr} {od17 an17 : Option Addr} {sl17 : Array (Option Value)} {oc17 kV17 dc17 pm17 cd17 ct17 : Value}
    (a17 : PySem.W.nsIn K mainGlobals "law" = some (some (.ref f17))) (l17 : K.lookup f17 = some ⟨oc17, od17, .func (PySem.W.fnOf "law" "law" (defArgs s_law) (defBody s_law) (defScope s_law) .none kV17 dc17 pm17 an17 cd17 ct17), sl17⟩) (c17 : PySem.W.codeIn K cd17 "law" = true) (k17 : PySem.W.keepIn K (.ref f17) = true)
    (z0 : PySem.W.nsIn K mainGlobals "abs" = some none) (z1 : PySem.W.nsIn K mainGlobals "all" = some none) (z2 : PySem.W.nsIn K mainGlobals "bool" = some none) (z3 : PySem.W.nsIn K mainGlobals "int" = some none) (z4 : PySem.W.nsIn K mainGlobals "isinstance" = some none) (z5 : PySem.W.nsIn K mainGlobals "len" = some none) (z6 : PySem.W.nsIn K mainGlobals "list" = some none) (z7 : PySem.W.nsIn K mainGlobals "max" = some none) (z8 : PySem.W.nsIn K mainGlobals "min" = some none) (z9 : PySem.W.nsIn K mainGlobals "range" = some none) (z10 : PySem.W.nsIn K mainGlobals "repr" = some none) (z11 : PySem.W.nsIn K mainGlobals "sorted" = some none) (z12 : PySem.W.nsIn K mainGlobals "str" = some none) (z13 : PySem.W.nsIn K mainGlobals "tuple" = some none) (z14 : PySem.W.nsIn K mainGlobals "zip" = some none)
    {tg0 : Tok} (gz0 : PySem.W.nsIn K mainGlobals "LONGEST_CELL" = some (some (.int 8 tg0)))
    {tg1 : Tok} (gz1 : PySem.W.nsIn K mainGlobals "LARGEST_VALUE" = some (some (.int 1000000000 tg1)))
    {tg2 : Tok} (gz2 : PySem.W.nsIn K mainGlobals "MOST_NODES" = some (some (.int 60 tg2)))
    {tg3 : Tok} (gz3 : PySem.W.nsIn K mainGlobals "MOST_LEAVES" = some (some (.int 300 tg3)))
    : ∃ fd : FuncData, (∀ (s : Shared) (v : Value), BindsTo s fd ⟨[v], []⟩ [("_law_script", v)]) ∧ ∀ base : Heap, K.In base → base.Ns mainGlobals mg → FnG PySem.Challenge.rw_readorder_k03_readers_of_any_object.prog w K mg base CX0 45 fa fd ["_law_script"] (sp_law K) := by
  have e := hfa.symm.trans (PySem.W.mg_of X G a17)
  cases e
  have F0 := fun_mk (st := s_is_cell) l0 c0 k0
  have F1 := fun_mk (st := s_is_integer) l1 c1 k1
  have F2 := fun_mk (st := s_is_value) l2 c2 k2
  have F3 := fun_mk (st := s_is_ascending) l3 c3 k3
  have F4 := fun_mk (st := s_is_branch) l4 c4 k4
  have F5 := fun_mk (st := s_is_node) l5 c5 k5
  have F6 := fun_mk (st := s_is_reader) l6 c6 k6
  have F7 := fun_mk (st := s_box) l7 c7 k7
  have F8 := fun_mk (st := s_take) l8 c8 k8
  have F9 := fun_mk (st := s_of) l9 c9 k9
  have F10 := fun_mk (st := s_cells) l10 c10 k10
  have F11 := fun_mk (st := s_values) l11 c11 k11
  have F12 := fun_mk (st := s_tree) l12 c12 k12
  have F13 := fun_mk (st := s_due) l13 c13 k13
  have F14 := fun_mk (st := s_odd) l14 c14 k14
  have F15 := fun_mk (st := s_bent) l15 c15 k15
  have F16 := fun_mk (st := s_right) l16 c16 k16
  have F17 := fun_mk (st := s_law) l17 c17 k17
  have zb : Zb mg := ⟨PySem.W.mg_none_of X G z0, PySem.W.mg_none_of X G z1, PySem.W.mg_none_of X G z2, PySem.W.mg_none_of X G z3, PySem.W.mg_none_of X G z4, PySem.W.mg_none_of X G z5, PySem.W.mg_none_of X G z6, PySem.W.mg_none_of X G z7, PySem.W.mg_none_of X G z8, PySem.W.mg_none_of X G z9, PySem.W.mg_none_of X G z10, PySem.W.mg_none_of X G z11, PySem.W.mg_none_of X G z12, PySem.W.mg_none_of X G z13, PySem.W.mg_none_of X G z14⟩
  refine ⟨PySem.W.fnOf "law" "law" (defArgs s_law) (defBody s_law) (defScope s_law) .none kV17 dc17 pm17 an17 cd17 ct17, fun s v => .of_eq rfl, fun base _ _ => ?_⟩
  have gz : Gz mg := { longest_cell := ⟨_, PySem.W.mg_of X G gz0⟩, largest_value := ⟨_, PySem.W.mg_of X G gz1⟩, most_nodes := ⟨_, PySem.W.mg_of X G gz2⟩, most_leaves := ⟨_, PySem.W.mg_of X G gz3⟩ }
  have qk_box := k_box (P := PySem.Challenge.rw_readorder_k03_readers_of_any_object.prog) (w := w) (base := base) F7 (PySem.W.mg_of X G a7) zb 
  have qk_take := k_take (P := PySem.Challenge.rw_readorder_k03_readers_of_any_object.prog) (w := w) (base := base) F8 (PySem.W.mg_of X G a8) zb 
  have qk_of := k_of (P := PySem.Challenge.rw_readorder_k03_readers_of_any_object.prog) (w := w) (base := base) F9 (PySem.W.mg_of X G a9) zb qk_take
  have qk_cells := k_cells (P := PySem.Challenge.rw_readorder_k03_readers_of_any_object.prog) (w := w) (base := base) F10 (PySem.W.mg_of X G a10) zb qk_take qk_of
  have qk_values := k_values (P := PySem.Challenge.rw_readorder_k03_readers_of_any_object.prog) (w := w) (base := base) F11 (PySem.W.mg_of X G a11) zb qk_take
  have qk_tree := k_tree (P := PySem.Challenge.rw_readorder_k03_readers_of_any_object.prog) (w := w) (base := base) F12 (PySem.W.mg_of X G a12) zb qk_take qk_values
  have qk_odd := k_odd (P := PySem.Challenge.rw_readorder_k03_readers_of_any_object.prog) (w := w) (base := base) F14 (PySem.W.mg_of X G a14) zb qk_of
  have qk_bent := k_bent (P := PySem.Challenge.rw_readorder_k03_readers_of_any_object.prog) (w := w) (base := base) F15 (PySem.W.mg_of X G a15) zb qk_take qk_odd
  have qk_is_cell : Kn PySem.Challenge.rw_readorder_k03_readers_of_any_object.prog w K mg base CX0 1 "is_cell" sp_is_cell := ⟨_, _, _, k_is_cell (P := PySem.Challenge.rw_readorder_k03_readers_of_any_object.prog) (w := w) (base := base) F0 (PySem.W.mg_of X G a0) zb gz , PySem.W.mg_of X G a0, F0.kp, F0.binds (fun _ _ _ _ _ _ us hl => match us, hl with | [_], _ => rfl)⟩
  have qk_is_integer : Kn PySem.Challenge.rw_readorder_k03_readers_of_any_object.prog w K mg base CX0 1 "is_integer" sp_is_integer := ⟨_, _, _, k_is_integer (P := PySem.Challenge.rw_readorder_k03_readers_of_any_object.prog) (w := w) (base := base) F1 (PySem.W.mg_of X G a1) zb , PySem.W.mg_of X G a1, F1.kp, F1.binds (fun _ _ _ _ _ _ us hl => match us, hl with | [_], _ => rfl)⟩
  have qk_is_value : Kn PySem.Challenge.rw_readorder_k03_readers_of_any_object.prog w K mg base CX0 2 "is_value" sp_is_value := ⟨_, _, _, k_is_value (P := PySem.Challenge.rw_readorder_k03_readers_of_any_object.prog) (w := w) (base := base) F2 (PySem.W.mg_of X G a2) zb gz qk_is_integer, PySem.W.mg_of X G a2, F2.kp, F2.binds (fun _ _ _ _ _ _ us hl => match us, hl with | [_], _ => rfl)⟩
  have qk_is_branch := k_is_branch (P := PySem.Challenge.rw_readorder_k03_readers_of_any_object.prog) (w := w) (base := base) F4 (PySem.W.mg_of X G a4) zb gz qk_is_value
  have qk_is_ascending : Kn PySem.Challenge.rw_readorder_k03_readers_of_any_object.prog w K mg base CX0 1 "is_ascending" (sp_is_ascending K) := ⟨_, _, _, k_is_ascending (P := PySem.Challenge.rw_readorder_k03_readers_of_any_object.prog) (w := w) (base := base) F3 (PySem.W.mg_of X G a3) zb , PySem.W.mg_of X G a3, F3.kp, F3.binds (fun _ _ _ _ _ _ us hl => match us, hl with | [_], _ => rfl)⟩
  have qk_is_node := k_is_node (P := PySem.Challenge.rw_readorder_k03_readers_of_any_object.prog) (w := w) (base := base) F5 (PySem.W.mg_of X G a5) zb gz qk_is_cell qk_is_branch qk_is_ascending
  have qk_is_reader := k_is_reader (P := PySem.Challenge.rw_readorder_k03_readers_of_any_object.prog) (w := w) (base := base) F6 (PySem.W.mg_of X G a6) zb gz qk_is_node
  have qk_is_reader_thing := k_is_reader_thing (P := PySem.Challenge.rw_readorder_k03_readers_of_any_object.prog) (w := w) (base := base) F6 (PySem.W.mg_of X G a6) zb gz qk_is_node
  have qk_due := k_due (P := PySem.Challenge.rw_readorder_k03_readers_of_any_object.prog) (w := w) (base := base) F13 (PySem.W.mg_of X G a13) zb 
  have qk_right := k_right (P := PySem.Challenge.rw_readorder_k03_readers_of_any_object.prog) (w := w) (base := base) F16 (PySem.W.mg_of X G a16) zb qk_due qk_is_reader qk_is_reader_thing
  exact k_law F17 (PySem.W.mg_of X G a17) zb qk_box qk_take qk_cells qk_tree qk_bent qk_right
end L2.Ro
open PySem PySem.W PyProof.Rows
set_option maxHeartbeats 0 in
theorem PySem.Challenge.cw_readorder_k03_readers_of_any_object_holds : PySem.Challenge.rw_readorder_k03_readers_of_any_object.Holds := by
  w_on; o_law; k_head; (case hw => w_witness2)
  k_fill
  refine L2.Rx.walkG (l := PySem.Challenge.rw_readorder_k03_readers_of_any_object) (n := 63) (k := 45) (x := "_law_script") (sp := fun K => L2.Ro.sp_law K) rfl (by decide) rfl ⟨rfl, by decide, by decide⟩ (fun w h Y => PySem.W.kIn_of Y) ?F (fun _ _ a ns hl _ hS => ⟨a, ns, rfl, hS, fun _ => rfl⟩)
  case F =>
    intro w mg fa h KX G hmg
    refine' L2.Ro.all_mk KX G hmg (a0 := ?a0) (l0 := ?l0) (c0 := ?c0) (k0 := ?k0) (a1 := ?a1) (l1 := ?l1) (c1 := ?c1) (k1 := ?k1) (a2 := ?a2) (l2 := ?l2) (c2 := ?c2) (k2 := ?k2) (a3 := ?a3) (l3 := ?l3) (c3 := ?c3) (k3 := ?k3) (a4 := ?a4) (l4 := ?l4) (c4 := ?c4) (k4 := ?k4) (a5 := ?a5) (l5 := ?l5) (c5 := ?c5) (k5 := ?k5) (a6 := ?a6) (l6 := ?l6) (c6 := ?c6) (k6 := ?k6) (a7 := ?a7) (l7 := ?l7) (c7 := ?c7) (k7 := ?k7) (a8 := ?a8) (l8 := ?l8) (c8 := ?c8) (k8 := ?k8) (a9 := ?a9) (l9 := ?l9) (c9 := ?c9) (k9 := ?k9) (a10 := ?a10) (l10 := ?l10) (c10 := ?c10) (k10 := ?k10) (a11 := ?a11) (l11 := ?l11) (c11 := ?c11) (k11 := ?k11) (a12 := ?a12) (l12 := ?l12) (c12 := ?c12) (k12 := ?k12) (a13 := ?a13) (l13 := ?l13) (c13 := ?c13) (k13 := ?k13) (a14 := ?a14) (l14 := ?l14) (c14 := ?c14) (k14 := ?k14) (a15 := ?a15) (l15 := ?l15) (c15 := ?c15) (k15 := ?k15) (a16 := ?a16) (l16 := ?l16) (c16 := ?c16) (k16 := ?k16) (a17 := ?a17) (l17 := ?l17) (c17 := ?c17) (k17 := ?k17) (z0 := ?z0) (z1 := ?z1) (z2 := ?z2) (z3 := ?z3) (z4 := ?z4) (z5 := ?z5) (z6 := ?z6) (z7 := ?z7) (z8 := ?z8) (z9 := ?z9) (z10 := ?z10) (z11 := ?z11) (z12 := ?z12) (z13 := ?z13) (z14 := ?z14) (gz0 := ?gz0) (gz1 := ?gz1) (gz2 := ?gz2) (gz3 := ?gz3)
    (case a0 => k_is); (case l0 => k_is); (case c0 => k_is); (case k0 => k_is); (case a1 => k_is); (case l1 => k_is); (case c1 => k_is); (case k1 => k_is); (case a2 => k_is); (case l2 => k_is); (case c2 => k_is); (case k2 => k_is); (case a3 => k_is); (case l3 => k_is); (case c3 => k_is); (case k3 => k_is); (case a4 => k_is); (case l4 => k_is); (case c4 => k_is); (case k4 => k_is); (case a5 => k_is); (case l5 => k_is); (case c5 => k_is); (case k5 => k_is); (case a6 => k_is); (case l6 => k_is); (case c6 => k_is); (case k6 => k_is); (case a7 => k_is); (case l7 => k_is); (case c7 => k_is); (case k7 => k_is); (case a8 => k_is); (case l8 => k_is); (case c8 => k_is); (case k8 => k_is); (case a9 => k_is); (case l9 => k_is); (case c9 => k_is); (case k9 => k_is); (case a10 => k_is); (case l10 => k_is); (case c10 => k_is); (case k10 => k_is); (case a11 => k_is); (case l11 => k_is); (case c11 => k_is); (case k11 => k_is); (case a12 => k_is); (case l12 => k_is); (case c12 => k_is); (case k12 => k_is); (case a13 => k_is); (case l13 => k_is); (case c13 => k_is); (case k13 => k_is); (case a14 => k_is); (case l14 => k_is); (case c14 => k_is); (case k14 => k_is); (case a15 => k_is); (case l15 => k_is); (case c15 => k_is); (case k15 => k_is); (case a16 => k_is); (case l16 => k_is); (case c16 => k_is); (case k16 => k_is); (case a17 => k_is); (case l17 => k_is); (case c17 => k_is); (case k17 => k_is); (case z0 => k_is); (case z1 => k_is); (case z2 => k_is); (case z3 => k_is); (case z4 => k_is); (case z5 => k_is); (case z6 => k_is); (case z7 => k_is); (case z8 => k_is); (case z9 => k_is); (case z10 => k_is); (case z11 => k_is); (case z12 => k_is); (case z13 => k_is); (case z14 => k_is); (case gz0 => k_is); (case gz1 => k_is); (case gz2 => k_is); (case gz3 => k_is)
