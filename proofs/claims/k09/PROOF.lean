import PyProof.Rows.All
import Wide.All
import OpenK.AllK
import Wide.FinOn
import PyProof.StrBlock2
import HandS.ForMost
import HandS.IsInst
import HandS.Wide
import HandS.Defaults
import HandS.Evl
import HandS.ForExc
import HandS.ExcInit
import HandS.ExcField
import HandS.FStr
import PySem.Challenge.RW_goalstead_k09_operators_let_by
set_option Elab.async false
set_option linter.all false
set_option maxRecDepth 100000
namespace Gs
open PySem PySem.Spec PyProof.Rows L2

/-! ### rules of our own -/
section
variable {X : Cx} {x : Str} {p pos : Pos} {e : Expr} {es : List Expr} {t : TA}
theorem pe_globI {n : Int} (hg : Gl X x) (hm : ∃ t, X.mg x = some (.int n t)) (hd : (x == ("__debug__" : Str)) = false := by decide) : PE X (.Name x pos) (tC (.int n)) := by
  obtain ⟨t, h⟩ := hm
  exact pe_glob hg h ⟨t, rfl⟩ hd
theorem pe_globS {z : Str} (hg : Gl X x) (hm : ∃ t, X.mg x = some (.str z t)) (hd : (x == ("__debug__" : Str)) = false := by decide) : PE X (.Name x pos) (tC (.str z)) := by
  obtain ⟨t, h⟩ := hm
  exact pe_glob hg h ⟨t, rfl⟩ hd
/-- a def of the text that keeps the promise sp, found by its name -/
structure Has (P : Program) (w : World) (K : PySem.W.Frag) (mg : Str → Option Value) (base : Heap) (k : Nat) (x : Str) (ps : List Str) (sp : Sp) : Prop where
  ex : ∃ (f : Addr) (fd : FuncData), FnOk P w K mg base CX0 k f fd ps sp ∧ Binds K fd ps [] ∧ PySem.W.keepIn K (.ref f) = true ∧ mg x = some (.ref f)
theorem pe_callH {k j : Nat} {ps : List Str} {sp : Sp} (C : Has X.prog X.w X.K X.mg X.base k x ps sp) (hr : Room j X.A) (ha : PA X (e :: es) t) (hk : k ≤ j := by decide) (hg : Gl X x := by rfl) (hdb : (x == ("__debug__" : Str)) = false := by decide)
    (he : starEach (e :: es) X.env = (false, eval e X.env) :: starEach es X.env := by rfl) (hpl : (backTo pos (starEach es X.env)).any (·.1) = false := by rfl) :
    PE X (.Call (.Name x p) (e :: es) [] pos) (tCall sp [] E0 t) := by
  obtain ⟨f, fd, F, b, kp, m⟩ := C.ex
  exact pe_call F (hr.mono hk) hg m kp b .nil pass0 ha hdb he hpl
theorem pe_callH0 {k j : Nat} {ps : List Str} {sp : Sp} (C : Has X.prog X.w X.K X.mg X.base k x ps sp) (hr : Room j X.A) (hk : k ≤ j := by decide) (hg : Gl X x := by rfl) (hdb : (x == ("__debug__" : Str)) = false := by decide) :
    PE X (.Call (.Name x p) [] [] pos) (tCall sp [] E0 tNil) := by
  obtain ⟨f, fd, F, b, kp, m⟩ := C.ex
  exact pe_call0 F (hr.mono hk) hg m kp b .nil pass0 hdb
def rStrMul : R2 := fun x y H Q => ∃ z n, x = .str z ∧ y = .int n ∧ MulOk z n ∧ Q (.str (Txt.mul z n)) H
theorem op_strMul : OpR X (binaryOp .Mult) rStrMul := by
  intro pins s σ H x y v u Q I rx ry h
  obtain ⟨z, n, rfl, rfl, hok, q⟩ := h
  obtain ⟨t, rfl⟩ := rx
  obtain ⟨t', rfl⟩ := ry
  exact PySem.SB.mul hok fun t2 k => ⟨.str _, H, I.tok k, ⟨_, rfl⟩, q⟩
end

/-! ### steps of a reading -/
section
variable {σ : L2.St} {H : Hp} {v x y : V} {Q : VK} {i : Nat} {ta tb te : TE} {tr : TA} {r : R2} {D : Ends} {t1 t2 : TS} {g : TG} {tt tu : TT} {R : Bool → Hp → Prop} {QA : List V → Hp → Prop}
theorem x_var (h : σ[i]? = some (some v)) (q : Q v H) : tVar i σ H Q := ⟨v, h, q⟩
theorem x_c (q : Q v H) : tC v σ H Q := q
theorem x_op (q : ta σ H fun x H1 => tb σ H1 fun y H2 => r x y H2 Q) : tOp r ta tb σ H Q := q
theorem x_un {ru : V → Hp → VK → Prop} (q : ta σ H fun x H1 => ru x H1 Q) : tUn ru ta σ H Q := q
theorem x_i0 {f : Int → Int → V} {a b : Int} (q : Q (f a b) H) : rI0 f (.int a) (.int b) H Q := ⟨a, b, rfl, rfl, q⟩
theorem x_i {C : Int → Int → Prop} {f : Int → Int → V} {a b : Int} (c : C a b) (q : Q (f a b) H) : rI C f (.int a) (.int b) H Q := ⟨a, b, rfl, rfl, c, q⟩
theorem x_u {f : Int → V} {a : Int} (q : Q (f a) H) : rU f (.int a) H Q := ⟨a, rfl, q⟩
theorem x_eq (hs : scal x y = true) (q : Q (.bl (decide (x = y))) H) : rEq x y H Q := ⟨hs, q⟩
theorem x_ne (hs : scal x y = true) (q : Q (.bl (!decide (x = y))) H) : rNe x y H Q := ⟨hs, q⟩
theorem x_nil (q : QA [] H) : tNil σ H QA := q
theorem x_cons (q : ta σ H fun x H1 => tr σ H1 fun xs H2 => QA (x :: xs) H2) : tCons ta tr σ H QA := q
theorem x_call {sp : Sp} {dvs : List V} {E : XK} (q : tr σ H fun vs H1 => sp (vs ++ dvs) H1 Q E) : tCall sp dvs E tr σ H Q := q
theorem x_cb {rc : List V → Hp → VK → Prop} (q : tr σ H fun vs H1 => rc vs H1 Q) : tCB rc tr σ H Q := q
theorem x_test (q : te σ H fun x H1 => ∃ k, x = .bl k ∧ R k H1) : tTest te σ H R := q
theorem x_B (q : te σ H fun x H1 => ∃ k, x = .bl k ∧ R k H1) : tB te σ H R := q
theorem x_isb {b : Bool} (q : R b H) : ∃ k, V.bl b = .bl k ∧ R k H := ⟨b, rfl, q⟩
theorem x_and (q : tt σ H fun c H1 => if c = true then tu σ H1 R else R false H1) : tAnd tt tu σ H R := q
theorem x_or (q : tt σ H fun c H1 => if c = true then R true H1 else tu σ H1 R) : tOr tt tu σ H R := q
theorem x_not (q : tt σ H fun c H1 => R (!c) H1) : tNot tt σ H R := q
theorem x_ifE (q : tt σ H fun c H1 => if c = true then ta σ H1 Q else tb σ H1 Q) : tIf tt ta tb σ H Q := q
theorem x_andV (q : ta σ H fun x H1 => ∃ c, x = .bl c ∧ if c = true then tb σ H1 Q else Q (.bl false) H1) : tAndV ta tb σ H Q := q
theorem x_orV (q : ta σ H fun x H1 => ∃ c, x = .bl c ∧ if c = true then Q (.bl true) H1 else tb σ H1 Q) : tOrV ta tb σ H Q := q
theorem x_notV (q : ta σ H fun x H1 => ∃ c, x = .bl c ∧ Q (.bl (!c)) H1) : tNotV ta σ H Q := q
theorem x_isbI {b : Bool} {A B : Bool → Hp → Prop} (q : if b = true then A b H else B b H) : ∃ k, V.bl b = .bl k ∧ if k = true then A k H else B k H := ⟨b, rfl, q⟩
theorem x_ex {b : Bool} {A : Bool → Prop} (q : A b) : ∃ k, V.bl b = .bl k ∧ A k := ⟨b, rfl, q⟩
theorem x_cut {M : L2.St → Hp → Prop} (q : t1 { D with nx := M } σ H) (k : ∀ σ' H', M σ' H' → t2 D σ' H') : Evl.tCut t1 t2 D σ H := ⟨M, q, k⟩
theorem x_seq (q : t1 { D with nx := t2 D } σ H) : tSeq t1 t2 D σ H := q
theorem x_next (q : D.nx σ H) : tNext D σ H := q
theorem x_brk (q : D.bk σ H) : tBreak D σ H := q
theorem x_cont (q : D.ct σ H) : tCont D σ H := q
theorem x_asg (q : te σ H fun x H1 => g x σ H1 D.nx) : tAsg te g D σ H := q
theorem x_drop (q : te σ H fun _ H1 => D.nx σ H1) : tDrop te D σ H := q
theorem x_ret (q : te σ H D.rt) : tRet te D σ H := q
theorem x_retN (q : D.rt .non H) : tRetN D σ H := q
theorem x_ifS (q : tt σ H fun b H1 => if b = true then t1 D σ H1 else t2 D σ H1) : tIfS tt t1 t2 D σ H := q
theorem x_gn {k : L2.St → Hp → Prop} (q : k (σ.set i (some v)) H) : gName i v σ H k := q
theorem x_gsub {to ti : TE} {st : TSet} {k : L2.St → Hp → Prop} (q : to σ H fun o H1 => ti σ H1 fun i H2 => st o i v H2 fun H3 => k σ H3) : gSub to ti st v σ H k := q
theorem x_aug {ip : TIp} (h : σ[i]? = some (some x)) (q : te σ H fun y H1 => ip x y H1 fun z H2 => D.nx (σ.set i (some z)) H2) : tAug i te ip D σ H := ⟨x, h, q⟩
theorem x_ixL {K : PySem.W.Frag} {p : Addr} {xs : List V} {a : Int} (h : SqL K H p xs) (ha : atI xs a = some v) (q : Q v H) : rIxL K (.ref p) (.int a) H Q := ⟨p, xs, a, v, rfl, rfl, h, ha, q⟩
theorem x_ixT {K : PySem.W.Frag} {p : Addr} {xs : List V} {a : Int} (h : SqT K H p xs) (ha : atI xs a = some v) (q : Q v H) : rIxT K (.ref p) (.int a) H Q := ⟨p, xs, a, v, rfl, rfl, h, ha, q⟩
theorem x_ixS {z : Str} {a : Int} {c : Nat} (h : z.length ≤ sizeLine) (ha : atI z.cps.toList a = some c) (q : Q (.str ⟨#[c]⟩) H) : rIxS (.str z) (.int a) H Q := ⟨z, a, c, rfl, rfl, h, ha, q⟩
theorem x_setL {p : Addr} {xs : List V} {a : Int} {j : Nat} {k : Hp → Prop} (h : H p = some (.lst xs)) (hi : ixN xs.length a = some j) (q : k (upd H p (.lst (xs.set j v)))) : rSetL (.ref p) (.int a) v H k := ⟨p, xs, a, j, rfl, rfl, h, hi, q⟩
theorem x_lst (q : tr σ H fun xs H1 => xs.length ≤ sizeLine ∧ ∀ p, H1 p = none → Q (.ref p) (upd H1 p (.lst xs))) : tLst tr σ H Q := q
theorem x_tup (q : tr σ H fun xs H1 => xs.length ≤ sizeLine ∧ ∀ p, H1 p = none → Q (.ref p) (upd H1 p (.tup xs))) : tTup tr σ H Q := q
theorem x_sl {rs : V → Option Int → Option Int → Hp → VK → Prop} {tl th : TO} (q : te σ H fun x H1 => tl σ H1 fun l H2 => th σ H2 fun u H3 => rs x l u H3 Q) : tSl rs te tl th σ H Q := q
theorem x_part {k : Option Int → Hp → Prop} (q : te σ H fun x H1 => ∃ i, x = .int i ∧ k (some i) H1) : tPart te σ H k := q
theorem x_isi {a : Int} {k : Option Int → Hp → Prop} (q : k (some a) H) : ∃ i, V.int a = .int i ∧ k (some i) H := ⟨a, rfl, q⟩
theorem x_exI {a : Int} {A : Int → Prop} (q : A a) : ∃ i, V.int a = .int i ∧ A i := ⟨a, rfl, q⟩
theorem x_slL {K : PySem.W.Frag} {a : Addr} {xs : List V} {lo hi : Option Int} (h : SqL K H a xs) (q : ∀ p, H p = none → Q (.ref p) (upd H p (.lst (cutV xs lo hi)))) : rSlL K (.ref a) lo hi H Q := ⟨a, xs, rfl, h, q⟩
theorem x_slS {z : Str} {lo hi : Option Int} (h : z.length ≤ sizeLine) (q : Q (.str (cutS z lo hi)) H) : rSlS (.str z) lo hi H Q := ⟨z, rfl, h, q⟩
theorem x_nopart {k : Option Int → Hp → Prop} (q : k none H) : tNoPart σ H k := q
theorem x_bm {K : PySem.W.Frag} {T : String} {rm : V → List V → Hp → VK → Prop} {to : TE} (q : to σ H fun x H1 => tyV K T x H1 ∧ tr σ H1 fun xs H2 => rm x xs H2 Q) : tBM K T rm to tr σ H Q := q
theorem x_bm0 {K : PySem.W.Frag} {T : String} {rm : V → List V → Hp → VK → Prop} {to : TE} (q : to σ H fun x H1 => tyV K T x H1 ∧ rm x [] H1 Q) : tBM0 K T rm to σ H Q := q
theorem x_addS {a b : Str} {A : Str → Str → Prop} (h : a.length + b.length ≤ sizeLine) (q : A a b) : ∃ i j, V.str a = .str i ∧ V.str b = .str j ∧ i.length + j.length ≤ sizeLine ∧ A i j := ⟨a, b, rfl, rfl, h, q⟩
/-- a decided test -/
theorem x_ite {c : Prop} [Decidable c] {A B : Prop} (h1 : c → A) (h2 : ¬ c → B) : if decide c = true then A else B := by
  by_cases h : c
  · rw [if_pos (decide_eq_true h)]
    exact h1 h
  · rw [if_neg (by rw [decide_eq_false h]; decide)]
    exact h2 h
theorem x_iteN {c : Prop} [Decidable c] {A B : Prop} (h1 : ¬ c → A) (h2 : c → B) : if (!decide c) = true then A else B := by
  by_cases h : c
  · rw [if_neg (by rw [decide_eq_true h]; decide)]
    exact h2 h
  · rw [if_pos (by rw [decide_eq_false h]; rfl)]
    exact h1 h
theorem x_iteB {b : Bool} {A B : Prop} (h1 : b = true → A) (h2 : b = false → B) : if b = true then A else B := by
  cases b with
  | true => exact h1 rfl
  | false => exact h2 rfl
theorem x_iteF {A B : Prop} (h : B) : if false = true then A else B := h
theorem x_iteT {A B : Prop} (h : A) : if true = true then A else B := h
end
theorem intEq {a b : Int} : decide (V.int a = V.int b) = decide (a = b) := by
  by_cases h : a = b
  · rw [h]; simp
  · rw [decide_eq_false h, decide_eq_false]
    exact fun z => h (V.int.inj z)
end Gs
namespace Gs
open PySem PySem.Spec PyProof.Rows L2
theorem cmulW {i j : Int} (h1 : i.natAbs < 2 ^ 200) (h2 : j.natAbs < 2 ^ 200) : CMulW i j := wide_mul h1 h2 (by decide) (by decide) (by decide)
theorem cdivW {i j : Int} (h1 : 0 < j) (h2 : j.natAbs < 2 ^ 200) : CDivW i j := wide_div h1 h2 (by decide) (by decide)
theorem fmod0 {a b : Int} (h : 0 < b) : 0 ≤ a.fmod b := by rw [Int.fmod_eq_emod_of_nonneg a (by omega)]; exact Int.emod_nonneg a (by omega)
theorem fmodlt {a b : Int} (h : 0 < b) : a.fmod b < b := by rw [Int.fmod_eq_emod_of_nonneg a (by omega)]; exact Int.emod_lt_of_pos a h
theorem sz {n : Nat} (h : n ≤ 100000) : n ≤ sizeLine := Nat.le_trans h (by decide)
theorem szl {n : Nat} (h : n < 100000) : n < sizeLine := Nat.lt_of_lt_of_le h (by decide)
end Gs
namespace Gs
open PySem PySem.Spec PyProof.Rows L2
theorem at0 {α : Type} {xs : List α} {v : α} (h : xs[0]? = some v) : atI xs 0 = some v := atI_nat (j := 0) h
theorem at1 {α : Type} {xs : List α} {v : α} (h : xs[1]? = some v) : atI xs 1 = some v := atI_nat (j := 1) h
theorem at2 {α : Type} {xs : List α} {v : α} (h : xs[2]? = some v) : atI xs 2 = some v := atI_nat (j := 2) h
theorem at3 {α : Type} {xs : List α} {v : α} (h : xs[3]? = some v) : atI xs 3 = some v := atI_nat (j := 3) h
theorem at4 {α : Type} {xs : List α} {v : α} (h : xs[4]? = some v) : atI xs 4 = some v := atI_nat (j := 4) h
theorem at5 {α : Type} {xs : List α} {v : α} (h : xs[5]? = some v) : atI xs 5 = some v := atI_nat (j := 5) h
theorem at6 {α : Type} {xs : List α} {v : α} (h : xs[6]? = some v) : atI xs 6 = some v := atI_nat (j := 6) h
theorem at7 {α : Type} {xs : List α} {v : α} (h : xs[7]? = some v) : atI xs 7 = some v := atI_nat (j := 7) h
theorem at8 {α : Type} {xs : List α} {v : α} (h : xs[8]? = some v) : atI xs 8 = some v := atI_nat (j := 8) h
theorem at9 {α : Type} {xs : List α} {v : α} (h : xs[9]? = some v) : atI xs 9 = some v := atI_nat (j := 9) h
theorem ixN_of {n : Nat} {j : Nat} (h : j < n) : ixN n (j : Int) = some j := by
  unfold ixN
  rw [if_pos (by omega), if_pos (by omega)]
  simp
theorem ix0 {n : Nat} (h : 0 < n) : ixN n 0 = some 0 := ixN_of (j := 0) h
theorem ix1 {n : Nat} (h : 1 < n) : ixN n 1 = some 1 := ixN_of (j := 1) h
theorem ix2 {n : Nat} (h : 2 < n) : ixN n 2 = some 2 := ixN_of (j := 2) h
theorem ix3 {n : Nat} (h : 3 < n) : ixN n 3 = some 3 := ixN_of (j := 3) h
theorem ix4 {n : Nat} (h : 4 < n) : ixN n 4 = some 4 := ixN_of (j := 4) h
end Gs
namespace Gs
open PySem PySem.Spec PyProof.Rows L2
section
variable {H : Hp} {Q : VK} {a b : Int}
theorem x_mod (hb : 0 < b) (q : ∀ r : Int, 0 ≤ r → r < b → r = a.fmod b → Q (.int r) H) : rI (fun _ j => j ≠ 0) (fun i j => V.int (i.fmod j)) (.int a) (.int b) H Q :=
  ⟨a, b, rfl, rfl, by omega, q _ (fmod0 hb) (fmodlt hb) rfl⟩
theorem x_div (hb : CDivW a b) (q : ∀ r : Int, r = a / b → (0 ≤ a → 0 ≤ r ∧ r ≤ a) → Q (.int r) H) : rI CDivW (fun i j => V.int (i / j)) (.int a) (.int b) H Q :=
  ⟨a, b, rfl, rfl, hb, q _ rfl fun ha => ⟨Int.ediv_nonneg ha (Int.le_of_lt hb.1), Int.ediv_le_self b ha⟩⟩
end
end Gs
namespace Gs
open PySem PySem.Spec PyProof.Rows L2
section
variable {K : PySem.W.Frag} {H : Hp} {Q : VK}
theorem dpInts : ∀ ns : List Int, DpAll K H (ns.map V.int) (ns.map PyData.int)
  | [] => .nil
  | n :: r => .cons (.int n) (dpInts r)
theorem x_neNil {l q : Addr} {ns : List Int} (h : SqL K H l (ns.map V.int)) (h2 : SqL K H q []) (k : Q (.bl (!decide (ns = []))) H) : rNeD K (.ref l) (.ref q) H Q := by
  refine ⟨.list (ns.map PyData.int), .list [], .lst h (dpInts ns), .lst h2 .nil, PySem.W.ke_shaped_ints ns, PySem.W.ke_shaped_ints [], ?_⟩
  have e : PyData.eqv (.list (ns.map PyData.int)) (.list []) = decide (ns = []) := by
    cases ns with
    | nil => rfl
    | cons n r => rfl
  rw [e]
  exact k
theorem seqIx0 {n : Nat} (h : 0 < n) : seqIndex? 0 n = some 0 := (ixN_seq (ix0 h)).1
end
end Gs
namespace Gs
open PySem PySem.Spec PyProof.Rows L2
section
variable {σ : L2.St} {H : Hp} {wi : TI} {g : TG} {tb : TS} {D : Ends} {ta : TA} {te : TE} {R : It → Hp → Prop} {K : PySem.W.Frag} {Q : VK}
theorem x_for (q : wi σ H fun J H1 => ∃ W : Nat → Nat → L2.St → Hp → Prop, (∃ m, W 0 m σ H1) ∧ ∀ i m σ H, W i m σ H →
  (J.stop i H ∧ D.nx σ H) ∨ (J.go i H ∧ ∃ N : L2.St → Hp → Prop, (∀ σ' H', N σ' H' → ∃ m', m' < m ∧ W (i + 1) m' σ' H') ∧ ∀ x H', J.yld i H x H' → g x σ H' fun σ2 H2 => tb { D with nx := N, ct := N, bk := D.nx } σ2 H2)) : tFor wi g tb D σ H := q
theorem x_rng1 (q : ta σ H fun vs H1 => ∃ j : Int, vs = [.int j] ∧ -(2 ^ 62) ≤ j ∧ j < 2 ^ 62 ∧ R (Itr 0 j.toNat) H1) : iRng1 ta σ H R := q
theorem x_rng2 (q : ta σ H fun vs H1 => ∃ i j : Int, vs = [.int i, .int j] ∧ (-(2 ^ 62) ≤ i ∧ i < 2 ^ 62 ∧ -(2 ^ 62) ≤ j ∧ j < 2 ^ 62) ∧ R (Itr i (j - i).toNat) H1) : iRng2 ta σ H R := q
theorem x_ilist (q : te σ H fun x H1 => ∃ a, x = .ref a ∧ (∃ xs, SqL K H1 a xs) ∧ R (Itl K a) H1) : iList K te σ H R := q
theorem x_itup (q : te σ H fun x H1 => ∃ a, x = .ref a ∧ (∃ xs, SqT K H1 a xs) ∧ R (Itt K a) H1) : iTup K te σ H R := q
/-- for x in range(n) -/
theorem x_forR1 {n : Int} {X : L2.St → Hp → Prop} {rt : VK} (Pv : Nat → L2.St → Hp → Prop) (hn : n < 2 ^ 62) (hn0 : -(2 ^ 62) ≤ n) (h0 : Pv 0 σ H)
    (hs : ∀ (i : Nat) σ H, (i : Int) < n → Pv i σ H → g (.int (i : Int)) σ H fun σ2 H2 => tb { nx := Pv (i + 1), rt := rt, bk := X, ct := Pv (i + 1) } σ2 H2) (hd : ∀ σ H, Pv n.toNat σ H → X σ H) :
    ∃ j : Int, [V.int n] = [.int j] ∧ -(2 ^ 62) ≤ j ∧ j < 2 ^ 62 ∧ ∃ W : Nat → Nat → L2.St → Hp → Prop, (∃ m, W 0 m σ H) ∧ ∀ i m σ H, W i m σ H →
      ((Itr 0 j.toNat).stop i H ∧ X σ H) ∨ ((Itr 0 j.toNat).go i H ∧ ∃ N : L2.St → Hp → Prop, (∀ σ' H', N σ' H' → ∃ m', m' < m ∧ W (i + 1) m' σ' H') ∧ ∀ x H', (Itr 0 j.toNat).yld i H x H' → g x σ H' fun σ2 H2 => tb { nx := N, rt := rt, bk := X, ct := N } σ2 H2) :=
  ⟨n, rfl, hn0, hn, for_range (D := { nx := X, rt := rt }) (lo := 0) (n := n.toNat) Pv h0 (fun i σ' H' hi p => by
    have e : (0 : Int) + (i : Int) = (i : Int) := Int.zero_add _
    rw [e]
    exact hs i σ' H' (by omega) p) hd⟩
theorem x_forR2 {lo hi : Int} {X : L2.St → Hp → Prop} {rt : VK} (Pv : Nat → L2.St → Hp → Prop) (hn : -(2 ^ 62) ≤ lo ∧ lo < 2 ^ 62 ∧ -(2 ^ 62) ≤ hi ∧ hi < 2 ^ 62) (h0 : Pv 0 σ H)
    (hs : ∀ (i : Nat) σ H, lo + (i : Int) < hi → Pv i σ H → g (.int (lo + (i : Int))) σ H fun σ2 H2 => tb { nx := Pv (i + 1), rt := rt, bk := X, ct := Pv (i + 1) } σ2 H2) (hd : ∀ σ H, Pv (hi - lo).toNat σ H → X σ H) :
    ∃ i j : Int, [V.int lo, V.int hi] = [.int i, .int j] ∧ (-(2 ^ 62) ≤ i ∧ i < 2 ^ 62 ∧ -(2 ^ 62) ≤ j ∧ j < 2 ^ 62) ∧ ∃ W : Nat → Nat → L2.St → Hp → Prop, (∃ m, W 0 m σ H) ∧ ∀ i' m σ H, W i' m σ H →
      ((Itr i (j - i).toNat).stop i' H ∧ X σ H) ∨ ((Itr i (j - i).toNat).go i' H ∧ ∃ N : L2.St → Hp → Prop, (∀ σ' H', N σ' H' → ∃ m', m' < m ∧ W (i' + 1) m' σ' H') ∧ ∀ x H', (Itr i (j - i).toNat).yld i' H x H' → g x σ H' fun σ2 H2 => tb { nx := N, rt := rt, bk := X, ct := N } σ2 H2) :=
  ⟨lo, hi, rfl, hn, for_range (D := { nx := X, rt := rt }) (lo := lo) (n := (hi - lo).toNat) Pv h0 (fun i σ' H' hi' p => hs i σ' H' (by omega) p) hd⟩
/-- for x in a list, a tuple -/
theorem x_forL {a : Addr} {xs : List V} {X : L2.St → Hp → Prop} {rt : VK} (Pv : Nat → L2.St → Hp → Prop) (h0 : Pv 0 σ H) (hl : ∀ i σ H, i ≤ xs.length → Pv i σ H → SqL K H a xs)
    (hs : ∀ i x σ H, xs[i]? = some x → Pv i σ H → g x σ H fun σ2 H2 => tb { nx := Pv (i + 1), rt := rt, bk := X, ct := Pv (i + 1) } σ2 H2) (hd : ∀ σ H, Pv xs.length σ H → X σ H) (hS : SqL K H a xs) :
    ∃ b, V.ref a = .ref b ∧ (∃ xs, SqL K H b xs) ∧ ∃ W : Nat → Nat → L2.St → Hp → Prop, (∃ m, W 0 m σ H) ∧ ∀ i m σ H, W i m σ H →
      ((Itl K b).stop i H ∧ X σ H) ∨ ((Itl K b).go i H ∧ ∃ N : L2.St → Hp → Prop, (∀ σ' H', N σ' H' → ∃ m', m' < m ∧ W (i + 1) m' σ' H') ∧ ∀ x H', (Itl K b).yld i H x H' → g x σ H' fun σ2 H2 => tb { nx := N, rt := rt, bk := X, ct := N } σ2 H2) :=
  ⟨a, rfl, ⟨xs, hS⟩, for_list (D := { nx := X, rt := rt }) Pv h0 hl hs hd⟩
theorem x_forT {a : Addr} {xs : List V} {X : L2.St → Hp → Prop} {rt : VK} (Pv : Nat → L2.St → Hp → Prop) (h0 : Pv 0 σ H) (hl : ∀ i σ H, i ≤ xs.length → Pv i σ H → SqT K H a xs)
    (hs : ∀ i x σ H, xs[i]? = some x → Pv i σ H → g x σ H fun σ2 H2 => tb { nx := Pv (i + 1), rt := rt, bk := X, ct := Pv (i + 1) } σ2 H2) (hd : ∀ σ H, Pv xs.length σ H → X σ H) (hS : SqT K H a xs) :
    ∃ b, V.ref a = .ref b ∧ (∃ xs, SqT K H b xs) ∧ ∃ W : Nat → Nat → L2.St → Hp → Prop, (∃ m, W 0 m σ H) ∧ ∀ i m σ H, W i m σ H →
      ((Itt K b).stop i H ∧ X σ H) ∨ ((Itt K b).go i H ∧ ∃ N : L2.St → Hp → Prop, (∀ σ' H', N σ' H' → ∃ m', m' < m ∧ W (i + 1) m' σ' H') ∧ ∀ x H', (Itt K b).yld i H x H' → g x σ H' fun σ2 H2 => tb { nx := N, rt := rt, bk := X, ct := N } σ2 H2) :=
  ⟨a, rfl, ⟨xs, hS⟩, for_tup (D := { nx := X, rt := rt }) Pv h0 hl hs hd⟩
end
end Gs
namespace Gs
open PySem PySem.Spec PyProof.Rows L2
section
variable {σ : L2.St} {H : Hp} {wi : TI} {g : TG} {tt : TT} {ta : TA} {to te : TE} {K : PySem.W.Frag} {Q : VK} {vs : List Nat} {x y : V}
theorem x_lc (q : wi σ H fun J H1 => ∀ D, H1 D = none → ∃ W : Nat → Nat → Hp → Prop, (∃ m, W 0 m (upd H1 D (.lst []))) ∧ ∀ i m H, W i m H →
  (J.stop i H ∧ Q (.ref D) H) ∨ (J.go i H ∧ ∃ Nx : Hp → Prop, (∀ H', Nx H' → ∃ m', m' < m ∧ W (i + 1) m' H') ∧ ∀ x H', J.yld i H x H' → g x (wipe σ vs) H' fun σ2 H2 => wipe σ2 vs = wipe σ vs ∧ tt σ2 H2 fun b H3 =>
    if b = true then te σ2 H3 fun y H4 => ∃ acc, H4 D = some (.lst acc) ∧ acc.length < sizeLine ∧ Nx (upd H4 D (.lst (acc ++ [y]))) else Nx H3)) : tLc wi g tt te vs σ H Q := q
theorem x_yes {R : Bool → Hp → Prop} (q : R true H) : tYes σ H R := q
theorem x_lcR1 {n : Int} {Qd : Addr → Hp → Prop} (Pv : Addr → Nat → Hp → Prop) (hn0 : -(2 ^ 62) ≤ n) (hn : n < 2 ^ 62) (h0 : ∀ D, H D = none → Pv D 0 (upd H D (.lst [])))
    (hs : ∀ D, H D = none → ∀ (i : Nat) H', (i : Int) < n → Pv D i H' → g (.int (i : Int)) (wipe σ vs) H' fun σ2 H2 => wipe σ2 vs = wipe σ vs ∧ tt σ2 H2 fun b H3 =>
      if b = true then te σ2 H3 fun y H4 => ∃ acc, H4 D = some (.lst acc) ∧ acc.length < sizeLine ∧ Pv D (i + 1) (upd H4 D (.lst (acc ++ [y]))) else Pv D (i + 1) H3) (hd : ∀ D, H D = none → ∀ H', Pv D n.toNat H' → Qd D H') :
    ∃ j : Int, [V.int n] = [.int j] ∧ -(2 ^ 62) ≤ j ∧ j < 2 ^ 62 ∧ ∀ D, H D = none → ∃ W : Nat → Nat → Hp → Prop, (∃ m, W 0 m (upd H D (.lst []))) ∧ ∀ i m H, W i m H →
      ((Itr 0 j.toNat).stop i H ∧ Qd D H) ∨ ((Itr 0 j.toNat).go i H ∧ ∃ Nx : Hp → Prop, (∀ H', Nx H' → ∃ m', m' < m ∧ W (i + 1) m' H') ∧ ∀ x H', (Itr 0 j.toNat).yld i H x H' → g x (wipe σ vs) H' fun σ2 H2 => wipe σ2 vs = wipe σ vs ∧ tt σ2 H2 fun b H3 =>
        if b = true then te σ2 H3 fun y H4 => ∃ acc, H4 D = some (.lst acc) ∧ acc.length < sizeLine ∧ Nx (upd H4 D (.lst (acc ++ [y]))) else Nx H3) :=
  ⟨n, rfl, hn0, hn, fun D hD => lc_range (lo := 0) (n := n.toNat) (Pv D) (h0 D hD) (fun i H' hi p => by
    have e : (0 : Int) + (i : Int) = (i : Int) := Int.zero_add _
    rw [e]
    exact hs D hD i H' (by omega) p) (hd D hD)⟩
theorem x_lcL {Qd : Addr → Hp → Prop} {a : Addr} {xs : List V} (Pv : Addr → Nat → Hp → Prop) (hS : SqL K H a xs) (h0 : ∀ D, H D = none → Pv D 0 (upd H D (.lst []))) (hl : ∀ D, H D = none → ∀ i H', i ≤ xs.length → Pv D i H' → SqL K H' a xs)
    (hs : ∀ D, H D = none → ∀ i x H', xs[i]? = some x → Pv D i H' → g x (wipe σ vs) H' fun σ2 H2 => wipe σ2 vs = wipe σ vs ∧ tt σ2 H2 fun b H3 =>
      if b = true then te σ2 H3 fun y H4 => ∃ acc, H4 D = some (.lst acc) ∧ acc.length < sizeLine ∧ Pv D (i + 1) (upd H4 D (.lst (acc ++ [y]))) else Pv D (i + 1) H3) (hd : ∀ D, H D = none → ∀ H', Pv D xs.length H' → Qd D H') :
    ∃ b, V.ref a = .ref b ∧ (∃ xs, SqL K H b xs) ∧ ∀ D, H D = none → ∃ W : Nat → Nat → Hp → Prop, (∃ m, W 0 m (upd H D (.lst []))) ∧ ∀ i m H, W i m H →
      ((Itl K b).stop i H ∧ Qd D H) ∨ ((Itl K b).go i H ∧ ∃ Nx : Hp → Prop, (∀ H', Nx H' → ∃ m', m' < m ∧ W (i + 1) m' H') ∧ ∀ x H', (Itl K b).yld i H x H' → g x (wipe σ vs) H' fun σ2 H2 => wipe σ2 vs = wipe σ vs ∧ tt σ2 H2 fun b H3 =>
        if b = true then te σ2 H3 fun y H4 => ∃ acc, H4 D = some (.lst acc) ∧ acc.length < sizeLine ∧ Nx (upd H4 D (.lst (acc ++ [y]))) else Nx H3) :=
  ⟨a, rfl, ⟨xs, hS⟩, fun D hD => lc_list (xs := xs) (Pv D) (h0 D hD) (hl D hD) (hs D hD) (hd D hD)⟩
theorem x_m1 {r : V → List V → Hp → VK → Prop} (q : to σ H fun x H1 => (∃ a, x = .str a) ∧ te σ H1 fun y H2 => r x [y] H2 Q) : tM1 r to te σ H Q := q
theorem x_m0 {r : V → List V → Hp → VK → Prop} (q : to σ H fun x H1 => (∃ a, x = .str a) ∧ r x [] H1 Q) : tM0 r to σ H Q := q
theorem x_isStr {a : Str} {A : Prop} (q : A) : (∃ b, V.str a = .str b) ∧ A := ⟨⟨a, rfl⟩, q⟩
theorem x_join {a : Str} {p : Addr} {ys : List Str} {A : Str → List Str → Prop} (h : SqL K H p (ys.map V.str)) (hz : (ys.map (·.length)).sum + ys.length * a.length ≤ 16777216) (q : A a ys) :
    ∃ a' p', ∃ ys : List Str, V.str a = .str a' ∧ [V.ref p] = [.ref p'] ∧ (SqL K H p' (ys.map V.str) ∨ SqT K H p' (ys.map V.str)) ∧ (ys.map (·.length)).sum + ys.length * a'.length ≤ 16777216 ∧ A a' ys :=
  ⟨a, p, ys, rfl, rfl, .inl h, hz, q⟩
theorem x_lenS {z : Str} {A : Str → Prop} (h : z.length ≤ sizeLine) (q : A z) : ∃ z', [V.str z] = [.str z'] ∧ z'.length ≤ sizeLine ∧ A z' := ⟨z, rfl, h, q⟩
theorem x_lenL {p : Addr} {xs : List V} {A : List V → Prop} (h : SqL K H p xs) (q : A xs) : ∃ p' ys, [V.ref p] = [.ref p'] ∧ (SqL K H p' ys ∨ SqT K H p' ys) ∧ A ys := ⟨p, xs, rfl, .inl h, q⟩
theorem x_lenT {p : Addr} {xs : List V} {A : List V → Prop} (h : SqT K H p xs) (q : A xs) : ∃ p' ys, [V.ref p] = [.ref p'] ∧ (SqL K H p' ys ∨ SqT K H p' ys) ∧ A ys := ⟨p, xs, rfl, .inr h, q⟩
theorem x_strI {i : Int} {A : Int → Prop} (h : i.natAbs.log2 < 1920) (q : A i) : ∃ j, [V.int i] = [.int j] ∧ j.natAbs.log2 < 1920 ∧ A j := ⟨i, rfl, h, q⟩
theorem x_intB {b : Bool} {A : Int → Prop} {B : Bool → Prop} (q : B b) : (∃ i, [V.bl b] = [.int i] ∧ A i) ∨ ∃ k, [V.bl b] = [.bl k] ∧ B k := .inr ⟨b, rfl, q⟩
theorem x_inS {c : Nat} {z : Str} {A : Nat → Str → Prop} (q : A c z) : ∃ (c' : Nat) (z' : Str), V.str ⟨#[c]⟩ = .str ⟨#[c']⟩ ∧ V.str z = .str z' ∧ A c' z' := ⟨c, z, rfl, rfl, q⟩
theorem x_mul {z : Str} {n : Int} (h : MulOk z n) (q : Q (.str (Txt.mul z n)) H) : rStrMul (.str z) (.int n) H Q := ⟨z, n, rfl, rfl, h, q⟩
theorem x_app {l : Addr} {xs : List V} (h : H l = some (.lst xs)) (hz : xs.length < sizeLine) (q : Q .non (upd H l (.lst (xs ++ [y])))) : rAppend (.ref l) [y] H Q := ⟨l, xs, y, rfl, rfl, h, hz, q⟩
theorem x_tyL {l : Addr} {xs : List V} {A : Prop} (h : SqL K H l xs) (q : A) : tyV K "list" (.ref l) H ∧ A := ⟨.inl ⟨rfl, _, h⟩, q⟩
theorem x_ib {b : Bool} {A B : Prop} (hb : b = true) (h : A) : if b = true then A else B := by rw [if_pos hb]; exact h
theorem x_if0 {b : Bool} {A B : Prop} (hb : b = false) (h : B) : if b = true then A else B := by rw [hb]; exact h
theorem x_while {c : TT} {tb : TS} {X : L2.St → Hp → Prop} {rt : VK} {bk ct : L2.St → Hp → Prop} (W : Nat → L2.St → Hp → Prop) (m0 : Nat) (h0 : W m0 σ H)
    (hs : ∀ m σ H, W m σ H → c σ H fun b H1 => if b = true then ∃ N : L2.St → Hp → Prop, (∀ σ' H', N σ' H' → ∃ m', m' < m ∧ W m' σ' H') ∧ tb { nx := N, rt := rt, bk := X, ct := N } σ H1 else X σ H1) : tWhile c tb { nx := X, rt := rt, bk := bk, ct := ct } σ H := ⟨W, ⟨m0, h0⟩, hs⟩
end
end Gs
namespace Gs
open PySem PySem.Spec PyProof.Rows L2
theorem x_chain {σ : L2.St} {H : Hp} {Q : VK} {r r' : R2} {ta tb tc : TE} (q : ta σ H fun x H1 => tb σ H1 fun y H2 => r x y H2 fun z H3 => ∃ k, z = .bl k ∧ if k = true then tc σ H3 fun w' H4 => r' y w' H4 Q else Q (.bl false) H3) : tChain r r' ta tb tc σ H Q := q
end Gs
namespace Gs
open PySem PySem.Spec PyProof.Rows L2
theorem x_ip {H : Hp} {Q : VK} {f : Int → Int → Int} {a b : Int} (q : Q (.int (f a b)) H) : ipI f (.int a) (.int b) H Q := ⟨a, b, rfl, rfl, q⟩
theorem x_ii {a b : Int} {A : Int → Int → Prop} (q : A a b) : ∃ i j, [V.int a, V.int b] = [V.int i, V.int j] ∧ A i j := ⟨a, b, rfl, q⟩
theorem x_1i {a : Int} {A : Int → Prop} (q : A a) : ∃ i, [V.int a] = [V.int i] ∧ A i := ⟨a, rfl, q⟩
end Gs
namespace Gs
open PySem PySem.Spec PyProof.Rows L2
section
variable {K : PySem.W.Frag} {x qual : Str} {params : Arguments} {body : List Stmt} {scope : Scope} {kws : List (Str × V)} {f : Addr} {fd : FuncData} {ps : List Str}
theorem FunD_kbindsN (F : FunD K x qual params body scope [] kws f fd) (n : Nat) (ks : List Str)
    (h : ∀ (kV doc pm : Value) (an : Option Addr) (cdv ct : Value) (us ws : List Value), us.length = n → ws.length = ks.length → bindArgs (PySem.W.fnOf x qual params body scope .none kV doc pm an cdv ct) ⟨us, ks.zip ws⟩ = pure (ps.zip (us ++ ws))) :
    KBn K fd ps n ks (fun us ws => us ++ ws) (fun vs zs => vs ++ zs) := by
  obtain ⟨oc, od, dV, kV, doc, pm, an, cdv, ct, osl, rfl, lk, hcd, hD, hK⟩ := F.ex
  rcases hD with ⟨_, rfl⟩ | ⟨e, _⟩
  · exact ⟨fun s us ws _ l1 l2 => .of_eq (h kV doc pm an cdv ct us ws l1 l2), fun r1 r2 => r1.append r2⟩
  · exact absurd rfl e
end
/-- a def with keyword-only parameters: n others; dvs what stands for the keywords where they lack -/
structure HasK (P : Program) (w : World) (K : PySem.W.Frag) (mg : Str → Option Value) (base : Heap) (k : Nat) (x : Str) (ps : List Str) (n : Nat) (ks : List Str) (dvs : List V) (sp : Sp) : Prop where
  ex : ∃ (f : Addr) (fd : FuncData), FnOk P w K mg base CX0 k f fd ps sp ∧ (∃ ds, Vals dvs ds ∧ Binds K fd ps ds) ∧ KBn K fd ps n ks (fun us ws => us ++ ws) (fun vs zs => vs ++ zs) ∧ PySem.W.keepIn K (.ref f) = true ∧ mg x = some (.ref f)
section
variable {X : Cx} {x : Str} {p pos : Pos} {e : Expr} {es : List Expr} {t tk : TA} {kws : List Keyword}
theorem pe_callHD {k j n : Nat} {ps ks : List Str} {dvs : List V} {sp : Sp} (C : HasK X.prog X.w X.K X.mg X.base k x ps n ks dvs sp) (hr : Room j X.A) (ha : PA X (e :: es) t) (hk : k ≤ j := by decide) (hg : Gl X x := by rfl) (hdb : (x == ("__debug__" : Str)) = false := by decide)
    (he : starEach (e :: es) X.env = (false, eval e X.env) :: starEach es X.env := by rfl) (hpl : (backTo pos (starEach es X.env)).any (·.1) = false := by rfl) :
    PE X (.Call (.Name x p) (e :: es) [] pos) (tCall sp dvs E0 t) := by
  obtain ⟨f, fd, F, ⟨ds, hv, b⟩, _, kp, m⟩ := C.ex
  exact pe_call F (hr.mono hk) hg m kp b hv pass0 ha hdb he hpl
theorem pe_callHK {k j n : Nat} {ps ks : List Str} {dvs : List V} {sp : Sp} (C : HasK X.prog X.w X.K X.mg X.base k x ps n ks dvs sp) (hr : Room j X.A) (ha : PA X (e :: es) t) (hkw : PK X kws tk) (hk : k ≤ j := by decide) (hg : Gl X x := by rfl)
    (hall : (backToKw pos (keywordEach kws X.env)).all (·.1.isSome) = true := by rfl) (hks : (backToKw pos (keywordEach kws X.env)).filterMap (·.1) = ks := by rfl)
    (hdb : (x == ("__debug__" : Str)) = false := by decide) (he : starEach (e :: es) X.env = (false, eval e X.env) :: starEach es X.env := by rfl)
    (hpl : ((backTo pos (starEach (e :: es) X.env)).any (·.1) || (backToKw pos (keywordEach kws X.env)).any (·.1.isNone)) = false := by rfl) :
    PE X (.Call (.Name x p) (e :: es) kws pos) (tCallN n ks.length sp (fun vs zs => vs ++ zs) E0 t tk) := by
  obtain ⟨f, fd, F, _, b, kp, m⟩ := C.ex
  exact pe_callN F (hr.mono hk) hg m kp b pass0 ha hkw hall hks hdb he hpl
end
theorem x_callN {σ : L2.St} {H : Hp} {Q : VK} {n m : Nat} {sp : Sp} {g : List V → List V → List V} {E : XK} {t tk : TA} (q : t σ H fun vs H1 => tk σ H1 fun zs H2 => vs.length = n ∧ zs.length = m ∧ sp (g vs zs) H2 Q E) : tCallN n m sp g E t tk σ H Q := q
end Gs
namespace Gs
open PySem PySem.Spec PyProof.Rows L2
section
variable {X : Cx} {K : PySem.W.Frag}
theorem ix_listK (h : X.K = K := by rfl) : IxR X (rIxL K) := h ▸ ix_list
theorem ix_tupK (h : X.K = K := by rfl) : IxR X (rIxT K) := h ▸ ix_tup
theorem op_inK (h : X.K = K := by rfl) : OpR X (compareOp .In) (rIn K false) := h ▸ op_in_seq
theorem op_notInK (h : X.K = K := by rfl) : OpR X (compareOp .NotIn) (rIn K true) := h ▸ op_notIn_seq
theorem sl_listK (h : X.K = K := by rfl) : SlR X (rSlL K) := h ▸ sl_list
theorem sl_tupK (h : X.K = K := by rfl) : SlR X (rSlT K) := h ▸ sl_tup
theorem op_eqDK (hu : X.A.units + 64 < cLine) (h : X.K = K := by rfl) : OpR X (compareOp .Eq) (rEqD K) := h ▸ op_eqD hu
theorem op_neDK (hu : X.A.units + 64 < cLine) (h : X.K = K := by rfl) : OpR X (compareOp .NotEq) (rNeD K) := h ▸ op_neD hu
def rLenK (K : PySem.W.Frag) : List V → Hp → VK → Prop := fun xs H Q => ∃ p ys, xs = [.ref p] ∧ (SqL K H p ys ∨ SqT K H p ys) ∧ Q (.int ys.length) H
theorem call_lenK (h : X.K = K := by rfl) : CallR X (.builtin "len") (rLenK K) := h ▸ call_len_seq
theorem call_isiKK (h : X.K = K := by rfl) : CallR X (.builtin "isinstance") (rIsi K) := h ▸ call_isi
end
theorem x_lenKL {K : PySem.W.Frag} {H : Hp} {Q : VK} {p : Addr} {xs : List V} (h : SqL K H p xs) (q : Q (.int xs.length) H) : rLenK K [.ref p] H Q := ⟨p, xs, rfl, .inl h, q⟩
theorem x_lenKT {K : PySem.W.Frag} {H : Hp} {Q : VK} {p : Addr} {xs : List V} (h : SqT K H p xs) (q : Q (.int xs.length) H) : rLenK K [.ref p] H Q := ⟨p, xs, rfl, .inr h, q⟩
end Gs
namespace Gs
open PySem PySem.Spec PyProof.Rows L2
section
variable {X : Cx} {K : PySem.W.Frag} {H : Hp} {Q : VK}
theorem cr_allK (hc : X.calm = true) (h : X.K = K := by rfl) : CallR X (.builtin "all") (rAll K) := h ▸ cr_all hc
theorem cr_anyK (hc : X.calm = true) (h : X.K = K := by rfl) : CallR X (.builtin "any") (rAny K) := h ▸ cr_any hc
theorem dpStrs : ∀ zs : List Str, DpAll K H (zs.map V.str) (zs.map PyData.str)
  | [] => .nil
  | z :: r => .cons (.str z) (dpStrs r)
def okStr (z : Str) : Bool := z.cps.all (· < 0x110000)
theorem shapedStrs {zs : List Str} (h : ∀ z ∈ zs, okStr z = true) : SeqAt.shaped (.list (zs.map PyData.str)) = true := by
  have h1 : PyData.canLayAll0 (zs.map PyData.str) = true := by
    induction zs with
    | nil => rfl
    | cons z r ih =>
      rw [List.map_cons]
      simp only [PyData.canLayAll0, PyData.canLay0, Bool.and_eq_true]
      exact ⟨h z (List.mem_cons_self ..), ih fun y hy => h y (List.mem_cons_of_mem _ hy)⟩
  have h2 : PyData.depthAll (zs.map PyData.str) = 0 := by
    clear h h1
    induction zs with
    | nil => rfl
    | cons z r ih => simp [PyData.depthAll, PyData.depth, ih]
  simp [SeqAt.shaped, PyData.canLay0, PyData.depth, h1, h2]
theorem x_eqStrs {a b : Addr} {zs : List Str} (ha : SqL K H a (zs.map V.str)) (hb : SqL K H b (zs.map V.str)) (h : ∀ z ∈ zs, okStr z = true) (q : Q (.bl true) H) : rEqD K (.ref a) (.ref b) H Q := by
  have hs := shapedStrs h
  refine ⟨_, _, .lst ha (dpStrs zs), .lst hb (dpStrs zs), hs, hs, ?_⟩
  rw [SeqAt.eqv_refl _ (SeqAt.canLay_of_shaped hs)]
  exact q
theorem okStr_small {z : Str} (h : ∀ x ∈ z.cps.toList, x < 128) : okStr z = true := by
  unfold okStr
  rw [Array.all_eq_true']
  intro x hx
  have := h x (by simpa using hx)
  simp
  omega
end
end Gs
namespace Gs
open PySem PySem.Spec PyProof.Rows L2
theorem atL {α : Type} {xs : List α} {i : Int} (h0 : 0 ≤ i) (h : i < (xs.length : Int)) : ∃ v, v ∈ xs ∧ atI xs i = some v := by
  have hk : i.toNat < xs.length := by omega
  have e : i = ((i.toNat : Nat) : Int) := by omega
  refine ⟨xs[i.toNat], List.getElem_mem hk, ?_⟩
  exact (congrArg (atI xs) e).trans (atI_nat (List.getElem?_eq_getElem hk))
end Gs

namespace Gs
open PySem PySem.Spec PyProof.Rows L2
/-! ### the pool of a law: its list at p, the script's rest at l; c : at most so many takes so far -/
structure PoolAt (H : Hp) (p l : Addr) (c : Int) : Prop where
  ex : ∃ (a n s : Int) (ns : List Int), H p = some (.lst [.ref l, .int a, .int n, .int s]) ∧ H l = some (.lst (ns.map V.int)) ∧ 0 ≤ a ∧ 0 ≤ n ∧ n ≤ c ∧ 0 ≤ s ∧ s < 2147483647 ∧ ns.length ≤ 1000
/-- all but p and l is as it was -/
def Kx (p l : Addr) (H H' : Hp) : Prop := ∀ b o, H b = some o → b ≠ p → b ≠ l → H' b = some o
theorem Kx.refl {p l : Addr} (H : Hp) : Kx p l H H := fun _ _ h _ _ => h
theorem Kx.trans {p l : Addr} {H H1 H2 : Hp} (a : Kx p l H H1) (b : Kx p l H1 H2) : Kx p l H H2 := fun c o h h1 h2 => b c o (a c o h h1 h2) h1 h2
theorem Kx.of {p l : Addr} {H H1 : Hp} (a : Same H H1) : Kx p l H H1 := fun c o h _ _ => a c o h
theorem Kx.updp {p l : Addr} {H H1 : Hp} {o : HO} (a : Kx p l H H1) : Kx p l H (upd H1 p o) := fun c u h h1 h2 => by
  rw [upd_ne h1]
  exact a c u h h1 h2
theorem Kx.updl {p l : Addr} {H H1 : Hp} {o : HO} (a : Kx p l H H1) : Kx p l H (upd H1 l o) := fun c u h h1 h2 => by
  rw [upd_ne h2]
  exact a c u h h1 h2
theorem Kx.updn {p l q : Addr} {H H1 : Hp} {o : HO} (hq : H1 q = none) (a : Kx p l H H1) : Kx p l H (upd H1 q o) := fun c u h h1 h2 => by
  rw [upd_ne (ne_of_none (a c u h h1 h2) hq)]
  exact a c u h h1 h2
theorem PoolAt.ne {H : Hp} {p l : Addr} {c : Int} (P : PoolAt H p l c) : p ≠ l := by
  obtain ⟨a, n, s, ns, hp, hl, _⟩ := P.ex
  refine ne_of hp hl fun z => ?_
  have z1 := HO.lst.inj z
  cases ns with
  | nil => cases z1
  | cons x r => simp at z1
theorem PoolAt.mono {H : Hp} {p l : Addr} {c d : Int} (P : PoolAt H p l c) (h : c ≤ d) : PoolAt H p l d := by
  obtain ⟨a, n, s, ns, hp, hl, h1, h2, h3, h4⟩ := P.ex
  exact ⟨a, n, s, ns, hp, hl, h1, h2, by omega, h4⟩
theorem PoolAt.same {H H' : Hp} {p l : Addr} {c : Int} (P : PoolAt H p l c) (h : Same H H') : PoolAt H' p l c := by
  obtain ⟨a, n, s, ns, hp, hl, h1⟩ := P.ex
  exact ⟨a, n, s, ns, h _ _ hp, h _ _ hl, h1⟩
theorem PoolAt.upd {H : Hp} {p l q : Addr} {c : Int} {o : HO} (P : PoolAt H p l c) (h : H q = none) : PoolAt (upd H q o) p l c :=
  P.same fun b u e => by
    rw [upd_ne (ne_of_none e h)]
    exact e
theorem PoolAt.hp {H : Hp} {p l : Addr} {c : Int} (P : PoolAt H p l c) : ∃ o, H p = some o := by
  obtain ⟨a, n, s, ns, hp, hl, h1⟩ := P.ex
  exact ⟨_, hp⟩
theorem same_upd {H : Hp} {p : Addr} {o : HO} (h : H p = none) : Same H (upd H p o) := fun b x e => by
  rw [upd_ne (ne_of_none e h)]
  exact e
theorem Kx.tup {p l a : Addr} {c : Int} {H H' : Hp} {xs : List V} (k : Kx p l H H') (P : PoolAt H p l c) (h : H a = some (.tup xs)) : H' a = some (.tup xs) := by
  obtain ⟨a', n, s, ns, hp, hl, h1⟩ := P.ex
  exact k a _ h (ne_of h hp (by intro z; cases z)) (ne_of h hl (by intro z; cases z))
theorem Kx.sqT {K : PySem.W.Frag} {p l a : Addr} {c : Int} {H H' : Hp} {xs : List V} (k : Kx p l H H') (P : PoolAt H p l c) (h : SqT K H a xs) : SqT K H' a xs := by
  obtain ⟨a', n, s, ns, hp, hl, h1⟩ := P.ex
  rcases h with (h | ⟨o, h⟩) | h
  · exact .inl (.inl (k.tup P h))
  · exact .inl (.inr ⟨o, k a _ h (ne_of h hp (by intro z; cases z)) (ne_of h hl (by intro z; cases z))⟩)
  · exact .inr h
theorem cutV_map (ns : List Int) (lo hi : Option Int) : ∃ ms : List Int, cutV (ns.map V.int) lo hi = ms.map V.int ∧ ms.length ≤ ns.length := by
  refine ⟨(ns.drop (HT.sIx ns.length 0 lo)).take (HT.sIx ns.length ns.length hi - HT.sIx ns.length 0 lo), ?_, ?_⟩
  · unfold cutV
    rw [List.length_map, List.map_take, List.map_drop]
  · rw [List.length_take, List.length_drop]
    omega
theorem kxl {p l a : Addr} {c : Int} {G H : Hp} {o : HO} (P : PoolAt G p l c) (na : G a = none) (k : Kx p l (upd G a o) H) : H a = some o := by
  obtain ⟨a', n, s, ns, hp, hl, h1⟩ := P.ex
  exact k a _ upd_same (ne_of_none hp na).symm (ne_of_none hl na).symm
theorem PoolAt.fresh {H : Hp} {p l a : Addr} {c : Int} (P : PoolAt H p l c) (h : H a = none) : a ≠ p ∧ a ≠ l := by
  obtain ⟨a', n, s, ns, hp, hl, h1⟩ := P.ex
  exact ⟨(ne_of_none hp h).symm, (ne_of_none hl h).symm⟩
theorem PoolAt.updo {H : Hp} {p l q : Addr} {c : Int} {o : HO} (P : PoolAt H p l c) (h1 : q ≠ p) (h2 : q ≠ l) : PoolAt (L2.upd H q o) p l c := by
  obtain ⟨a, n, s, ns, hp, hl, h⟩ := P.ex
  exact ⟨a, n, s, ns, by rw [upd_ne h1.symm]; exact hp, by rw [upd_ne h2.symm]; exact hl, h⟩
theorem Kx.updf {p l q : Addr} {H H1 : Hp} {o : HO} (hq : H q = none) (a : Kx p l H H1) : Kx p l H (L2.upd H1 q o) := fun c u h h1 h2 => by
  rw [upd_ne (ne_of_none h hq)]
  exact a c u h h1 h2
theorem Kx.none {p l D : Addr} {H G : Hp} (k : Kx p l H G) (h : G D = Option.none) (h1 : D ≠ p) (h2 : D ≠ l) : H D = Option.none := by
  cases e : H D with
  | none => rfl
  | some o =>
    rw [k D o e h1 h2] at h
    cases h
/-- how much a promise of a def with a pool asks -/
def Big : Int := 1000000000000
theorem mixedBound {s n t : Int} (h1 : 0 ≤ s) (h2 : s < 2147483647) (h3 : 0 ≤ n) (h4 : n ≤ 1000000000000) (h5 : 0 ≤ t) (h6 : t ≤ 100) : (s + 7919 * (8 * n + t) + 104729).natAbs < 2 ^ 64 := by omega
def spMixed (K : PySem.W.Frag) : Sp := fun vs H Q _ => ∃ (p l : Addr) (c t : Int), vs = [.ref p, .int t] ∧ PoolAt H p l c ∧ c ≤ 1000000000000 ∧ 0 ≤ t ∧ t ≤ 100 ∧ ∀ z : Int, 0 ≤ z → z < 2147483629 → Q (.int z) H
def spTake (K : PySem.W.Frag) : Sp := fun vs H Q _ => ∃ (p l : Addr) (c m : Int), vs = [.ref p, .int m] ∧ PoolAt H p l c ∧ c + 1 ≤ 1000000000000 ∧ 0 < m ∧ m ≤ 10 ^ 80 ∧
  ∀ (z : Int) (H' : Hp), 0 ≤ z → z < m → PoolAt H' p l (c + 1) → Kx p l H H' → Q (.int z) H'
def spPool (K : PySem.W.Frag) : Sp := fun vs H Q _ => ∃ (a : Addr) (ns : List Int) (k : Int), vs = [.ref a, .int k] ∧ SqL K H a (ns.map V.int) ∧ ns.length ≤ 63 ∧ 0 ≤ k ∧ k ≤ 100 ∧
  ∀ (p l : Addr) (H' : Hp), H p = none → H l = none → Same H H' → PoolAt H' p l 0 → Q (.ref p) H'
theorem log_of {i : Int} {a : Nat} (ha : i.natAbs < 2 ^ a) (h0 : 0 < a) : i.natAbs.log2 < a := PySem.Flt.log2_lt_of h0 ha
end Gs

namespace Gs
open PySem PySem.Spec PyProof.Rows L2 TL
/-! ### the pieces of a line, as lists of codes -/
def sD : List Nat := [48, 49, 50, 51, 52, 53, 54, 55, 56, 57]
def sS : List Nat := [97, 98, 99, 100, 101, 102, 103, 104, 105, 106, 107, 108, 109, 110, 111, 112, 113, 114, 115, 116, 117, 118, 119, 120, 121, 122]
def sC : List Nat := [65, 66, 67, 68, 69, 70, 71, 72, 73, 74, 75, 76, 77, 78, 79, 80, 81, 82, 83, 84, 85, 86, 87, 88, 89, 90]
def sM : List Nat := [43, 45, 42, 47, 60, 62, 61, 38, 33, 63, 94, 64, 35, 58, 124, 46, 36]
theorem tl_D : tl ("0123456789" : Str) = sD := by decide +kernel
theorem tl_S : tl ("abcdefghijklmnopqrstuvwxyz" : Str) = sS := by decide +kernel
theorem tl_C : tl ("ABCDEFGHIJKLMNOPQRSTUVWXYZ" : Str) = sC := by decide +kernel
theorem tl_M : tl ("+-*/<>=&!?^@#:|.$" : Str) = sM := by decide +kernel
/-- by what a piece goes on that begins so -/
def cls (c : Nat) : List Nat := if c ∈ sD ∨ c = 126 then sD else if c ∈ sS ∨ c ∈ sC then sS ++ sD else if c ∈ sM then sM else []
def Stop (c : Nat) : List Nat → Prop
  | [] => True
  | h :: _ => h ∉ cls c
inductive Cut : List Nat → List (List Nat) → Prop
  | nil : Cut [] []
  | blank {l : List Nat} {ts : List (List Nat)} : Cut l ts → Cut (32 :: l) ts
  | piece {c : Nat} {t l : List Nat} {ts : List (List Nat)} : c ≠ 32 → (∀ x ∈ t, x ∈ cls c) → Stop c l → Cut l ts → Cut (c :: (t ++ l)) ((c :: t) :: ts)
theorem Cut.blanks {l : List Nat} {ts : List (List Nat)} (h : Cut l ts) : ∀ n : Nat, Cut (List.replicate n 32 ++ l) ts
  | 0 => h
  | n + 1 => by
    rw [List.replicate_succ]
    exact .blank (Cut.blanks h n)
theorem Cut.drop {l : List Nat} {ts : List (List Nat)} (h : Cut l ts) : Cut (l.dropWhile fun x => decide (x ∈ [32])) ts := by
  induction h with
  | nil => exact .nil
  | blank h ih =>
    rw [List.dropWhile_cons_of_pos (by decide)]
    exact ih
  | @piece c t l ts hc ht hs h ih =>
    rw [List.dropWhile_cons_of_neg (by simpa using hc)]
    exact .piece hc ht hs h
theorem run_stop {S t l : List Nat} (ht : ∀ x ∈ t, x ∈ S) (hl : ∀ h r, l = h :: r → h ∉ S) : (t ++ l).takeWhile (fun x => decide (x ∈ S)) = t := by
  induction t with
  | nil =>
    cases l with
    | nil => rfl
    | cons h r =>
      rw [List.nil_append, List.takeWhile_cons_of_neg (by simpa using hl h r rfl)]
  | cons x t ih =>
    rw [List.cons_append, List.takeWhile_cons_of_pos (by simpa using ht x (List.mem_cons_self ..)), ih fun y hy => ht y (List.mem_cons_of_mem _ hy)]
theorem stop_of {c : Nat} {l : List Nat} (h : Stop c l) : ∀ x r, l = x :: r → x ∉ cls c := fun x r e => by
  subst e
  exact h
/-- what the program says of a piece -/
def isPc : List Nat → Bool
  | [] => false
  | c :: t =>
    if c = 126 then decide (1 ≤ t.length ∧ t.length ≤ 60 ∧ t.head? ≠ some 48)
    else if c ∈ sD then decide (t.length + 1 ≤ 60 ∧ (c ≠ 48 ∨ t = []))
    else if c ∈ sS ∨ c ∈ sC then decide (t.length + 1 ≤ 12)
    else if c ∈ sM then decide (t.length + 1 ≤ 3)
    else decide (c ∈ [40, 41, 44])
theorem isPc_cons (c : Nat) (t : List Nat) : isPc (c :: t) = if c = 126 then decide (1 ≤ t.length ∧ t.length ≤ 60 ∧ t.head? ≠ some 48)
    else if c ∈ sD then decide (t.length + 1 ≤ 60 ∧ (c ≠ 48 ∨ t = []))
    else if c ∈ sS ∨ c ∈ sC then decide (t.length + 1 ≤ 12)
    else if c ∈ sM then decide (t.length + 1 ≤ 3)
    else decide (c ∈ [40, 41, 44]) := rfl
structure OkBit (l : List Nat) : Prop where
  ex : ∃ c t, l = c :: t ∧ c ≠ 32 ∧ ∀ x ∈ t, x ∈ cls c
  pc : isPc l = true
  small : ∀ x ∈ l, x < 128
  len : l.length ≤ 61
theorem sD_iff {c : Nat} : c ∈ sD ↔ 48 ≤ c ∧ c ≤ 57 := by
  unfold sD
  simp only [List.mem_cons, List.not_mem_nil, or_false]
  omega
theorem sS_iff {c : Nat} : c ∈ sS ↔ 97 ≤ c ∧ c ≤ 122 := by
  unfold sS
  simp only [List.mem_cons, List.not_mem_nil, or_false]
  omega
theorem sC_iff {c : Nat} : c ∈ sC ↔ 65 ≤ c ∧ c ≤ 90 := by
  unfold sC
  simp only [List.mem_cons, List.not_mem_nil, or_false]
  omega
theorem sM_all {c : Nat} (h : c ∈ sM) : (33 ≤ c ∧ c < 48 ∧ c ≠ 40 ∧ c ≠ 41 ∧ c ≠ 44) ∨ (58 ≤ c ∧ c ≤ 64) ∨ c = 94 ∨ c = 124 := by
  unfold sM at h
  simp only [List.mem_cons, List.not_mem_nil, or_false] at h
  omega
theorem cls_D {c : Nat} (h : c ∈ sD ∨ c = 126) : cls c = sD := if_pos h
theorem cls_W {c : Nat} (h : c ∈ sS ∨ c ∈ sC) : cls c = sS ++ sD := by
  unfold cls
  rw [if_neg, if_pos h]
  rw [sD_iff]
  rw [sS_iff, sC_iff] at h
  omega
theorem cls_M {c : Nat} (h : c ∈ sM) : cls c = sM := by
  have z := sM_all h
  unfold cls
  rw [if_neg (by rw [sD_iff]; omega), if_neg (by rw [sS_iff, sC_iff]; omega), if_pos h]
theorem cls_N {c : Nat} (h1 : c ∉ sD) (h2 : c ≠ 126) (h3 : c ∉ sS) (h4 : c ∉ sC) (h5 : c ∉ sM) : cls c = [] := by
  unfold cls
  rw [if_neg (by simp [h1, h2]), if_neg (by simp [h3, h4]), if_neg h5]
theorem cls_small {c x : Nat} (h : x ∈ cls c) : x < 128 ∧ x ≠ 32 := by
  unfold cls at h
  split at h
  · rw [sD_iff] at h
    omega
  · split at h
    · rw [List.mem_append, sS_iff, sD_iff] at h
      omega
    · split at h
      · have z := sM_all h
        omega
      · cases h
theorem blank_not {c : Nat} : 32 ∉ cls c := fun h => (cls_small h).2 rfl
/-! numbers -/
theorem numL_head : ∀ n : Nat, 0 < n → ∃ c t, numL n = c :: t ∧ c ≠ 48 := by
  intro n
  induction n using Nat.strongRecOn with
  | _ n ih =>
    intro h0
    by_cases h : n < 10
    · exact ⟨48 + n, [], numL_lt h, by omega⟩
    · obtain ⟨c, t, e, hc⟩ := ih (n / 10) (by omega) (by omega)
      exact ⟨c, t ++ [48 + n % 10], by rw [numL_step (by omega), e]; rfl, hc⟩
theorem numL_D (n : Nat) : ∀ x ∈ numL n, x ∈ sD := fun x hx => sD_iff.mpr (numL_digits n x hx)
theorem ok_num {n : Nat} (h : n < 10 ^ 60) : OkBit (numL n) := by
  have hl := numL_len (k := 60) (by decide) h
  obtain ⟨c, t, e⟩ : ∃ c t, numL n = c :: t := by
    cases e : numL n with
    | nil => exact absurd e (numL_ne n)
    | cons c t => exact ⟨c, t, rfl⟩
  have hD := numL_D n
  rw [e] at hD hl ⊢
  have hc := hD c (List.mem_cons_self ..)
  have hc' := sD_iff.mp hc
  refine ⟨⟨c, t, rfl, by omega, fun x hx => ?_⟩, ?_, fun x hx => ?_, by omega⟩
  · rw [cls_D (.inl hc)]
    exact hD x (List.mem_cons_of_mem _ hx)
  · rw [isPc_cons, if_neg (by omega), if_pos hc]
    refine decide_eq_true ⟨hl, ?_⟩
    by_cases h0 : 0 < n
    · obtain ⟨c', t', e', hn⟩ := numL_head n h0
      rw [e] at e'
      cases e'
      exact .inl hn
    · have e0 : n = 0 := by omega
      subst e0
      have z : numL 0 = [48] := numL_lt (by decide)
      rw [e] at z
      cases z
      exact .inr rfl
  · have := sD_iff.mp (hD x hx)
    omega
theorem ok_neg {n : Nat} (h0 : 0 < n) (h : n < 10 ^ 60) : OkBit (126 :: numL n) := by
  have hl := numL_len (k := 60) (by decide) h
  obtain ⟨c, t, e, hc⟩ := numL_head n h0
  have hD := numL_D n
  rw [e] at hD hl ⊢
  refine ⟨⟨126, c :: t, rfl, by decide, fun x hx => ?_⟩, ?_, fun x hx => ?_, by rw [List.length_cons]; omega⟩
  · rw [cls_D (.inr rfl)]
    exact hD x hx
  · rw [isPc_cons, if_pos rfl]
    refine decide_eq_true ⟨by rw [List.length_cons]; omega, hl, ?_⟩
    simpa using hc
  · rcases List.mem_cons.mp hx with e | hx
    · omega
    · have := sD_iff.mp (hD x hx)
      omega
theorem ok_word {c : Nat} {t : List Nat} (hc : c ∈ sS ∨ c ∈ sC) (ht : ∀ x ∈ t, x ∈ sS ++ sD) (hl : t.length + 1 ≤ 12) : OkBit (c :: t) := by
  have h' : (97 ≤ c ∧ c ≤ 122) ∨ (65 ≤ c ∧ c ≤ 90) := by rwa [sS_iff, sC_iff] at hc
  refine ⟨⟨c, t, rfl, by omega, by rw [cls_W hc]; exact ht⟩, ?_, fun x hx => ?_, by rw [List.length_cons]; omega⟩
  · rw [isPc_cons, if_neg (by omega), if_neg (by rw [sD_iff]; omega), if_pos hc]
    exact decide_eq_true hl
  · rcases List.mem_cons.mp hx with e | hx
    · omega
    · have := ht x hx
      rw [List.mem_append, sS_iff, sD_iff] at this
      omega
theorem ok_mark {c : Nat} {t : List Nat} (hc : c ∈ sM) (ht : ∀ x ∈ t, x ∈ sM) (hl : t.length + 1 ≤ 3) : OkBit (c :: t) := by
  have h' := sM_all hc
  refine ⟨⟨c, t, rfl, by omega, by rw [cls_M hc]; exact ht⟩, ?_, fun x hx => ?_, by rw [List.length_cons]; omega⟩
  · rw [isPc_cons, if_neg (by omega), if_neg (by rw [sD_iff]; omega), if_neg (by rw [sS_iff, sC_iff]; omega), if_pos hc]
    exact decide_eq_true hl
  · rcases List.mem_cons.mp hx with e | hx
    · omega
    · have := sM_all (ht x hx)
      omega
theorem ok_sign {c : Nat} (hc : c = 40 ∨ c = 41 ∨ c = 44) : OkBit [c] := by
  refine ⟨⟨c, [], rfl, by omega, fun x hx => by cases hx⟩, ?_, fun x hx => ?_, by simp⟩
  · rcases hc with e | e | e <;> subst e <;> decide
  · rw [List.mem_singleton.mp hx]
    omega
/-! a line laid bit by bit -/
/-- what may follow, so that the last bit stays one -/
structure Laid (L : List Nat) (bits : List (List Nat)) (last : Nat) : Prop where
  go : ∀ R ts, Stop last R → Cut R ts → Cut (L ++ R) (bits ++ ts)
theorem Laid.start (n : Nat) : Laid (List.replicate n 32) [] 40 := ⟨fun R ts _ h => h.blanks n⟩
theorem Laid.add {L : List Nat} {bits : List (List Nat)} {last g : Nat} {c : Nat} {t : List Nat} (h : Laid L bits last) (hb : OkBit (c :: t)) (hg : 0 < g ∨ c ∉ cls last) : Laid (L ++ List.replicate g 32 ++ (c :: t)) (bits ++ [c :: t]) c := by
  obtain ⟨c', t', e, hc, ht⟩ := hb.ex
  cases e
  refine ⟨fun R ts hs hR => ?_⟩
  have h1 : Cut ((c :: t) ++ R) ((c :: t) :: ts) := .piece hc ht hs hR
  have h2 := h1.blanks g
  have h3 := h.go (List.replicate g 32 ++ ((c :: t) ++ R)) ((c :: t) :: ts) ?_ h2
  · rw [List.append_assoc, List.append_assoc, List.append_assoc]
    exact h3
  · cases g with
    | zero =>
      rcases hg with hg | hg
      · omega
      · exact hg
    | succ g => exact blank_not
theorem Laid.done {L : List Nat} {bits : List (List Nat)} {last : Nat} (h : Laid L bits last) (n : Nat) : Cut (L ++ List.replicate n 32) bits := by
  have h2 := h.go (List.replicate n 32) [] ?_ ?_
  · rw [List.append_nil] at h2
    exact h2
  · cases n with
    | zero => exact True.intro
    | succ n => exact blank_not
  · have := Cut.nil.blanks n
    rw [List.append_nil] at this
    exact this
end Gs

namespace Gs
open PySem PySem.Spec PyProof.Rows L2
/-- the statements of a class -/
def clsBody : Stmt → List Stmt
  | .ClassDef _ _ _ b _ _ _ _ _ _ _ => b
  | _ => []
/-! ### own classes of errors: GoalError's kinds -/
section
variable {X : Cx} {e : PySem.Expr} {es : List PySem.Expr} {ta : TA} {p p1 p2 pos pos2 : Pos} {pl : Sem Bool} {B : Addr} {cx : Str}
/-- Base.__init__(self, ..), Base a class of the text that has no __init__ of its own, over ValueError -/
theorem pe_cinit (hg : Gl X cx) (hm : X.mg cx = some (.ref B))
    (sp : PySem.W.specialIn X.K (.ref B) "__getattribute__" = some (some (.builtin "type.__getattribute__")))
    (rd : PySem.W.readsIn X.K B (.type "type") = true)
    (fc : PySem.W.findCls X.K (.ref B) (.type "type") "__init__" = some (.val (.builtin "ValueError.__init__")))
    (ha : PA X (e :: es) ta) (hd : (cx == ("__debug__" : Str)) = false := by decide)
    (h1 : eval (((Expr.Name cx p1).Attribute "__init__" p2).Call (e :: es) [] pos) X.env =
                (eval (Expr.Name cx p1) X.env >>= fun ov => standAt p2.atName >>= fun _ => holding [ov] (getMethod ov "__init__" pl) >>= fun xx =>
                    callWith pos xx.1 xx.2 (backTo pos (starEach (e :: es) X.env)) (backToKw pos (keywordEach [] X.env))) := by rfl)
    (he : starEach (e :: es) X.env = (false, eval e X.env) :: starEach es X.env := by rfl)
    (hpl : ((backTo pos (starEach es X.env)).any fun (x : Bool × Sem Value) => x.fst) = false := by rfl) :
    PE X (((Expr.Name cx p1).Attribute "__init__" p2).Call (e :: es) [] pos) (tVeI X.K ta) := by
  refine ⟨fun pins s σ H Q I h => ?_⟩
  refine PySem.W.methodCall_KW (pl := pl) ?_ h1
  refine ld_glob I hg hm ?_ hd
  obtain ⟨m, F⟩ := I.fr
  have kin : X.K.In s.heap := I.ok.mod.kin.keeps F.keep
  refine PySem.W.method_cls kin sp (PySem.W.cls_value kin rd fc rfl ?_)
  refine callWith_method1 ?_ he hpl
  refine thn (ha.run pos pins _ σ H _ (I.tok _) h) ?_
  rintro us s1 ⟨vs, H1, I1, hv, a, C, ws, rfl, hl, oc, ho, q⟩
  cases hv with
  | cons r hr =>
  obtain rfl := r
  have l : ws.length = _ := hr.length
  exact oinit_ok oc I1 ho (by rw [← l, sizeLine_eq]; omega) fun s' I2 => ⟨.non, _, I2, rfl, q⟩
end
/-- what the text's written part says of the class GoalError, at B -/
structure BaseC (K : PySem.W.Frag) (mg : Str → Option Value) (B : Addr) : Prop where
  mB : mg "GoalError" = some (.ref B)
  sp : PySem.W.specialIn K (.ref B) "__getattribute__" = some (some (.builtin "type.__getattribute__"))
  rd : PySem.W.readsIn K B (.type "type") = true
  fc : PySem.W.findCls K (.ref B) (.type "type") "__init__" = some (.val (.builtin "ValueError.__init__"))
/-- the promise of an __init__ of one whole number -/
def spErr1 (K : PySem.W.Frag) (C : Addr) (fld : Str) : Sp := fun vs H Q _ => ∃ (a : Addr) (n : Nat), vs = [.ref a, .int (n : Int)] ∧ n < 10 ^ 50 ∧ H a = some (exo a C none) ∧
  ∀ dx, H dx = none → dx ≠ a → Q .non (upd (upd H dx (exd dx [(fld, .int (n : Int))])) a (exo a C (some dx)))
/-- the class of errors x, at C, whose __init__ takes one whole number and keeps it as fld -/
structure HasErr (P : Program) (w : World) (K : PySem.W.Frag) (mg : Str → Option Value) (base : Heap) (x fld : Str) (C : Addr) : Prop where
  oex : OexC K C
  mC : mg x = some (.ref C)
  xf : XfC K C
  noF : PySem.W.findIn K (.ref C) fld = some none
  ex : PySem.W.exmOne K (.ref C) (.ref C) = some true
  ini : ∃ (fI : Addr) (fd : FuncData), PySem.W.findIn K (.ref C) "__init__" = some (some (.ref fI)) ∧ PySem.W.typeIn K (.ref fI) = some (.type "function") ∧ FnOk P w K mg base CX0 1 fI fd ["self", fld] (spErr1 K C fld) ∧ Binds K fd ["self", fld] []
section
variable {X : Cx} {e : PySem.Expr} {es : List PySem.Expr} {ta t : TA} {p p1 p2 pos pos2 : Pos} {C : Addr} {x fld : Str} {W : WX} {j : Nat}
/-- raise x(e) -/
theorem ps_raiseE (E : HasErr X.prog X.w X.K X.mg X.base x fld C) (hc : X.calm = true) (tk : Takes X W) (hr : Room j X.A) (ha : PA X [e] ta) (hk : 2 ≤ j := by decide) (hg : Gl X x := by rfl) (hd : (x == ("__debug__" : Str)) = false := by decide)
    (he : starEach (e :: []) X.env = (false, eval e X.env) :: starEach [] X.env := by rfl) (hpl : (backTo pos (starEach [] X.env)).any (·.1) = false := by rfl) :
    PS X (.Raise (some (.Call (.Name x p) [e] [] pos)) none pos2) (fun _ σ H => tMkO C (spErr1 X.K C fld) [] ta σ H fun cls d H' => W cls d σ H') := by
  obtain ⟨fI, fd, i1, i2, F, b⟩ := E.ini
  exact ps_raise hc tk (pmk_oex E.oex i1 i2 F (hr.mono hk) b .nil pass0 hg E.mC ha hd he hpl)
end
section
variable {K : PySem.W.Frag} {C : Addr} {fld : Str} {σ : L2.St} {H : Hp} {ta : TA} {sp : Sp} {dvs : List V}
theorem x_mkO {Q : XK} (q : ta σ H fun vs H1 => vs.length ≤ 1000 ∧ ∀ a, H1 a = none → sp (.ref a :: (vs ++ dvs)) (upd H1 a (exo a C none)) (fun v H2 => v = .non ∧ ∃ (d : Addr) (fs : List (Str × V)), H2 a = some (exo a C (some d)) ∧ H2 d = some (exd d fs) ∧ H1 d = none ∧ Q (.ref C) (some d) (upd (del H2 a) d (.xd fs))) (fun _ _ _ => False)) :
    tMkO C sp dvs ta σ H Q := q
theorem upd_err {H : Hp} {a d : Addr} {o1 o2 o3 o4 : HO} (ha : H a = none) (hne : d ≠ a) : upd (del (upd (upd (upd H a o1) d o2) a o3) a) d o4 = upd H d o4 := by
  funext b
  unfold upd del
  by_cases h1 : b = d
  · simp [h1]
  · by_cases h2 : b = a
    · subst h2
      simp [h1, ha]
    · simp [h1, h2]
/-- the error is made: what is left to show -/
theorem x_mkE {n : Nat} {Q : XK} (hn : n < 10 ^ 50) (q : ∀ d, H d = none → Q (.ref C) (some d) (upd H d (.xd [(fld, .int (n : Int))]))) :
    [V.int (n : Int)].length ≤ 1000 ∧ ∀ a, H a = none → spErr1 K C fld (.ref a :: ([V.int (n : Int)] ++ [])) (upd H a (exo a C none)) (fun v H2 => v = .non ∧ ∃ (d : Addr) (fs : List (Str × V)), H2 a = some (exo a C (some d)) ∧ H2 d = some (exd d fs) ∧ H d = none ∧ Q (.ref C) (some d) (upd (del H2 a) d (.xd fs))) (fun _ _ _ => False) := by
  refine ⟨(by show 1 ≤ 1000; decide), fun a ha => ⟨a, n, rfl, hn, upd_same, fun dx hdx hne => ⟨rfl, dx, [(fld, .int (n : Int))], upd_same, ?_, ?_, ?_⟩⟩⟩
  · rw [upd_ne hne]
    exact upd_same
  · rw [upd_ne hne] at hdx
    exact hdx
  · rw [upd_ne hne] at hdx
    rw [upd_err ha hne]
    exact q dx hdx
/-- for i, x in enumerate(a list) -/
theorem x_enum {R : It → Hp → Prop} (q : ta σ H fun vs H1 => ∃ a xs, vs = [.ref a] ∧ SqL K H1 a xs ∧ R (Ite K a) H1) : iEnum K ta σ H R := q
theorem x_forE {g : TG} {tb : TS} {a : Addr} {xs : List V} {X : L2.St → Hp → Prop} {rt : VK} (Pv : Nat → L2.St → Hp → Prop) (hS : SqL K H a xs) (h0 : Pv 0 σ H) (hl : ∀ i σ H, i ≤ xs.length → Pv i σ H → SqL K H a xs)
    (hs : ∀ i x σ H T, xs[i]? = some x → Pv i σ H → H T = none → g (.ref T) σ (upd H T (.tup [.int (i : Int), x])) fun σ2 H2 => tb { nx := Pv (i + 1), rt := rt, bk := X, ct := Pv (i + 1) } σ2 H2) (hd : ∀ σ H, Pv xs.length σ H → X σ H) :
    ∃ b ys, [V.ref a] = [V.ref b] ∧ SqL K H b ys ∧ ∃ W : Nat → Nat → L2.St → Hp → Prop, (∃ m, W 0 m σ H) ∧ ∀ i m σ H, W i m σ H →
      ((Ite K b).stop i H ∧ X σ H) ∨ ((Ite K b).go i H ∧ ∃ N : L2.St → Hp → Prop, (∀ σ' H', N σ' H' → ∃ m', m' < m ∧ W (i + 1) m' σ' H') ∧ ∀ x H', (Ite K b).yld i H x H' → g x σ H' fun σ2 H2 => tb { nx := N, rt := rt, bk := X, ct := N } σ2 H2) := by
  refine ⟨a, xs, rfl, hS, fun i m σ H => i + m = xs.length ∧ Pv i σ H, ⟨xs.length, Nat.zero_add _, h0⟩, ?_⟩
  rintro i m σ H ⟨hm, p⟩
  have hL := hl i σ H (by omega) p
  by_cases c : i < xs.length
  · refine .inr ⟨⟨xs, xs[i], hL, List.getElem?_eq_getElem c⟩, Pv (i + 1), fun σ' H' p' => ⟨m - 1, by omega, by omega, p'⟩, ?_⟩
    rintro x H' ⟨T, y, rfl, hT, rfl, hy⟩
    exact hs i y σ H T (hy xs hL) p hT
  · have e : i = xs.length := by omega
    subst e
    exact .inl ⟨⟨xs, hL, Nat.le_refl _⟩, hd σ H p⟩
end
theorem Same.sqT {K : PySem.W.Frag} {H H' : Hp} {a : Addr} {xs : List V} (k : Same H H') (h : SqT K H a xs) : SqT K H' a xs := by
  rcases h with (h | ⟨o, h⟩) | h
  · exact .inl (.inl (k a _ h))
  · exact .inl (.inr ⟨o, k a _ h⟩)
  · exact .inr h
/-! ### trees of numbers, texts and tuples -/
inductive Tv where
  | i : Int → Tv
  | s : Str → Tv
  | t : List Tv → Tv
/-- x is the tree, less than so deep -/
def TvAt (K : PySem.W.Frag) (H : Hp) : Nat → V → Tv → Prop
  | 0, _, _ => False
  | _ + 1, x, .i n => x = .int n
  | _ + 1, x, .s z => x = .str z
  | k + 1, x, .t ts => ∃ (a : Addr) (vs : List V), x = .ref a ∧ SqT K H a vs ∧ vs.length ≤ 1000 ∧ vs.length = ts.length ∧ ∀ (i : Nat) (y : V) (u : Tv), vs[i]? = some y → ts[i]? = some u → TvAt K H k y u
theorem TvAt.same {K : PySem.W.Frag} {H H' : Hp} (h : Same H H') : ∀ {k : Nat} {x : V} {u : Tv}, TvAt K H k x u → TvAt K H' k x u
  | 0, _, _, z => z
  | _ + 1, _, .i _, z => z
  | _ + 1, _, .s _, z => z
  | _ + 1, _, .t _, ⟨a, vs, e, s, z, l, f⟩ => ⟨a, vs, e, Same.sqT h s, z, l, fun i y u h1 h2 => (f i y u h1 h2).same h⟩
theorem TvAt.up {K : PySem.W.Frag} {H : Hp} : ∀ {k : Nat} {x : V} {u : Tv}, TvAt K H k x u → TvAt K H (k + 1) x u
  | _ + 1, _, .i _, z => z
  | _ + 1, _, .s _, z => z
  | _ + 1, _, .t _, ⟨a, vs, e, s, z, l, f⟩ => ⟨a, vs, e, s, z, l, fun i y u h1 h2 => (f i y u h1 h2).up⟩
theorem TvAt.kx {K : PySem.W.Frag} {p l : Addr} {c : Int} {H H' : Hp} (h : Kx p l H H') (P : PoolAt H p l c) : ∀ {k : Nat} {x : V} {u : Tv}, TvAt K H k x u → TvAt K H' k x u
  | 0, _, _, z => z
  | _ + 1, _, .i _, z => z
  | _ + 1, _, .s _, z => z
  | _ + 1, _, .t _, ⟨a, vs, e, s, z, l, f⟩ => ⟨a, vs, e, h.sqT P s, z, l, fun i y u h1 h2 => (f i y u h1 h2).kx h P⟩
/-- the type of what a tree is -/
theorem ty_tup {K : PySem.W.Frag} {H : Hp} {a : Addr} {vs : List V} (h : SqT K H a vs) : TyX K H (.ref a) (.type "tuple") := by
  rcases h with (h | ⟨o, h⟩) | ⟨o, its, n, h, h1, _⟩
  · exact .base (.tup h)
  · exact .fTuple h
  · exact .kTuple h h1
end Gs
namespace Gs
open PySem PySem.Spec PyProof.Rows L2
/-- a def of the text that may raise -/
structure HasE (P : Program) (w : World) (K : PySem.W.Frag) (mg : Str → Option Value) (base : Heap) (k : Nat) (x : Str) (ps : List Str) (sp : Sp) : Prop where
  ex : ∃ (f : Addr) (fd : FuncData), FnOk P w K mg base (L2.CX P w) k f fd ps sp ∧ Binds K fd ps [] ∧ PySem.W.keepIn K (.ref f) = true ∧ mg x = some (.ref f)
section
variable {X : Cx} {x : Str} {p pos : Pos} {e : PySem.Expr} {es : List PySem.Expr} {t : TA}
theorem pe_callE {k j : Nat} {ps : List Str} {sp : Sp} {W : WX} (C : HasE X.prog X.w X.K X.mg X.base k x ps sp) (hr : Room j X.A) (tk : Takes X W) (ha : PA X (e :: es) t) (hk : k ≤ j := by decide) (hg : Gl X x := by rfl) (hdb : (x == ("__debug__" : Str)) = false := by decide)
    (he : starEach (e :: es) X.env = (false, eval e X.env) :: starEach es X.env := by rfl) (hpl : (backTo pos (starEach es X.env)).any (·.1) = false := by rfl) :
    PE X (.Call (.Name x p) (e :: es) [] pos) (tCallS sp (WE W) t) := by
  obtain ⟨f, fd, F, b, kp, m⟩ := C.ex
  exact pe_callS F (hr.mono hk) hg m kp b (fun σ => passAt tk σ) ha hdb he hpl
end
theorem x_callS {σ : L2.St} {H : Hp} {Q : VK} {sp : Sp} {E : L2.St → XK} {t : TA} (q : t σ H fun vs H1 => sp vs H1 Q (E σ)) : tCallS sp E t σ H Q := q
/-! ### operators: rows of a level, a side, a name -/
structure Op where
  l : Int
  s : Str
  n : Str
@[reducible] def rowV (o : Op) : List V := [.int o.l, .str o.s, .str o.n]
def RowsAt (K : PySem.W.Frag) (H : Hp) (vs : List V) (ops : List Op) : Prop := vs.length = ops.length ∧ ∀ (i : Nat) (v : V) (o : Op), vs[i]? = some v → ops[i]? = some o → ∃ a, v = .ref a ∧ SqT K H a (rowV o)
theorem RowsAt.nil {K : PySem.W.Frag} {H : Hp} : RowsAt K H [] [] := ⟨rfl, fun i v o h => by cases h⟩
theorem RowsAt.cons {K : PySem.W.Frag} {H : Hp} {a : Addr} {o : Op} {vs : List V} {ops : List Op} (h : SqT K H a (rowV o)) (r : RowsAt K H vs ops) : RowsAt K H (.ref a :: vs) (o :: ops) := by
  refine ⟨by rw [List.length_cons, List.length_cons, r.1], fun i v u h1 h2 => ?_⟩
  cases i with
  | zero =>
    cases h1
    cases h2
    exact ⟨a, rfl, h⟩
  | succ i => exact r.2 i v u h1 h2
theorem RowsAt.append {K : PySem.W.Frag} {H : Hp} {vs ws : List V} {ops ops' : List Op} (r : RowsAt K H vs ops) (r' : RowsAt K H ws ops') : RowsAt K H (vs ++ ws) (ops ++ ops') := by
  refine ⟨by rw [List.length_append, List.length_append, r.1, r'.1], fun i v u h1 h2 => ?_⟩
  by_cases c : i < vs.length
  · rw [List.getElem?_append_left c] at h1
    rw [List.getElem?_append_left (by rw [← r.1]; exact c)] at h2
    exact r.2 i v u h1 h2
  · rw [List.getElem?_append_right (by omega)] at h1
    rw [List.getElem?_append_right (by rw [← r.1]; omega), ← r.1] at h2
    exact r'.2 _ v u h1 h2
theorem RowsAt.mono {K : PySem.W.Frag} {H H' : Hp} {vs : List V} {ops : List Op} (r : RowsAt K H vs ops) (k : ∀ a xs, SqT K H a xs → SqT K H' a xs) : RowsAt K H' vs ops := by
  refine ⟨r.1, fun i v o h1 h2 => ?_⟩
  obtain ⟨a, e, h⟩ := r.2 i v o h1 h2
  exact ⟨a, e, k a _ h⟩
theorem RowsAt.same {K : PySem.W.Frag} {H H' : Hp} {vs : List V} {ops : List Op} (r : RowsAt K H vs ops) (k : Same H H') : RowsAt K H' vs ops := r.mono fun _ _ h => Same.sqT k h
theorem RowsAt.kx {K : PySem.W.Frag} {p l : Addr} {c : Int} {H H' : Hp} {vs : List V} {ops : List Op} (r : RowsAt K H vs ops) (k : Kx p l H H') (P : PoolAt H p l c) : RowsAt K H' vs ops := r.mono fun _ _ h => k.sqT P h
theorem RowsAt.at {K : PySem.W.Frag} {H : Hp} {vs : List V} {ops : List Op} (r : RowsAt K H vs ops) {i : Nat} {v : V} (h : vs[i]? = some v) : ∃ a o, v = .ref a ∧ ops[i]? = some o ∧ SqT K H a (rowV o) := by
  have hi : i < vs.length := by
    rw [List.getElem?_eq_some_iff] at h
    exact h.1
  have h2 : ops[i]? = some (ops[i]'(by rw [← r.1]; exact hi)) := List.getElem?_eq_getElem _
  obtain ⟨a, e, s⟩ := r.2 i v _ h h2
  exact ⟨a, _, e, h2, s⟩
theorem RowsAt.take {K : PySem.W.Frag} {H : Hp} {vs : List V} {ops : List Op} (r : RowsAt K H vs ops) (k : Nat) : RowsAt K H (vs.take k) (ops.take k) := by
  refine ⟨by rw [List.length_take, List.length_take, r.1], fun i v o h1 h2 => ?_⟩
  by_cases c : i < k
  · rw [List.getElem?_take_of_lt c] at h1 h2
    exact r.2 i v o h1 h2
  · rw [List.getElem?_take_eq_none (by omega)] at h1
    cases h1
theorem row_tv {K : PySem.W.Frag} {H : Hp} {a : Addr} {o : Op} (h : SqT K H a (rowV o)) : TvAt K H 2 (.ref a) (.t [.i o.l, .s o.s, .s o.n]) := by
  refine ⟨a, _, rfl, h, (by show 3 ≤ 1000; decide), rfl, fun i y u h1 h2 => ?_⟩
  match i, h1, h2 with
  | 0, h1, h2 =>
    cases h1
    cases h2
    exact rfl
  | 1, h1, h2 =>
    cases h1
    cases h2
    exact rfl
  | 2, h1, h2 =>
    cases h1
    cases h2
    exact rfl
  | i + 3, h1, h2 => cases h1
/-- a list of trees -/
def TvsAt (K : PySem.W.Frag) (H : Hp) (k : Nat) (vs : List V) (ts : List Tv) : Prop := vs.length = ts.length ∧ ∀ (i : Nat) (y : V) (u : Tv), vs[i]? = some y → ts[i]? = some u → TvAt K H k y u
def opTv (o : Op) : Tv := .t [.i o.l, .s o.s, .s o.n]
theorem RowsAt.tvs {K : PySem.W.Frag} {H : Hp} {vs : List V} {ops : List Op} (r : RowsAt K H vs ops) : TvsAt K H 2 vs (ops.map opTv) := by
  refine ⟨by rw [List.length_map, r.1], fun i y u h1 h2 => ?_⟩
  obtain ⟨a, o, rfl, h3, h4⟩ := r.at h1
  rw [List.getElem?_map, h3] at h2
  cases h2
  exact row_tv h4
def keptL : List Str := ["op", "mode", "table", "not", "is", "in", "such", "and", "=", "<", "=<", "==", "=/=", "..", "<-"]
def ownL : List Op := [⟨9, "none", "such"⟩, ⟨8, "right", "and"⟩, ⟨7, "none", "in"⟩, ⟨7, "ahead", "not"⟩, ⟨6, "none", "="⟩, ⟨6, "none", "is"⟩, ⟨6, "none", "<"⟩, ⟨6, "none", "=<"⟩, ⟨6, "none", "=="⟩, ⟨6, "none", "=/="⟩, ⟨6, "none", ".."⟩, ⟨4, "left", "+"⟩, ⟨4, "left", "-"⟩, ⟨3, "left", "*"⟩, ⟨3, "left", "//"⟩, ⟨3, "left", "mod"⟩]
def hits (o e : Op) : Bool := decide (decide (o.s = ("ahead" : Str)) = decide (e.s = ("ahead" : Str))) && (decide (o.n = e.n) || (decide (o.l = e.l) && !decide (o.s = e.s)))
def barred (o : Op) (es : List Op) : Bool := decide (o.n ∈ keptL) || es.any (hits o)
def clash (ops : List Op) (k : Nat) : Bool := match ops[k]? with
  | none => false
  | some o => decide (12 ≤ k) || barred o (ownL ++ ops.take k)
def NoneAt (ops : List Op) : Prop := ∀ j, j < ops.length → clash ops j = false
def FirstAt (ops : List Op) (k : Nat) : Prop := k < ops.length ∧ clash ops k = true ∧ ∀ j, j < k → clash ops j = false
theorem strEq {a b : Str} : decide (V.str a = V.str b) = decide (a = b) := by
  rw [decide_eq_decide]
  exact ⟨V.str.inj, congrArg V.str⟩
theorem inV_strs {z : Str} {zs : List Str} : inV (.str z) (zs.map V.str) = decide (z ∈ zs) := by
  unfold inV
  rw [List.any_map]
  by_cases h : z ∈ zs
  · rw [decide_eq_true h, List.any_eq_true]
    refine ⟨z, h, ?_⟩
    show eqV (.str z) (.str z) = true
    simp [eqV]
  · rw [decide_eq_false h, List.any_eq_false]
    intro y hy e
    have e' : eqV (.str y) (.str z) = true := e
    simp [eqV] at e'
    exact h (e' ▸ hy)
end Gs
namespace Gs
open PySem PySem.Spec PyProof.Rows L2
section
variable {K : PySem.W.Frag} {σ : L2.St} {H : Hp} {Q : VK} {l b a : Addr} {xs zs : List V} {v : V} {r : List V} {t : TG} {u : TGs} {n : Nat} {k : L2.St → Hp → Prop}
theorem x_cat (hl : H l = some (.lst xs)) (hb : H b = some (.lst zs)) (hz : xs.length + zs.length ≤ sizeLine) (q : ∀ p, H p = none → Q (.ref p) (upd H p (.lst (xs ++ zs)))) : rCat (.ref l) (.ref b) H Q := ⟨l, b, xs, zs, rfl, rfl, hl, hb, hz, q⟩
theorem x_gtup (h : SqT K H a xs) (hn : xs.length = n) (q : u xs σ H k) : gTup K n u (.ref a) σ H k := ⟨a, xs, rfl, h, hn, q⟩
theorem x_gcons (q : t v σ H fun σ' H' => u r σ' H' k) : gCons t u (v :: r) σ H k := ⟨v, r, rfl, q⟩
theorem x_gnil (q : k σ H) : gNil [] σ H k := ⟨rfl, q⟩
theorem x_isT {x : V} {t : Value} {n : String} {c : Bool} (ty : TyX K H x t) (e : PySem.W.kitOne K t (.type n) = some c) (q : Q (.bl c) H) : rIsi K [x, .ty n] H Q :=
  ⟨x, .ty n, t, .type n, c, rfl, .ty n, ty, e, q⟩
theorem all_rep (n : Nat) : (List.replicate n true).all id = true := by
  rw [List.all_eq_true]
  intro x hx
  exact List.eq_of_mem_replicate hx
end
end Gs
namespace Gs
open PySem PySem.Spec PyProof.Rows L2
theorem take_more {α : Type} : ∀ {l : List α} {i : Nat} {x : α}, l[i]? = some x → l.take (i + 1) = l.take i ++ [x]
  | [], i, x, h => by simp at h
  | a :: l, 0, x, h => by
    have e : a = x := Option.some.inj h
    subst e
    rfl
  | a :: l, i + 1, x, h => by
    have ih := take_more (l := l) (i := i) (x := x) h
    rw [List.take_succ_cons, List.take_succ_cons, ih]
    rfl
theorem any_more {α : Type} {l : List α} {i : Nat} {x : α} {f : α → Bool} (h : l[i]? = some x) : (l.take (i + 1)).any f = ((l.take i).any f || f x) := by
  rw [take_more h, List.any_append]
  simp
theorem any_at {α : Type} {l : List α} {i : Nat} {x : α} {f : α → Bool} (h : l[i]? = some x) (hf : f x = true) : l.any f = true :=
  List.any_eq_true.mpr ⟨x, List.mem_of_getElem? h, hf⟩
theorem sqT_lst {K : PySem.W.Frag} {G : Hp} {D a : Addr} {ys xs : List V} {o : HO} (h : G D = some (.lst ys)) (s : SqT K G a xs) : SqT K (upd G D o) a xs := by
  rcases s with (s | ⟨u, s⟩) | s
  · refine .inl (.inl ?_)
    rw [upd_ne (ne_of s h (by intro z; cases z))]
    exact s
  · refine .inl (.inr ⟨u, ?_⟩)
    rw [upd_ne (ne_of s h (by intro z; cases z))]
    exact s
  · exact .inr s
theorem RowsAt.lst {K : PySem.W.Frag} {G : Hp} {D : Addr} {ys vs : List V} {o : HO} {ops : List Op} (r : RowsAt K G vs ops) (h : G D = some (.lst ys)) : RowsAt K (upd G D o) vs ops := r.mono fun _ _ s => sqT_lst h s
theorem same_updf {H G : Hp} {D : Addr} {o : HO} (s : Same H G) (h : H D = none) : Same H (upd G D o) := fun b u e => by
  rw [upd_ne (ne_of_none e h)]
  exact s b u e
theorem bl_ne {a b : Bool} (h : a ≠ b) : V.bl a ≠ V.bl b := fun z => h (V.bl.inj z)
theorem hits_no {o e : Op} (h : decide (o.s = ("ahead" : Str)) ≠ decide (e.s = ("ahead" : Str))) : hits o e = false := by
  unfold hits
  rw [decide_eq_false h, Bool.false_and]
theorem hits_n {o e : Op} (h : decide (o.s = ("ahead" : Str)) = decide (e.s = ("ahead" : Str))) (c : o.n = e.n) : hits o e = true := by
  unfold hits
  rw [decide_eq_true h, decide_eq_true c]
  rfl
theorem hits_l {o e : Op} (h : decide (o.s = ("ahead" : Str)) = decide (e.s = ("ahead" : Str))) (c : o.l = e.l) (d : o.s ≠ e.s) : hits o e = true := by
  unfold hits
  rw [decide_eq_true h, decide_eq_true c, decide_eq_false d]
  simp
theorem hits_0 {o e : Op} (c : o.n ≠ e.n) (d : ¬ (o.l = e.l ∧ o.s ≠ e.s)) : hits o e = false := by
  unfold hits
  rw [decide_eq_false c]
  by_cases h1 : o.l = e.l
  · have h2 : o.s = e.s := Classical.byContradiction fun z => d ⟨h1, z⟩
    rw [decide_eq_true h2]
    simp
  · rw [decide_eq_false h1]
    simp
theorem barred_hit {o : Op} {ops : List Op} {i : Nat} {e : Op} (h : ops[i]? = some e) (z : hits o e = true) : barred o ops = true := by
  unfold barred
  rw [any_at h z, Bool.or_true]
end Gs
namespace Gs
open PySem PySem.Spec PyProof.Rows L2
theorem same_updg {H G : Hp} {D : Addr} {o : HO} (s : Same H G) (h : G D = none) : Same H (upd G D o) := same_updf s (s.free h)
theorem same_refl (H : Hp) : Same H H := fun _ _ h => h
end Gs
namespace Gs
open PySem PySem.Spec PyProof.Rows L2
theorem ne_of_nn {H : Hp} {a b : Addr} (h2 : H b = none) (h1 : H a ≠ none) : a ≠ b := fun z => h1 (z ▸ h2)
theorem nn_same {H : Hp} {a : Addr} {o : HO} : upd H a o a ≠ none := by
  rw [upd_same]
  intro z
  cases z
theorem nn_of {H : Hp} {a : Addr} {o : HO} (h : H a = some o) : H a ≠ none := by
  rw [h]
  intro z
  cases z
theorem nn_upd {H : Hp} {a b : Addr} {o : HO} (h : H a ≠ none) : upd H b o a ≠ none := by
  by_cases c : a = b
  · rw [c]
    exact nn_same
  · rw [upd_ne c]
    exact h
end Gs
namespace Gs
open PySem PySem.Spec PyProof.Rows L2 TL
section
variable {K : PySem.W.Frag} {σ : L2.St} {H : Hp} {Q : VK} {ta : TA} {te to : TE} {t : TE} {ts : List TE} {acc : Str} {QS : Str → Hp → Prop} {D : Ends} {f : Str}
theorem x_veI (q : ta σ H fun vs H1 => ∃ (a C : Addr) (ws : List V), vs = .ref a :: ws ∧ ws.length ≤ 1000 ∧ OexC K C ∧ H1 a = some (exo a C none) ∧ Q .non H1) : tVeI K ta σ H Q := q
theorem x_jcons (q : t σ H fun x H1 => ∃ y : Str, x = .str y ∧ (acc ++ y).length ≤ sizeLine ∧ tJs ts (acc ++ y) σ H1 QS) : tJs (t :: ts) acc σ H QS := q
theorem x_jnil (q : QS acc H) : tJs [] acc σ H QS := q
theorem x_fmt (q : te σ H fun x H1 => (∃ y : Str, x = .str y ∧ y.length ≤ sizeLine ∧ Q (.str y) H1) ∨ ∃ i : Int, x = .int i ∧ i.natAbs.log2 < 1920 ∧ Q (.str (toString i)) H1) : tFmt te σ H Q := q
theorem x_ost (q : te σ H fun y H1 => to σ H1 fun x H2 => ∃ a C : Addr, x = .ref a ∧ OexC K C ∧ PySem.W.findIn K (.ref C) f = some none ∧ ((H2 a = some (exo a C none) ∧ ∀ dx, H2 dx = none → dx ≠ a → D.nx σ (upd (upd H2 dx (exd dx [(f, y)])) a (exo a C (some dx)))) ∨ ∃ (dx : Addr) (fs : List (Str × V)), H2 a = some (exo a C (some dx)) ∧ H2 dx = some (exd dx fs) ∧ fs.length ≤ 900 ∧ D.nx σ (upd H2 dx (exd dx ((f, y) :: fs))))) : tOst K f to te D σ H := q
theorem natStr_len {n : Nat} (h : n < 10 ^ 60) : (Str.ofString (toString ((n : Nat) : Int))).length ≤ 60 := by
  show (Str.ofString (toString ((n : Nat) : Int))).cps.size ≤ 60
  rw [← Array.length_toList]
  show (TL.tl (Str.ofString (toString ((n : Nat) : Int)))).length ≤ 60
  rw [TL.tl_num]
  exact numL_len (k := 60) (by decide) h
theorem str_append_len (a b : Str) : (a ++ b).length = a.length + b.length := by
  show (a ++ b).cps.size = a.cps.size + b.cps.size
  rw [← Array.length_toList, ← Array.length_toList, ← Array.length_toList, ← List.length_append]
  exact congrArg List.length (TL.tl_append a b)
end
end Gs
namespace Gs
open PySem PySem.Spec PyProof.Rows L2
/-- a class of errors is caught by its own name -/
theorem exm_own {K : PySem.W.Frag} {S : Addr} (h1 : PySem.W.subIn K (.ref S) (.type "BaseException") = some true) (h2 : PySem.W.isClsIn K S = true) (h3 : PySem.W.typeIn K (.ref S) = some (.type "type")) (h4 : PySem.W.subIn K (.ref S) (.ref S) = some true) : PySem.W.exmOne K (.ref S) (.ref S) = some true := by
  have h2' : (PySem.W.clsIn K S).isSome = true := h2
  unfold PySem.W.exmOne
  simp only [h1, BEq.rfl, if_true]
  unfold PySem.W.kitCls
  simp only [h3, h4, h2', BEq.rfl, Bool.and_self, if_true]
end Gs
namespace Gs
open PySem PySem.Spec PyProof.Rows L2
theorem sqT_new {K : PySem.W.Frag} {H : Hp} {p q : Addr} {xs : List V} {o : HO} (hq : H q = none) (h : SqT K H p xs) : SqT K (upd H q o) p xs := Same.sqT (fun b u e => by rw [upd_ne (ne_of_none e hq)]; exact e) h
theorem sqL_new {K : PySem.W.Frag} {H : Hp} {p q : Addr} {xs : List V} {o : HO} (hq : H q = none) (h : SqL K H p xs) : SqL K (upd H q o) p xs := Same.seq (fun b u e => by rw [upd_ne (ne_of_none e hq)]; exact e) h
end Gs

open PySem PySem.Spec PyProof.Rows L2 Gs TL
local macro_rules | `(tactic| walk_at "ne") => `(tactic| first | assumption | exact Ne.symm (by assumption) | exact ne_of_none (by assumption) (by assumption) | exact (ne_of_none (by assumption) (by assumption)).symm | exact ne_of_none upd_same (by assumption) | exact (ne_of_none upd_same (by assumption)).symm | (apply ne_of_nn; (next => assumption); (next => walk_at "hn")) | (apply Ne.symm; apply ne_of_nn; (next => assumption); (next => walk_at "hn")))
local macro_rules | `(tactic| walk_at "hx") => `(tactic| first | assumption | exact upd_same | (apply Eq.trans (upd_ne (by walk_at "ne")); walk_at "hx"))
local macro_rules | `(tactic| walk_at "sq") => `(tactic| first | assumption | (apply SqL.of; walk_at "hx") | (apply SqT.of; walk_at "hx") | (with_reducible apply sqT_new; (next => assumption); walk_at "sq") | (with_reducible apply sqL_new; (next => assumption); walk_at "sq"))
local macro_rules | `(tactic| walk_at "sx") => `(tactic| repeat (first
  | ((with_reducible apply x_var); (next => first | rfl | exact rfl)) | with_reducible refine x_c ?_ | with_reducible refine x_op ?_ | with_reducible refine x_un ?_ | with_reducible refine x_i0 ?_ | with_reducible refine x_u ?_
  | with_reducible refine x_nil ?_ | with_reducible refine x_cons ?_ | with_reducible refine x_call ?_ | with_reducible refine x_cb ?_ | with_reducible refine x_test ?_ | with_reducible refine x_B ?_
  | with_reducible refine x_and ?_ | with_reducible refine x_or ?_ | with_reducible refine x_not ?_ | with_reducible refine x_ifE ?_ | with_reducible refine x_andV ?_ | with_reducible refine x_orV ?_ | with_reducible refine x_notV ?_
  | with_reducible refine x_ex ?_ | with_reducible refine x_seq ?_ | with_reducible refine x_next ?_ | with_reducible refine x_brk ?_ | with_reducible refine x_cont ?_ | with_reducible refine x_asg ?_ | with_reducible refine x_drop ?_ | with_reducible refine x_ret ?_ | with_reducible refine x_retN ?_
  | with_reducible refine x_ifS ?_ | with_reducible refine x_gn ?_ | with_reducible refine x_gsub ?_ | ((with_reducible apply x_aug); (next => rfl)) | with_reducible refine x_lst ?_ | with_reducible refine x_tup ?_ | with_reducible refine x_sl ?_ | with_reducible refine x_part ?_ | with_reducible refine x_exI ?_ | with_reducible refine x_nopart ?_
  | with_reducible refine x_bm ?_ | with_reducible refine x_bm0 ?_ | with_reducible refine x_iteF ?_ | with_reducible refine x_iteT ?_ | ((with_reducible apply x_eq); (next => rfl)) | ((with_reducible apply x_ne); (next => rfl))
  | ((with_reducible apply x_ixL); (next => walk_at "sq"); (next => (first | exact at0 rfl | exact at1 rfl | exact at2 rfl | exact at3 rfl | exact at4 rfl | exact at5 rfl | exact at6 rfl | exact at7 rfl | exact at8 rfl | exact at9 rfl))) | ((with_reducible apply x_ixT); (next => walk_at "sq"); (next => (first | exact at0 rfl | exact at1 rfl | exact at2 rfl | exact at3 rfl | exact at4 rfl | exact at5 rfl | exact at6 rfl | exact at7 rfl | exact at8 rfl | exact at9 rfl)))
  | ((with_reducible apply x_setL); (next => walk_at "hx"); (next => (first | exact ix0 (Nat.le_of_ble_eq_true rfl) | exact ix1 (Nat.le_of_ble_eq_true rfl) | exact ix2 (Nat.le_of_ble_eq_true rfl) | exact ix3 (Nat.le_of_ble_eq_true rfl) | exact ix4 (Nat.le_of_ble_eq_true rfl))))
  | ((with_reducible apply x_mod); (next => omega); (intro r h0 h1 h2)) | ((with_reducible apply x_div); (next => first | exact cdivW (by omega) (by omega) | assumption); (intro r h0 h1))
  | ((with_reducible apply x_i); (next => first | assumption | exact cmulW (by omega) (by omega) | exact (show _ ≠ _ by decide) | exact ⟨by decide, by decide, by omega⟩ | exact cdivW (by omega) (by omega) | exact (show _ ≠ _ by omega)))
  | with_reducible refine x_for ?_ | with_reducible refine x_rng1 ?_ | with_reducible refine x_rng2 ?_ | with_reducible refine x_ilist ?_ | with_reducible refine x_itup ?_
  | with_reducible refine x_callN ?_ | with_reducible refine x_ip ?_ | with_reducible refine x_chain ?_ | with_reducible refine x_chain3 ?_ | with_reducible refine x_ckw ?_ | with_reducible refine x_star ?_ | with_reducible refine x_ienumS ?_ | with_reducible refine x_lc ?_ | with_reducible refine x_yes ?_ | with_reducible refine x_m1 ?_ | with_reducible refine x_m0 ?_ | with_reducible refine x_isStr ?_ | ((with_reducible apply x_lenKL); (next => walk_at "sq")) | ((with_reducible apply x_lenKT); (next => walk_at "sq")) | with_reducible refine x_intB ?_ | with_reducible refine x_inS ?_
  | ((with_reducible apply x_tyL); (next => walk_at "sq")) | ((with_reducible apply x_ib); (next => rfl)) | ((with_reducible apply x_if0); (next => rfl))
  | with_reducible refine x_gcons ?_ | with_reducible refine x_gnil ?_ | ((with_reducible apply x_gtup); (next => walk_at "sq"); (next => rfl)) | with_reducible refine x_mkO ?_ | with_reducible refine x_enum ?_ | with_reducible refine x_callS ?_ | ((with_reducible apply x_cat); (next => walk_at "hx"); (next => walk_at "hx"); (next => exact sz (Nat.le_of_ble_eq_true rfl)); (intro b nb))
  | (refine ⟨sz (Nat.le_of_ble_eq_true rfl), fun a na => ?_⟩)
  | dsimp only))
local macro_rules | `(tactic| walk_at "kx") => `(tactic| first | assumption | exact Kx.refl _ | (apply Kx.updp; walk_at "kx") | (apply Kx.updl; walk_at "kx") | (apply Kx.updn; (next => assumption); walk_at "kx") | (apply Kx.trans; rotate_left 1; (next => assumption); walk_at "kx"))
local macro_rules | `(tactic| walk_at "pl") => `(tactic| first | assumption | (refine PoolAt.upd ?_ (by assumption); walk_at "pl"))
local macro_rules | `(tactic| walk_at "sm") => `(tactic| first | assumption | exact same_refl _ | (apply same_updg; (next => walk_at "sm"); (next => assumption)))
local macro_rules | `(tactic| walk_at "hn") => `(tactic| first | assumption | exact nn_same | exact nn_of (by assumption) | (apply nn_upd; walk_at "hn"))

namespace Gs
open PySem PySem.Spec PyProof.Rows L2
abbrev s_law_pool : Stmt := PySem.Challenge.pw_goalstead_k09_operators_let_by.main.body.getD 13 (.Pass ⟨0, 0, 0, 0⟩)
theorem sc_law_pool : FnScope ["script", "k"] ["script", "k"] (defScope s_law_pool) := ⟨rfl, rfl, rfl, by decide +kernel, rfl, by decide +kernel, by decide +kernel⟩
abbrev s_law_mixed : Stmt := PySem.Challenge.pw_goalstead_k09_operators_let_by.main.body.getD 14 (.Pass ⟨0, 0, 0, 0⟩)
theorem sc_law_mixed : FnScope ["pool", "turn", "number"] ["pool", "turn"] (defScope s_law_mixed) := ⟨rfl, rfl, rfl, by decide +kernel, rfl, by decide +kernel, by decide +kernel⟩
abbrev s_law_take : Stmt := PySem.Challenge.pw_goalstead_k09_operators_let_by.main.body.getD 15 (.Pass ⟨0, 0, 0, 0⟩)
theorem sc_law_take : FnScope ["pool", "many", "digit", "number", "turn"] ["pool", "many"] (defScope s_law_take) := ⟨rfl, rfl, rfl, by decide +kernel, rfl, by decide +kernel, by decide +kernel⟩
structure Txt (mg : Str → Option Value) : Prop where
  z_all : mg "all" = none
  z_bool : mg "bool" = none
  z_enumerate : mg "enumerate" = none
  z_int : mg "int" = none
  z_isinstance : mg "isinstance" = none
  z_len : mg "len" = none
  z_list : mg "list" = none
  z_range : mg "range" = none
  z_str : mg "str" = none
  z_tuple : mg "tuple" = none
  c_OPERATORS : ∃ t, mg "OPERATORS" = some (.int 12 t)
section
variable {P : Program} {w : World} {K : PySem.W.Frag} {mg : Str → Option Value} {base : Heap} {f : Addr} {fd : FuncData}
theorem ok_law_mixed (F : Fun K "_law_mixed" "_law_mixed" s_law_mixed f fd) : FnOk P w K mg base CX0 1 f fd ["pool", "turn"] (spMixed K) := by
  refine F.ok sc_law_mixed (fun vs H Q E h => ?_) (fun cdv A outer s H vs Q E hr h => ?_)
  · obtain ⟨p, l, c, t, rfl, _⟩ := h
    rfl
  obtain ⟨p, l, c, t, rfl, ⟨a, n, s, ns, hp, hl, h1, h2, h3, h4, h5, h6⟩, hc, ht, ht2, q⟩ := h
  have hS : SqL K H p [.ref l, .int a, .int n, .int s] := .of hp
  refine ⟨_, (pss_cons (ps_set (i := 2) sc_law_mixed.nd rfl (Or.inl rfl) (pe_op op_modN (pe_op op_pow (pe_op op_add (pe_op op_add (pe_ix (ix_listK (K := K)) (pv 0) pe_int (fun _ _ => rfl)) (pe_op op_mulW pe_int (pe_op op_add (pe_op op_mulW pe_int (pe_ix (ix_listK (K := K)) (pv 0) pe_int (fun _ _ => rfl))) (pv 1)))) pe_int) pe_int) pe_int))
    (pss_one (ps_ret (pe_op op_fdivW (pe_op op_modN (pe_op op_mulW (pe_op op_add (pv 2) (pe_ix (ix_listK (K := K)) (pv 0) pe_int (fun _ _ => rfl))) pe_int) pe_int) pe_int)))), ?_⟩
  walk_at "sx"
  exact q _ (by omega) (by omega)
def HasMixed (P : Program) (w : World) (K : PySem.W.Frag) (mg : Str → Option Value) (base : Heap) : Prop := Has P w K mg base 1 "_law_mixed" ["pool", "turn"] (spMixed K)
theorem ok_law_take (F : Fun K "_law_take" "_law_take" s_law_take f fd) (T : Txt mg) (C_law_mixed : HasMixed P w K mg base) : FnOk P w K mg base CX0 2 f fd ["pool", "many"] (spTake K) := by
  refine F.ok sc_law_take (fun vs H Q E h => ?_) (fun cdv A outer s H vs Q E hr h => ?_)
  · obtain ⟨p, l, c, m, rfl, _⟩ := h
    rfl
  obtain ⟨p, l, c, m, rfl, P0, hc, hm, hm2, q⟩ := h
  have hpl := P0.ne
  obtain ⟨a, n, s, ns, hp, hl, h1, h2, h3, h4, h5, h6⟩ := P0.ex
  have hS : SqL K H p [.ref l, .int a, .int n, .int s] := .of hp
  refine ⟨_, (pss_cons (ps_asg (pe_op op_add (pe_ix (ix_listK (K := K)) (pv 0) pe_int (fun _ _ => rfl)) pe_int) (pg_sub (pv 0) pe_int set_list))
    (Evl.pss_cut (ps_if (PW.pt (pw_and (pt_cmpR op_eq (pe_ix (ix_listK (K := K)) (pv 0) pe_int (fun _ _ => rfl)) pe_int (nomark _)) (pw_and1 (pt_cmpR (op_neDK (K := K) hr.units) (pe_ix (ix_listK (K := K)) (pv 0) pe_int (fun _ _ => rfl)) (pe_lst pa_nil) (nomark _)))))
      (pss_cons (ps_asg (pe_bm PySem.F.plainAttrs_list PySem.F.slot_list_pop PySem.F.type_list_pop mt_popAt (pe_ix (ix_listK (K := K)) (pv 0) pe_int (fun _ _ => rfl)) (pa_cons pe_int pa_nil)) (pg_sub (pv 0) pe_int set_list))
    (pss_one (ps_if (pt_cmpR op_lt (pe_ix (ix_listK (K := K)) (pv 0) pe_int (fun _ _ => rfl)) (pe_op op_pow pe_int pe_int) (nomark _))
      (pss_cons (ps_asg (pe_op op_modN (pe_op op_add (pe_op op_mulW (pe_ix (ix_listK (K := K)) (pv 0) pe_int (fun _ _ => rfl)) pe_int) (pe_ix (ix_listK (K := K)) (pv 0) pe_int (fun _ _ => rfl))) pe_int) (pg_sub (pv 0) pe_int set_list))
    (pss_one (ps_asg pe_int (pg_sub (pv 0) pe_int set_list))))
      pss_nil)))
      pss_nil)
    (pss_cons (ps_if (pt_cmpR op_gt (pe_ix (ix_listK (K := K)) (pv 0) pe_int (fun _ _ => rfl)) pe_int (nomark _))
      (pss_cons (ps_set (i := 2) sc_law_take.nd rfl (Or.inl rfl) (pe_op op_modN (pe_ix (ix_listK (K := K)) (pv 0) pe_int (fun _ _ => rfl)) (pv 1)))
    (pss_cons (ps_asg (pe_op op_fdivW (pe_ix (ix_listK (K := K)) (pv 0) pe_int (fun _ _ => rfl)) (pv 1)) (pg_sub (pv 0) pe_int set_list))
    (pss_one (ps_ret (pv 2)))))
      pss_nil)
    (pss_cons (ps_set (i := 3) sc_law_take.nd rfl (Or.inl rfl) (pe_callH C_law_mixed hr (pa_cons (pv 0) (pa_cons pe_int pa_nil))))
    (Evl.pss_cut (ps_if (pt_cmpR op_gt (pv 1) (pe_op op_pow pe_int pe_int) (nomark _))
      (pss_one (ps_for PassesOwn.never rfl (pi_range2 (by rfl) T.z_range (pa_cons pe_int (pa_cons pe_int pa_nil))) (pg_name (i := 4) sc_law_take.nd rfl (.inl rfl))
      (pss_one (ps_set (i := 3) sc_law_take.nd rfl (Or.inl rfl) (pe_op op_add (pe_op op_mulW (pv 3) pe_int) (pe_callH C_law_mixed hr (pa_cons (pv 0) (pa_cons (pv 4) pa_nil))))))))
      pss_nil)
    (pss_one (ps_ret (pe_op op_modN (pv 3) (pv 1))))))))), ?_⟩
  walk_at "sx"
  refine x_cut (M := fun σ' H' => σ' = [some (.ref p), some (.int m), none, none, none] ∧ Kx p l H H' ∧ ∃ (a s : Int) (ns : List Int), H' p = some (.lst [.ref l, .int a, .int (n + 1), .int s]) ∧ H' l = some (.lst (ns.map V.int)) ∧ 0 ≤ a ∧ 0 ≤ s ∧ s < 2147483647 ∧ ns.length ≤ 1000) ?_ ?_
  · walk_at "sx"
    have kp : ∀ o, Kx p l H (upd H p o) := fun o b u e e1 _ => by
      rw [upd_ne e1]
      exact e
    refine x_ite (fun ca => ?_) (fun ca => ?_)
    · have ha : a = 0 := V.int.inj ca
      walk_at "sx"
      rename_i q hq
      have nlp : l ≠ p := Ne.symm hpl
      have nq1 : p ≠ q := ne_of_none (o := _) upd_same hq
      have nq2 : l ≠ q := ne_of_none (by walk_at "hx") hq
      refine x_neNil (ns := ns) (by walk_at "sq") (by walk_at "sq") ?_
      walk_at "sx"
      refine x_iteN (fun cn => ?_) (fun cn => ?_)
      · walk_at "sx"
        obtain ⟨x, r, rfl⟩ : ∃ x r, ns = x :: r := by
          cases ns with
          | nil => exact absurd rfl cn
          | cons x r => exact ⟨x, r, rfl⟩
        refine ⟨l, _, 0, 0, _, rfl, rfl, by walk_at "hx", by decide, by decide, seqIx0 (by simp), rfl, ?_⟩
        have kq : ∀ (G : Hp), Kx p l H G → Kx p l H G := fun G h => h
        walk_at "sx"
        refine x_ite (fun cx => ?_) (fun cx => ?_)
        · walk_at "sx"
          refine ⟨rfl, by walk_at "kx", 0, _, r, by walk_at "hx", by walk_at "hx", by omega, by assumption, by assumption, ?_⟩
          rw [List.length_cons] at h6
          omega
        · walk_at "sx"
          have cx' : ¬ x < 10 ^ 18 := cx
          refine ⟨rfl, by walk_at "kx", x, s, r, by walk_at "hx", by walk_at "hx", by omega, h4, h5, ?_⟩
          rw [List.length_cons] at h6
          omega
      · walk_at "sx"
        exact ⟨rfl, by walk_at "kx", a, s, ns, by walk_at "hx", by walk_at "hx", h1, h4, h5, h6⟩
    · walk_at "sx"
      exact ⟨rfl, by walk_at "kx", a, s, ns, upd_same, by walk_at "hx", h1, h4, h5, h6⟩
  · rintro σ' H' ⟨rfl, k1, a, s, ns, hp, hl, h1, h4, h5, h6⟩
    have dm : CDivW a m := wide_div (b := 300) hm (by omega) (by decide) (by decide)
    have nlp : l ≠ p := Ne.symm hpl
    have P1 : ∀ G : Hp, G p = some (.lst [.ref l, .int a, .int (n + 1), .int s]) → G l = some (.lst (ns.map V.int)) → PoolAt G p l (c + 1) := fun G g1 g2 => ⟨a, n + 1, s, ns, g1, g2, h1, by omega, by omega, h4, h5, h6⟩
    walk_at "sx"
    refine x_ite (fun ca => ?_) (fun ca => ?_)
    · walk_at "sx"
      rename_i r1 _ _ _ r2 _ hr2
      refine q _ _ (by assumption) (by assumption) ⟨r2, n + 1, s, ns, by walk_at "hx", by walk_at "hx", (hr2 h1).1, by omega, by omega, h4, h5, h6⟩ ?_
      exact k1.trans (by walk_at "kx")
    · walk_at "sx"
      refine ⟨p, l, c + 1, 0, rfl, P1 _ hp hl, hc, by omega, by omega, fun z hz1 hz2 => ?_⟩
      walk_at "sx"
      refine x_cut (M := fun σ' G => ∃ (y : Int) (t : Option V), σ' = [some (.ref p), some (.int m), none, some (.int y), t] ∧ G = H') ?_ ?_
      · walk_at "sx"
        refine x_ite (fun cm => ?_) (fun cm => ?_)
        · walk_at "sx"
          refine x_forR2 (lo := 1) (hi := 8) (fun i σ' G => ∃ (y : Int) (t : Option V), σ' = [some (.ref p), some (.int m), none, some (.int y), t] ∧ G = H' ∧ 0 ≤ y ∧ y < 4294967296 ^ (i + 1)) (by omega) ⟨z, none, rfl, rfl, hz1, by rw [show (4294967296 : Int) ^ (0 + 1) = 4294967296 from rfl]; omega⟩ ?_ ?_
          · rintro i σ' G hi ⟨y, t, rfl, rfl, hy1, hy2⟩
            have hB : (4294967296 : Int) ^ (i + 1) ≤ 4294967296 ^ 7 := by
              rcases (show i = 0 ∨ i = 1 ∨ i = 2 ∨ i = 3 ∨ i = 4 ∨ i = 5 ∨ i = 6 by omega) with rfl | rfl | rfl | rfl | rfl | rfl | rfl <;> decide
            have dy : CMulW y 268435453 := wide_mul (a := 300) (b := 30) (by omega) (by decide) (by decide) (by decide) (by decide)
            walk_at "sx"
            refine ⟨p, l, c + 1, 1 + (i : Int), rfl, P1 _ hp hl, hc, by omega, by omega, fun z' hz1' hz2' => ?_⟩
            walk_at "sx"
            refine ⟨_, _, rfl, rfl, by omega, ?_⟩
            rw [Int.pow_succ]
            generalize (4294967296 : Int) ^ (i + 1) = B at hy2 hB ⊢
            omega
          · rintro σ' G ⟨y, t, rfl, rfl, _⟩
            exact ⟨y, t, rfl, rfl⟩
        · walk_at "sx"
          exact ⟨z, none, rfl, rfl⟩
      · rintro σ' G ⟨y, t, rfl, rfl⟩
        walk_at "sx"
        exact q _ _ (by assumption) (by assumption) (P1 _ hp hl) k1
theorem ok_law_pool (F : Fun K "_law_pool" "_law_pool" s_law_pool f fd) (T : Txt mg) : FnOk P w K mg base CX0 1 f fd ["script", "k"] (spPool K) := by
  refine F.ok sc_law_pool (fun vs H Q E h => ?_) (fun cdv A outer s H vs Q E hr h => ?_)
  · obtain ⟨a, ns, k, rfl, _⟩ := h
    rfl
  obtain ⟨a, ns, k, rfl, hS, hl, hk0, hk1, q⟩ := h
  refine ⟨_, (pss_one (ps_ret (pe_lst (pa_cons (pe_op op_cat (pe_slice (sl_listK (K := K)) (pv 0) (po_some (pv 1)) po_none) (pe_slice (sl_listK (K := K)) (pv 0) po_none (po_some (pv 1)))) (pa_cons pe_int (pa_cons pe_int (pa_cons (pe_op op_mulW pe_int (pv 1)) pa_nil))))))), ?_⟩
  walk_at "sx"
  refine x_slL hS fun p1 n1 => ?_
  walk_at "sx"
  have s1 := same_upd (o := .lst (cutV (ns.map V.int) (some k) none)) n1
  refine x_slL (s1.seq hS) fun p2 n2 => ?_
  have n12 : p1 ≠ p2 := ne_of_none upd_same n2
  have s2 := same_upd (o := .lst (cutV (ns.map V.int) none (some k))) n2
  have L1 := cutV_length (ns.map V.int) (some k) none
  have L2 := cutV_length (ns.map V.int) none (some k)
  rw [List.length_map] at L1 L2
  refine ⟨p1, p2, _, _, rfl, rfl, by walk_at "hx", by walk_at "hx", sz (by omega), fun p3 n3 => ?_⟩
  have s3 := same_upd (o := .lst (cutV (ns.map V.int) (some k) none ++ cutV (ns.map V.int) none (some k))) n3
  walk_at "sx"
  rename_i p4 n4
  have s4 := same_upd (o := .lst [.ref p3, .int 0, .int 0, .int (104729 * k)]) n4
  obtain ⟨m1, e1, l1⟩ := cutV_map ns (some k) none
  obtain ⟨m2, e2, l2⟩ := cutV_map ns none (some k)
  have n34 : p3 ≠ p4 := ne_of_none upd_same n4
  have sall := s1.trans (s2.trans (s3.trans s4))
  refine q p4 p3 _ (s1.free (s2.free (s3.free n4))) (s1.free (s2.free n3)) sall ?_
  · refine ⟨0, 0, 104729 * k, m1 ++ m2, by walk_at "hx", ?_, by omega, by omega, by omega, by omega, by omega, ?_⟩
    · rw [List.map_append, ← e1, ← e2]
      walk_at "hx"
    · rw [List.length_append]
      omega
end
end Gs

namespace Gs
open PySem PySem.Spec PyProof.Rows L2 TL
abbrev s_law_name : Stmt := PySem.Challenge.pw_goalstead_k09_operators_let_by.main.body.getD 16 (.Pass ⟨0, 0, 0, 0⟩)
theorem sc_law_name : FnScope ["pool", "way", "some", "size", "head", "text", "turn"] ["pool", "way"] (defScope s_law_name) := ⟨rfl, rfl, rfl, by decide +kernel, rfl, by decide +kernel, by decide +kernel⟩
/-- a law's word, unknown, mark -/
def NameOk (way : Int) (l : List Nat) : Prop := ∃ c t, l = c :: t ∧ ((way = 0 ∧ c ∈ sS ∧ (∀ x ∈ t, x ∈ sS ++ sD) ∧ t.length + 1 ≤ 12) ∨ (way = 1 ∧ c ∈ sC ∧ (∀ x ∈ t, x ∈ sS ++ sD) ∧ t.length + 1 ≤ 12) ∨ (way = 2 ∧ c ∈ sM ∧ (∀ x ∈ t, x ∈ sM) ∧ t.length + 1 ≤ 3))
theorem NameOk.bit {way : Int} {l : List Nat} (h : NameOk way l) : OkBit l := by
  obtain ⟨c, t, rfl, h⟩ := h
  rcases h with ⟨_, hc, ht, hl⟩ | ⟨_, hc, ht, hl⟩ | ⟨_, hc, ht, hl⟩
  · exact ok_word (.inl hc) ht hl
  · exact ok_word (.inr hc) ht hl
  · exact ok_mark hc ht hl
def spNumber (K : PySem.W.Frag) : Sp := fun vs H Q _ => ∃ (p l : Addr) (c : Int), vs = [.ref p] ∧ PoolAt H p l c ∧ c + 4 ≤ 1000000000000 ∧
  ∀ (z : Int) (H' : Hp), z.natAbs < 10 ^ 60 → PoolAt H' p l (c + 4) → Kx p l H H' → Q (.int z) H'
def spName (K : PySem.W.Frag) : Sp := fun vs H Q _ => ∃ (p l : Addr) (c way : Int), vs = [.ref p, .int way] ∧ PoolAt H p l c ∧ c + 20 ≤ 1000000000000 ∧ 0 ≤ way ∧ way ≤ 2 ∧
  ∀ (z : Str) (H' : Hp), NameOk way (tl z) → PoolAt H' p l (c + 20) → Kx p l H H' → Q (.str z) H'
section
variable {P : Program} {w : World} {K : PySem.W.Frag} {mg : Str → Option Value} {base : Heap} {f : Addr} {fd : FuncData}
def HasTake (P : Program) (w : World) (K : PySem.W.Frag) (mg : Str → Option Value) (base : Heap) : Prop := Has P w K mg base 2 "_law_take" ["pool", "many"] (spTake K)
def HeadOk (way : Int) (c : Nat) : Prop := (way = 0 ∧ c ∈ sS) ∨ (way = 1 ∧ c ∈ sC) ∨ (way = 2 ∧ c ∈ sM)
def TailOk (way : Int) (c : Nat) : Prop := if way = 2 then c ∈ sM else c ∈ sS ++ sD
theorem nameOk {way : Int} {l t chars : List Nat} {c : Nat} {n : Int} (e : l = (c :: (t ++ chars)).take 12) (h : HeadOk way c) (ht : ∀ x ∈ t, TailOk way x) (hc : ∀ x ∈ chars, TailOk way x) (h2 : way = 2 → t = [] ∧ chars.length ≤ 2) : NameOk way l := by
  have et : (c :: (t ++ chars)).take 12 = c :: (t ++ chars).take 11 := rfl
  rw [et] at e
  have hl : ((t ++ chars).take 11).length ≤ 11 := by rw [List.length_take]; omega
  have hx : ∀ x ∈ (t ++ chars).take 11, TailOk way x := fun x hx => by
    rcases List.mem_append.mp (List.mem_of_mem_take hx) with h | h
    · exact ht x h
    · exact hc x h
  refine ⟨c, _, e, ?_⟩
  rcases h with ⟨rfl, h⟩ | ⟨rfl, h⟩ | ⟨rfl, h⟩
  · exact .inl ⟨rfl, h, hx, by omega⟩
  · exact .inr (.inl ⟨rfl, h, hx, by omega⟩)
  · refine .inr (.inr ⟨rfl, h, hx, ?_⟩)
    obtain ⟨h3, h4⟩ := h2 rfl
    rw [List.length_take, List.length_append, h3, List.length_nil]
    omega
theorem len_S : ("abcdefghijklmnopqrstuvwxyz" : Str).length = 26 := by decide +kernel
theorem len_C : ("ABCDEFGHIJKLMNOPQRSTUVWXYZ" : Str).length = 26 := by decide +kernel
theorem len_M : ("+-*/<>=&!?^@#:|.$" : Str).length = 17 := by decide +kernel
theorem len_SD : ("abcdefghijklmnopqrstuvwxyz0123456789" : Str).length = 36 := by decide +kernel
theorem tl_SD : tl ("abcdefghijklmnopqrstuvwxyz0123456789" : Str) = sS ++ sD := by decide +kernel
theorem tl_len (z : Str) : (tl z).length = z.length := by show z.cps.toList.length = z.cps.size; rw [Array.length_toList]
def resW : List Str := ["op", "mode", "table", "not", "is", "in", "such", "and", "mod"]
theorem resW_ok : ∀ z ∈ resW, ∃ c t, tl z = c :: t ∧ c ∈ sS ∧ (∀ x ∈ t, x ∈ sS ++ sD) ∧ t.length ≤ 4 ∧ z.length ≤ 5 := by
  have h : (resW.all fun z => match tl z with | [] => false | c :: t => decide (c ∈ sS ∧ (∀ x ∈ t, x ∈ sS ++ sD) ∧ t.length ≤ 4 ∧ z.length ≤ 5)) = true := by decide +kernel
  intro z hz
  have h2 := List.all_eq_true.mp h z hz
  cases e : tl z with
  | nil =>
    rw [e] at h2
    cases h2
  | cons c t =>
    rw [e] at h2
    exact ⟨c, t, rfl, of_decide_eq_true h2⟩
theorem joinNil : ∀ xs : List (List Nat), joinL [] xs = xs.flatten
  | [] => rfl
  | [p] => by simp [joinL]
  | p :: q :: r => by
    show p ++ ([] ++ joinL [] (q :: r)) = p ++ (q :: r).flatten
    rw [joinNil (q :: r), List.nil_append]
theorem tl_joined (ys : List Str) : tl (Txt.join ("" : Str) ys) = (ys.map tl).flatten := by
  rw [join_eq, tl_join, show tl ("" : Str) = [] from by decide +kernel, joinNil]
theorem signs_of {P : Nat → Prop} : ∀ {ys : List Str}, (∀ y ∈ ys, ∃ c, tl y = [c] ∧ P c) → (ys.map tl).flatten.length = ys.length ∧ (∀ x ∈ (ys.map tl).flatten, P x) ∧ (ys.map (·.length)).sum = ys.length
  | [], _ => ⟨rfl, (fun x hx => by cases hx), rfl⟩
  | y :: r, h => by
    obtain ⟨c, e, hc⟩ := h y (List.mem_cons_self ..)
    obtain ⟨h1, h2, h3⟩ := signs_of (ys := r) fun z hz => h z (List.mem_cons_of_mem _ hz)
    refine ⟨?_, fun x hx => ?_, ?_⟩
    · rw [List.map_cons, List.flatten_cons, List.length_append, h1, e, List.length_cons, List.length_cons, List.length_nil]
      omega
    · rw [List.map_cons, List.flatten_cons, e] at hx
      rcases List.mem_append.mp hx with hx | hx
      · rw [List.mem_singleton.mp hx]
        exact hc
      · exact h2 x hx
    · rw [List.map_cons, List.sum_cons, h3, ← tl_len y, e, List.length_cons, List.length_cons, List.length_nil]
      omega
theorem cut_to (z : Str) (n : Nat) : tl (cutS z none (some (n : Int))) = (tl z).take n := by
  show (((tl z).drop (HT.sIx z.length 0 none)).take (HT.sIx z.length z.length (some (n : Int)) - HT.sIx z.length 0 none)) = (tl z).take n
  rw [HT.sIx_none, HT.sIx_nat, List.drop_zero, Nat.sub_zero, ← tl_len, ← List.take_eq_take_min]
theorem ok_law_name (F : Fun K "_law_name" "_law_name" s_law_name f fd) (T : Txt mg) (C_law_take : HasTake P w K mg base) : FnOk P w K mg base CX0 3 f fd ["pool", "way"] (spName K) := by
  refine F.ok sc_law_name (fun vs H Q E h => ?_) (fun cdv A outer s H vs Q E hr h => ?_)
  · obtain ⟨p, l, c, way, rfl, _⟩ := h
    rfl
  obtain ⟨p, l, c, way, rfl, P0, hc, hw0, hw2, q⟩ := h
  refine ⟨_, (Evl.pss_cut (ps_set (i := 2) sc_law_name.nd rfl (Or.inr rfl) (pe_ix (ix_listK (K := K)) (pe_lst (pa_cons pe_str (pa_cons pe_str (pa_cons pe_str pa_nil)))) (pv 1) (fun _ _ => rfl)))
    (pss_cons (ps_set (i := 3) sc_law_name.nd rfl (Or.inl rfl) (pe_callH C_law_take hr (pa_cons (pv 0) (pa_cons (pe_ix (ix_listK (K := K)) (pe_lst (pa_cons pe_int (pa_cons pe_int (pa_cons pe_int (pa_cons pe_int pa_nil))))) (pe_callH C_law_take hr (pa_cons (pv 0) (pa_cons pe_int pa_nil))) (fun _ _ => rfl)) pa_nil))))
    (pss_cons (ps_set (i := 4) sc_law_name.nd rfl (Or.inl rfl) (pe_callH C_law_take hr (pa_cons (pv 0) (pa_cons pe_int pa_nil))))
    (pss_cons (ps_set (i := 5) sc_law_name.nd rfl (Or.inl rfl) (pe_ix ix_str (pv 2) (pe_callH C_law_take hr (pa_cons (pv 0) (pa_cons (pe_callB call_len_str (by rfl) T.z_len (by decide +kernel) (pa_cons (pv 2) pa_nil)) pa_nil))) (fun _ _ => rfl)))
    (Evl.pss_cut (ps_if (PW.pt (pw_and (pt_cmpR op_eq (pv 1) pe_int (nomark _)) (pw_and1 (pt_cmpR op_lt (pv 4) pe_int (nomark _)))))
      (pss_one (ps_set (i := 5) sc_law_name.nd rfl (Or.inl rfl) (pe_ix (ix_listK (K := K)) (pe_lst (pa_cons pe_str (pa_cons pe_str (pa_cons pe_str (pa_cons pe_str (pa_cons pe_str (pa_cons pe_str (pa_cons pe_str (pa_cons pe_str (pa_cons pe_str pa_nil)))))))))) (pv 4) (fun _ _ => rfl))))
      pss_nil)
    (Evl.pss_cut (ps_if (PW.pt (pw_and (pt_cmpR op_eq (pv 1) pe_int (nomark _)) (pw_and1 (pt_cmpR op_lt (pv 4) pe_int (nomark _)))))
      (pss_one (ps_ret (pe_ix ix_str pe_str (pe_op op_modN (pv 4) pe_int) (fun _ _ => rfl))))
      pss_nil)
    (Evl.pss_cut (ps_if (pt_cmpR op_eq (pv 1) pe_int (nomark _))
      (pss_one (ps_set (i := 3) sc_law_name.nd rfl (Or.inl rfl) (pe_op op_modN (pv 3) pe_int)))
      (pss_one (ps_set (i := 2) sc_law_name.nd rfl (Or.inr rfl) pe_str)))
    (pss_one (ps_ret (pe_slice sl_str (pe_op op_add_str (pv 5) (pe_join pe_str (pe_lc (own := [("turn", 6)]) (g := gName 6) (tt := tYes) rfl sc_law_name.nd (pi_range1 (by rfl) T.z_range (pa_cons (pv 3) pa_nil)) (blkOk_by (own := [("turn", 6)]) (N := ["pool", "way", "some", "size", "head", "text", "turn"]) (sc := defScope s_law_name) (by decide +kernel)) (fun _ _ _ _ _ => pg_name (i := 6) sc_law_name.nd rfl (Or.inl rfl)) (fun _ _ _ _ _ => pts_nil) (fun _ _ _ _ _ => (pe_ix ix_str (pv 2) (pe_callH C_law_take hr (pa_cons (pv 0) (pa_cons (pe_callB call_len_str (by rfl) T.z_len (by decide +kernel) (pa_cons (pv 2) pa_nil)) pa_nil))) (fun _ _ => rfl)))))) po_none (po_some pe_int))))))))))), ?_⟩
  refine x_cut (M := fun σ' G => ∃ lit : Str, σ' = [some (.ref p), some (.int way), some (.str lit), none, none, none, none] ∧ 0 < lit.length ∧ lit.length ≤ 26 ∧ (∀ x ∈ tl lit, HeadOk way x) ∧ PoolAt G p l c ∧ Kx p l H G) ?_ ?_
  · walk_at "sx"
    rcases (show way = 0 ∨ way = 1 ∨ way = 2 by omega) with rfl | rfl | rfl
    · walk_at "sx"
      refine ⟨_, rfl, by decide +kernel, by decide +kernel, fun x hx => .inl ⟨rfl, ?_⟩, by walk_at "pl", by walk_at "kx"⟩
      rwa [tl_S] at hx
    · walk_at "sx"
      refine ⟨_, rfl, by decide +kernel, by decide +kernel, fun x hx => .inr (.inl ⟨rfl, ?_⟩), by walk_at "pl", by walk_at "kx"⟩
      rwa [tl_C] at hx
    · walk_at "sx"
      refine ⟨_, rfl, by decide +kernel, by decide +kernel, fun x hx => .inr (.inr ⟨rfl, ?_⟩), by walk_at "pl", by walk_at "kx"⟩
      rwa [tl_M] at hx
  rintro σ' G ⟨lit, rfl, lit0, lit1, hlit, PG, kG⟩
  walk_at "sx"
  refine ⟨p, l, c, 4, rfl, by walk_at "pl", by omega, by decide, by decide, fun n2 H2 n20 n21 P2 k2 => ?_⟩
  have hA := kxl PG (by assumption) k2
  have kA : Kx p l H H2 := by walk_at "kx"
  walk_at "sx"
  obtain ⟨sz4, hs4, hat4⟩ := atL (xs := [V.int 4, V.int 4, V.int 4, V.int 12]) n20 n21
  refine x_ixL (.of hA) hat4 ?_
  obtain ⟨m4, rfl, m40, m41⟩ : ∃ m : Int, sz4 = .int m ∧ 0 < m ∧ m ≤ 12 := by
    simp only [List.mem_cons, List.not_mem_nil, or_false] at hs4
    rcases hs4 with e | e | e | e <;> exact ⟨_, e, by decide, by decide⟩
  walk_at "sx"
  refine ⟨p, l, c + 1, m4, rfl, P2, by omega, m40, by omega, fun size H3 n30 n31 P3 k3 => ?_⟩
  walk_at "sx"
  refine ⟨p, l, c + 1 + 1, 24, rfl, P3, by omega, by decide, by decide, fun head H4 n40 n41 P4 k4 => ?_⟩
  walk_at "sx"
  refine x_lenS (sz (by omega)) ?_
  walk_at "sx"
  refine ⟨p, l, c + 1 + 1 + 1, _, rfl, P4, by omega, by omega, by omega, fun n5 H5 n50 n51 P5 k5 => ?_⟩
  obtain ⟨ch, hch, hat5⟩ := atL (xs := tl lit) n50 (by rw [tl_len]; exact n51)
  walk_at "sx"
  refine x_ixS (sz (by omega)) hat5 ?_
  have kB : Kx p l H H5 := by walk_at "kx"
  walk_at "sx"
  have hch' : HeadOk way ch := hlit ch hch
  refine x_cut (M := fun σ' G => ∃ (txt : Str) (cc : Nat) (tt : List Nat), σ' = [some (.ref p), some (.int way), some (.str lit), some (.int size), some (.int head), some (.str txt), none] ∧ tl txt = cc :: tt ∧ HeadOk way cc ∧ (∀ x ∈ tt, TailOk way x) ∧ tt.length ≤ 4 ∧ txt.length ≤ 5 ∧ (way = 2 → tt = []) ∧ PoolAt G p l (c + 4) ∧ Kx p l H G) ?_ ?_
  · have P6 := P5.mono (show c + 1 + 1 + 1 + 1 ≤ c + 4 by omega)
    walk_at "sx"
    refine x_ite (fun cw => ?_) (fun cw => ?_)
    · have hw : way = 0 := V.int.inj cw
      subst hw
      walk_at "sx"
      refine x_ite (fun c9 => ?_) (fun c9 => ?_)
      · walk_at "sx"
        obtain ⟨zv, hzv, hat9⟩ := atL (xs := resW.map V.str) n40 (by show head < (resW.map V.str).length; exact c9)
        refine x_ixL (xs := resW.map V.str) (.of upd_same) hat9 ?_
        obtain ⟨z, hz, rfl⟩ := List.mem_map.mp hzv
        obtain ⟨cc, tt, e1, e2, e3, e4, e5⟩ := resW_ok z hz
        walk_at "sx"
        exact ⟨z, cc, tt, rfl, e1, .inl ⟨rfl, e2⟩, (fun x hx => by unfold TailOk; rw [if_neg (by decide)]; exact e3 x hx), e4, e5, (fun h => by cases h), by walk_at "pl", by walk_at "kx"⟩
      · walk_at "sx"
        exact ⟨_, ch, [], rfl, rfl, hch', (fun x hx => by cases hx), by simp, by show 1 ≤ 5; decide, (fun _ => rfl), P6, kB⟩
    · walk_at "sx"
      exact ⟨_, ch, [], rfl, rfl, hch', (fun x hx => by cases hx), by simp, by show 1 ≤ 5; decide, (fun _ => rfl), P6, kB⟩
  rintro σ' G ⟨txt, cc, tt, rfl, et, hcc, htt, l4, l5, h2, PG, kG⟩
  have last : ∀ (Z : Str) (G' : Hp) (chars : List Nat), tl Z = (cc :: (tt ++ chars)).take 12 → (∀ x ∈ chars, TailOk way x) → (way = 2 → chars.length ≤ 2) → PoolAt G' p l (c + 20) → Kx p l H G' → Q (.str Z) G' := fun Z G' chars eZ hcs h3 PG' kG' =>
    q Z G' (nameOk (n := 0) eZ hcc htt hcs fun hw => ⟨h2 hw, h3 hw⟩) PG' kG'
  refine x_cut (M := fun σ' G' => σ' = [some (.ref p), some (.int way), some (.str lit), some (.int size), some (.int head), some (.str txt), none] ∧ G' = G) ?_ ?_
  · walk_at "sx"
    refine x_ite (fun cw => ?_) (fun cw => ?_)
    · have hw : way = 1 := V.int.inj cw
      subst hw
      walk_at "sx"
      refine x_ite (fun c12 => ?_) (fun c12 => ?_)
      · walk_at "sx"
        rename_i r r0 r1 _
        have e3 : tl ("XYZ" : Str) = [88, 89, 90] := by decide +kernel
        obtain ⟨ch3, hm3, hat3⟩ := atL (xs := tl ("XYZ" : Str)) r0 (by rw [e3]; exact r1)
        refine x_ixS (by decide +kernel) hat3 ?_
        refine q _ _ ⟨ch3, [], rfl, .inr (.inl ⟨rfl, ?_, (fun x hx => by cases hx), by decide⟩)⟩ (PG.mono (by omega)) kG
        rw [e3] at hm3
        rw [sC_iff]
        simp only [List.mem_cons, List.not_mem_nil, or_false] at hm3
        omega
      · walk_at "sx"
        exact ⟨rfl, rfl⟩
    · walk_at "sx"
      exact ⟨rfl, rfl⟩
  rintro σ' G' ⟨rfl, rfl⟩
  refine x_cut (M := fun σ' G => ∃ (some' : Str) (size' : Int), σ' = [some (.ref p), some (.int way), some (.str some'), some (.int size'), some (.int head), some (.str txt), none] ∧ (∀ x ∈ tl some', TailOk way x) ∧ 0 < some'.length ∧ some'.length ≤ 36 ∧ 0 ≤ size' ∧ size' ≤ 11 ∧ (way = 2 → size' ≤ 2) ∧ G = G') ?_ ?_
  · walk_at "sx"
    refine x_ite (fun cw => ?_) (fun cw => ?_)
    · have hw : way = 2 := V.int.inj cw
      subst hw
      walk_at "sx"
      rename_i r r0 r1 _
      refine ⟨lit, r, rfl, fun x hx => ?_, lit0, by omega, r0, by omega, fun _ => by omega, rfl⟩
      unfold TailOk
      rw [if_pos rfl]
      rcases hlit x hx with ⟨h, _⟩ | ⟨h, _⟩ | ⟨_, h⟩
      · cases h
      · cases h
      · exact h
    · walk_at "sx"
      refine ⟨_, size, rfl, fun x hx => ?_, by decide +kernel, by decide +kernel, n30, by omega, fun h => absurd (congrArg V.int h) cw, rfl⟩
      unfold TailOk
      rw [if_neg (fun h => cw (congrArg V.int h))]
      rwa [tl_SD] at hx
  rintro σ' G ⟨some', size', rfl, hs, s0, s36, z0, z11, zw, rfl⟩
  walk_at "sx"
  refine x_lcR1 (n := size') (fun D i H' => ∃ (ys : List Str), H' D = some (.lst (ys.map V.str)) ∧ ys.length = i ∧ (∀ y ∈ ys, ∃ c, tl y = [c] ∧ TailOk way c) ∧ PoolAt H' p l (c + 4 + i) ∧ Kx p l H H') (by omega) (by omega) ?_ ?_ ?_
  · intro D hD
    exact ⟨[], upd_same, rfl, (fun y hy => by cases hy), by (have := PG.mono (show c + 4 ≤ c + 4 + (0 : Nat) by omega); walk_at "pl"), by walk_at "kx"⟩
  · rintro D hD i H' hi ⟨ys, hD', hl, hys, PH, kH⟩
    walk_at "sx"
    refine ⟨rfl, ?_⟩
    walk_at "sx"
    refine x_lenS (sz (by omega)) ?_
    walk_at "sx"
    refine ⟨p, l, c + 4 + i, _, rfl, PH, by omega, by omega, by omega, fun n6 H6 n60 n61 P6 k6 => ?_⟩
    obtain ⟨c6, hc6, hat6⟩ := atL (xs := tl some') n60 (by rw [tl_len]; exact n61)
    walk_at "sx"
    refine x_ixS (sz (by omega)) hat6 ?_
    obtain ⟨dp, dl⟩ := PG.fresh hD
    have eD := k6 D _ hD' dp dl
    have nD := kG.none hD dp dl
    refine ⟨_, eD, szl (by rw [List.length_map]; omega), ys ++ [⟨#[c6]⟩], ?_, by rw [List.length_append]; simp; omega, fun y hy => ?_, (P6.mono (by omega)).updo dp dl, Kx.updf nD (kH.trans k6)⟩
    · rw [upd_same, List.map_append]
      rfl
    · rcases List.mem_append.mp hy with hy | hy
      · exact hys y hy
      · rw [List.mem_singleton.mp hy]
        exact ⟨c6, rfl, hs c6 hc6⟩
  · rintro D hD H' ⟨ys, hD', hl, hys, PH, kH⟩
    obtain ⟨s1, s2, s3⟩ := signs_of hys
    walk_at "sx"
    have ltx : txt.length = (tl txt).length := (tl_len txt).symm
    refine x_join (.of hD') (by rw [s3, hl]; show _ + _ * 0 ≤ _; omega) ?_
    have lj : (Txt.join ("" : Str) ys).length = ys.length := by rw [← tl_len, tl_joined, s1]
    refine x_addS (sz (by rw [lj]; omega)) ?_
    walk_at "sx"
    refine x_slS (sz ?_) ?_
    · rw [← tl_len, tl_append, List.length_append, tl_len, tl_len, lj]
      omega
    · refine last _ H' ((ys.map tl).flatten) ?_ s2 (fun hw => by rw [s1, hl]; have := zw hw; omega) (PH.mono (by omega)) kH
      rw [show (12 : Int) = ((12 : Nat) : Int) from rfl, cut_to, tl_append, tl_joined, et]
      rfl
end
end Gs

namespace Gs
open PySem PySem.Spec PyProof.Rows L2 TL
abbrev s_is_kept : Stmt := PySem.Challenge.pw_goalstead_k09_operators_let_by.main.body.getD 6 (.Pass ⟨0, 0, 0, 0⟩)
theorem sc_is_kept : FnScope ["part"] ["part"] (defScope s_is_kept) := ⟨rfl, rfl, rfl, by decide +kernel, rfl, by decide +kernel, by decide +kernel⟩
abbrev s_own : Stmt := PySem.Challenge.pw_goalstead_k09_operators_let_by.main.body.getD 9 (.Pass ⟨0, 0, 0, 0⟩)
theorem sc_own : FnScope [] [] (defScope s_own) := ⟨rfl, rfl, rfl, by decide +kernel, rfl, by decide +kernel, by decide +kernel⟩
abbrev s_is_barred : Stmt := PySem.Challenge.pw_goalstead_k09_operators_let_by.main.body.getD 11 (.Pass ⟨0, 0, 0, 0⟩)
theorem sc_is_barred : FnScope ["operator", "earlier", "level", "side", "name", "other_level", "other_side", "other_name"] ["operator", "earlier"] (defScope s_is_barred) := ⟨rfl, rfl, rfl, by decide +kernel, rfl, by decide +kernel, by decide +kernel⟩
abbrev s_law_kept : Stmt := PySem.Challenge.pw_goalstead_k09_operators_let_by.main.body.getD 17 (.Pass ⟨0, 0, 0, 0⟩)
theorem sc_law_kept : FnScope ["words"] [] (defScope s_law_kept) := ⟨rfl, rfl, rfl, by decide +kernel, rfl, by decide +kernel, by decide +kernel⟩
abbrev s_law_own : Stmt := PySem.Challenge.pw_goalstead_k09_operators_let_by.main.body.getD 18 (.Pass ⟨0, 0, 0, 0⟩)
theorem sc_law_own : FnScope ["rows", "name"] [] (defScope s_law_own) := ⟨rfl, rfl, rfl, by decide +kernel, rfl, by decide +kernel, by decide +kernel⟩
abbrev s_law_alike : Stmt := PySem.Challenge.pw_goalstead_k09_operators_let_by.main.body.getD 19 (.Pass ⟨0, 0, 0, 0⟩)
theorem sc_law_alike : FnScope ["found", "due", "k"] ["found", "due"] (defScope s_law_alike) := ⟨rfl, rfl, rfl, by decide +kernel, rfl, by decide +kernel, by decide +kernel⟩
abbrev s_law_rows : Stmt := PySem.Challenge.pw_goalstead_k09_operators_let_by.main.body.getD 20 (.Pass ⟨0, 0, 0, 0⟩)
theorem sc_law_rows : FnScope ["found", "due", "k"] ["found", "due"] (defScope s_law_rows) := ⟨rfl, rfl, rfl, by decide +kernel, rfl, by decide +kernel, by decide +kernel⟩
/-- what the text's constants hold -/
structure TxR (K : PySem.W.Frag) (mg : Str → Option Value) : Prop where
  kept : ∃ p, mg "KEPT" = some (.ref p) ∧ ∀ H, SqT K H p (keptL.map V.str)
  own : ∃ p vs, mg "OWN" = some (.ref p) ∧ (∀ H, SqT K H p vs) ∧ ∀ H, RowsAt K H vs ownL
def spIsKept (K : PySem.W.Frag) : Sp := fun vs H Q _ => ∃ z : Str, vs = [.str z] ∧ Q (.bl (decide (z ∈ keptL))) H
def spOwn (K : PySem.W.Frag) : Sp := fun vs H Q _ => vs = [] ∧ ∀ (p : Addr) (ws : List V) (H' : Hp), H p = none → H' p = some (.lst ws) → Same H H' → RowsAt K H' ws ownL → Q (.ref p) H'
def spBarred (K : PySem.W.Frag) : Sp := fun vs H Q _ => ∃ (a b : Addr) (o : Op) (es : List V) (ops : List Op), vs = [.ref a, .ref b] ∧ SqT K H a (rowV o) ∧ SqL K H b es ∧ RowsAt K H es ops ∧ Q (.bl (barred o ops)) H
def spKept (K : PySem.W.Frag) : Sp := fun vs H Q _ => vs = [] ∧ ∀ (p : Addr) (H' : Hp), H p = none → H' p = some (.lst (keptL.map V.str)) → Same H H' → Q (.ref p) H'
def spAlike (K : PySem.W.Frag) (k : Nat) : Sp := fun vs H Q _ => ∃ (x y : V) (u : Tv), vs = [x, y] ∧ TvAt K H k x u ∧ TvAt K H k y u ∧ ∀ H', Same H H' → Q (.bl true) H'
def spRows (K : PySem.W.Frag) : Sp := fun vs H Q _ => ∃ (a b : Addr) (xs ys : List V) (ts : List Tv), vs = [.ref a, .ref b] ∧ H a = some (.lst xs) ∧ H b = some (.lst ys) ∧ TvsAt K H 2 xs ts ∧ TvsAt K H 2 ys ts ∧ xs.length ≤ 1000 ∧ ∀ H', Same H H' → Q (.bl true) H'
section
variable {P : Program} {w : World} {K : PySem.W.Frag} {mg : Str → Option Value} {base : Heap} {f : Addr} {fd : FuncData}
def HasIsKept (P : Program) (w : World) (K : PySem.W.Frag) (mg : Str → Option Value) (base : Heap) : Prop := Has P w K mg base 1 "is_kept" ["part"] (spIsKept K)
def HasOwn (P : Program) (w : World) (K : PySem.W.Frag) (mg : Str → Option Value) (base : Heap) : Prop := Has P w K mg base 1 "own" [] (spOwn K)
def HasBarred (P : Program) (w : World) (K : PySem.W.Frag) (mg : Str → Option Value) (base : Heap) : Prop := Has P w K mg base 2 "_is_barred" ["operator", "earlier"] (spBarred K)
def HasKept (P : Program) (w : World) (K : PySem.W.Frag) (mg : Str → Option Value) (base : Heap) : Prop := Has P w K mg base 1 "_law_kept" [] (spKept K)
def HasLOwn (P : Program) (w : World) (K : PySem.W.Frag) (mg : Str → Option Value) (base : Heap) : Prop := Has P w K mg base 1 "_law_own" [] (spOwn K)
def HasAlike (k : Nat) (P : Program) (w : World) (K : PySem.W.Frag) (mg : Str → Option Value) (base : Heap) : Prop := Has P w K mg base k "_law_alike" ["found", "due"] (spAlike K k)
def HasRows (P : Program) (w : World) (K : PySem.W.Frag) (mg : Str → Option Value) (base : Heap) : Prop := Has P w K mg base 3 "_law_rows" ["found", "due"] (spRows K)
theorem ok_is_kept (F : Fun K "is_kept" "is_kept" s_is_kept f fd) (TR : TxR K mg) : FnOk P w K mg base CX0 1 f fd ["part"] (spIsKept K) := by
  refine F.ok sc_is_kept (fun vs H Q E h => ?_) (fun cdv A outer s H vs Q E hr h => ?_)
  · obtain ⟨z, rfl, _⟩ := h
    rfl
  obtain ⟨z, rfl, q⟩ := h
  obtain ⟨pK, m_KEPT, sK⟩ := TR.kept
  refine ⟨_, (pss_one (ps_ret (pe_cmpR (op_inK (K := K)) (pv 0) (pe_glob (v := .ref _) rfl m_KEPT rfl) (by first | exact nomark _ | rfl)))), ?_⟩
  walk_at "sx"
  refine ⟨pK, _, rfl, .inr (sK H), rfl, by decide, ?_⟩
  rw [if_neg (by decide), inV_strs]
  exact q
theorem ok_own (F : Fun K "own" "own" s_own f fd) (T : Txt mg) (TR : TxR K mg) : FnOk P w K mg base CX0 1 f fd [] (spOwn K) := by
  refine F.ok sc_own (fun vs H Q E h => ?_) (fun cdv A outer s H vs Q E hr h => ?_)
  · obtain ⟨rfl, _⟩ := h
    rfl
  obtain ⟨rfl, q⟩ := h
  obtain ⟨pO, vO, m_OWN, sO, rO⟩ := TR.own
  refine ⟨_, (pss_one (ps_ret (pe_callTy call_list_of (by rfl) T.z_list (by decide +kernel) (pa_cons (pe_glob (v := .ref _) rfl m_OWN rfl) pa_nil)))), ?_⟩
  walk_at "sx"
  exact ⟨pO, vO, rfl, .inr (sO H), fun l hl => q l vO _ hl upd_same (same_upd hl) (rO _)⟩
theorem ok_law_kept (F : Fun K "_law_kept" "_law_kept" s_law_kept f fd) : FnOk P w K mg base CX0 1 f fd [] (spKept K) := by
  refine F.ok sc_law_kept (fun vs H Q E h => ?_) (fun cdv A outer s H vs Q E hr h => ?_)
  · obtain ⟨rfl, _⟩ := h
    rfl
  obtain ⟨rfl, q⟩ := h
  refine ⟨_, (pss_cons (ps_set (i := 0) sc_law_kept.nd rfl (Or.inl rfl) (pe_lst (pa_cons pe_str (pa_cons pe_str (pa_cons pe_str (pa_cons pe_str (pa_cons pe_str (pa_cons pe_str (pa_cons pe_str (pa_cons pe_str pa_nil))))))))))
    (pss_one (ps_ret (pe_op op_cat (pv 0) (pe_lst (pa_cons pe_str (pa_cons pe_str (pa_cons pe_str (pa_cons pe_str (pa_cons pe_str (pa_cons pe_str (pa_cons pe_str pa_nil)))))))))))), ?_⟩
  walk_at "sx"
  rename_i a na c nc b nb
  exact q b _ ((same_upd na).free ((same_upd nc).free nb)) upd_same ((same_upd na).trans ((same_upd nc).trans (same_upd nb)))
theorem ok_is_barred (F : Fun K "_is_barred" "_is_barred" s_is_barred f fd) (C_is_kept : HasIsKept P w K mg base) : FnOk P w K mg base CX0 2 f fd ["operator", "earlier"] (spBarred K) := by
  refine F.ok sc_is_barred (fun vs H Q E h => ?_) (fun cdv A outer s H vs Q E hr h => ?_)
  · obtain ⟨a, b, o, es, ops, rfl, _⟩ := h
    rfl
  obtain ⟨a, b, o, es, ops, rfl, sa, sb, ro, q⟩ := h
  refine ⟨_, (pss_cons (ps_asg (pv 0) (pg_tup (by rfl) (pgs_cons (pg_name (i := 2) sc_is_barred.nd rfl (.inl rfl)) (pgs_cons (pg_name (i := 3) sc_is_barred.nd rfl (.inl rfl)) (pgs_cons (pg_name (i := 4) sc_is_barred.nd rfl (.inl rfl)) pgs_nil)))))
    (pss_cons (ps_if (pt_val (pe_callH C_is_kept hr (pa_cons (pv 4) pa_nil)))
      (pss_one (ps_ret pe_bl))
      pss_nil)
    (pss_cons (ps_for PassesOwn.never rfl (pi_list (pv 1)) (pg_tup (by rfl) (pgs_cons (pg_name (i := 5) sc_is_barred.nd rfl (.inl rfl)) (pgs_cons (pg_name (i := 6) sc_is_barred.nd rfl (.inl rfl)) (pgs_cons (pg_name (i := 7) sc_is_barred.nd rfl (.inl rfl)) pgs_nil))))
      (pss_cons (ps_if (pt_cmpR op_ne (pe_cmpR op_eq (pv 3) pe_str (nomark _)) (pe_cmpR op_eq (pv 6) pe_str (nomark _)) (nomark _))
      (pss_one ps_continue)
      pss_nil)
    (pss_cons (ps_if (pt_cmpR op_eq (pv 4) (pv 7) (nomark _))
      (pss_one (ps_ret pe_bl))
      pss_nil)
    (pss_one (ps_if (PW.pt (pw_and (pt_cmpR op_eq (pv 2) (pv 5) (nomark _)) (pw_and1 (pt_cmpR op_ne (pv 3) (pv 6) (nomark _)))))
      (pss_one (ps_ret pe_bl))
      pss_nil)))))
    (pss_one (ps_ret pe_bl))))), ?_⟩
  walk_at "sx"
  refine ⟨_, rfl, ?_⟩
  walk_at "sx"
  refine x_ite (fun ck => ?_) (fun ck => ?_)
  · walk_at "sx"
    have e : barred o ops = true := by
      unfold barred
      rw [decide_eq_true ck, Bool.true_or]
    rw [e] at q
    exact q
  · walk_at "sx"
    refine x_forL (K := K) (a := b) (xs := es) (fun i σ' G => G = H ∧ (ops.take i).any (hits o) = false ∧ ∃ x y z : Option V, σ' = [some (.ref a), some (.ref b), some (.int o.l), some (.str o.s), some (.str o.n), x, y, z]) ⟨rfl, rfl, none, none, none, rfl⟩ (fun i σ' G _ h => by rw [h.1]; exact sb) ?_ ?_ sb
    · rintro i v σ' G hi ⟨rfl, hn, x, y, z, rfl⟩
      obtain ⟨r, e, rfl, he, sr⟩ := ro.at hi
      have am := any_more (f := hits o) he
      walk_at "sx"
      refine x_iteN (fun c => ?_) (fun c => ?_)
      · walk_at "sx"
        refine ⟨rfl, ?_, _, _, _, rfl⟩
        rw [am, hn, hits_no (fun z => c (by rw [strEq, strEq, z]))]
        rfl
      · have c' : decide (o.s = ("ahead" : Str)) = decide (e.s = ("ahead" : Str)) := by
          have := V.bl.inj c
          rwa [strEq, strEq] at this
        walk_at "sx"
        refine x_ite (fun c1 => ?_) (fun c1 => ?_)
        · walk_at "sx"
          rw [barred_hit he (hits_n c' (V.str.inj c1))] at q
          exact q
        · walk_at "sx"
          have c1' : o.n ≠ e.n := fun z => c1 (congrArg V.str z)
          refine x_ite (fun c2 => ?_) (fun c2 => ?_)
          · walk_at "sx"
            refine x_iteN (fun c3 => ?_) (fun c3 => ?_)
            · walk_at "sx"
              rw [barred_hit he (hits_l c' (V.int.inj c2) fun z => c3 (congrArg V.str z))] at q
              exact q
            · walk_at "sx"
              refine ⟨rfl, ?_, _, _, _, rfl⟩
              rw [am, hn, hits_0 c1' fun z => z.2 (V.str.inj c3)]
              rfl
          · walk_at "sx"
            refine ⟨rfl, ?_, _, _, _, rfl⟩
            rw [am, hn, hits_0 c1' fun z => c2 (congrArg V.int z.1)]
            rfl
    · rintro σ' G ⟨rfl, hn, x, y, z, rfl⟩
      rw [ro.1, List.take_length] at hn
      walk_at "sx"
      have e : barred o ops = false := by
        unfold barred
        rw [decide_eq_false ck, hn]
        rfl
      rw [e] at q
      exact q
def seven : List Str := ["=", "is", "<", "=<", "==", "=/=", ".."]
theorem ok_law_own (F : Fun K "_law_own" "_law_own" s_law_own f fd) : FnOk P w K mg base CX0 1 f fd [] (spOwn K) := by
  refine F.ok sc_law_own (fun vs H Q E h => ?_) (fun cdv A outer s H vs Q E hr h => ?_)
  · obtain ⟨rfl, _⟩ := h
    rfl
  obtain ⟨rfl, q⟩ := h
  refine ⟨_, (pss_cons (ps_set (i := 0) sc_law_own.nd rfl (Or.inl rfl) (pe_lst (pa_cons (pe_tup (pa_cons pe_int (pa_cons pe_str (pa_cons pe_str pa_nil)))) (pa_cons (pe_tup (pa_cons pe_int (pa_cons pe_str (pa_cons pe_str pa_nil)))) (pa_cons (pe_tup (pa_cons pe_int (pa_cons pe_str (pa_cons pe_str pa_nil)))) (pa_cons (pe_tup (pa_cons pe_int (pa_cons pe_str (pa_cons pe_str pa_nil)))) pa_nil))))))
    (Evl.pss_cut (ps_set (i := 0) sc_law_own.nd rfl (Or.inl rfl) (pe_op op_cat (pv 0) (pe_lc (own := [("name", 1)]) (g := gName 1) (tt := tYes) rfl sc_law_own.nd (pi_list (pe_lst (pa_cons pe_str (pa_cons pe_str (pa_cons pe_str (pa_cons pe_str (pa_cons pe_str (pa_cons pe_str (pa_cons pe_str pa_nil))))))))) (blkOk_by (own := [("name", 1)]) (N := ["rows", "name"]) (sc := defScope s_law_own) (by decide +kernel)) (fun _ _ _ _ _ => pg_name (i := 1) sc_law_own.nd rfl (Or.inl rfl)) (fun _ _ _ _ _ => pts_nil) (fun _ _ _ _ _ => (pe_tup (pa_cons pe_int (pa_cons pe_str (pa_cons (pv 1) pa_nil))))))))
    (pss_cons (ps_set (i := 0) sc_law_own.nd rfl (Or.inl rfl) (pe_op op_cat (pv 0) (pe_lst (pa_cons (pe_tup (pa_cons pe_int (pa_cons pe_str (pa_cons pe_str pa_nil)))) (pa_cons (pe_tup (pa_cons pe_int (pa_cons pe_str (pa_cons pe_str pa_nil)))) (pa_cons (pe_tup (pa_cons pe_int (pa_cons pe_str (pa_cons pe_str pa_nil)))) (pa_cons (pe_tup (pa_cons pe_int (pa_cons pe_str (pa_cons pe_str pa_nil)))) pa_nil)))))))
    (pss_one (ps_ret (pe_op op_cat (pv 0) (pe_lst (pa_cons (pe_tup (pa_cons pe_int (pa_cons pe_str (pa_cons pe_str pa_nil)))) pa_nil)))))))), ?_⟩
  walk_at "sx"
  rename_i t1 n1 t2 n2 t3 n3 t4 n4 l4 m4
  refine x_cut (M := fun σ' G => ∃ p ws, σ' = [some (.ref p), none] ∧ G p = some (.lst ws) ∧ Same H G ∧ H p = none ∧ RowsAt K G ws (ownL.take 11)) ?_ ?_
  · walk_at "sx"
    rename_i c mc
    have r4 : RowsAt K (upd (upd (upd (upd (upd (upd H t1 (.tup [.int 9, .str "none", .str "such"])) t2 (.tup [.int 8, .str "right", .str "and"])) t3 (.tup [.int 7, .str "none", .str "in"])) t4 (.tup [.int 7, .str "ahead", .str "not"])) l4 (.lst [.ref t1, .ref t2, .ref t3, .ref t4])) c (.lst (seven.map V.str))) [.ref t1, .ref t2, .ref t3, .ref t4] (ownL.take 4) :=
      .cons (by walk_at "sq") (.cons (by walk_at "sq") (.cons (by walk_at "sq") (.cons (by walk_at "sq") .nil)))
    have e4 : (upd (upd (upd (upd (upd (upd H t1 (.tup [.int 9, .str "none", .str "such"])) t2 (.tup [.int 8, .str "right", .str "and"])) t3 (.tup [.int 7, .str "none", .str "in"])) t4 (.tup [.int 7, .str "ahead", .str "not"])) l4 (.lst [.ref t1, .ref t2, .ref t3, .ref t4])) c (.lst (seven.map V.str))) l4 = some (.lst [.ref t1, .ref t2, .ref t3, .ref t4]) := by walk_at "hx"
    have s4 : Same H (upd (upd (upd (upd (upd (upd H t1 (.tup [.int 9, .str "none", .str "such"])) t2 (.tup [.int 8, .str "right", .str "and"])) t3 (.tup [.int 7, .str "none", .str "in"])) t4 (.tup [.int 7, .str "ahead", .str "not"])) l4 (.lst [.ref t1, .ref t2, .ref t3, .ref t4])) c (.lst (seven.map V.str))) := by walk_at "sm"
    refine x_lcL (K := K) (a := c) (xs := seven.map V.str) (fun D i G => ∃ ws, G D = some (.lst ws) ∧ Same H G ∧ H D = none ∧ G c = some (.lst (seven.map V.str)) ∧ G l4 = some (.lst [.ref t1, .ref t2, .ref t3, .ref t4]) ∧ RowsAt K G [.ref t1, .ref t2, .ref t3, .ref t4] (ownL.take 4) ∧ RowsAt K G ws ((seven.take i).map fun z => (⟨6, "none", z⟩ : Op))) (.of upd_same) ?_ ?_ ?_ ?_
    · intro D hD
      exact ⟨[], upd_same, by walk_at "sm", s4.free hD, by walk_at "hx", by walk_at "hx", r4.same (same_upd hD), .nil⟩
    · rintro D hD i G _ ⟨ws, h1, h2, h3, h4, h5, h6, h7⟩
      exact .of h4
    · rintro D hD i x G hx ⟨ws, h1, h2, h3, h4, h5, h6, h7⟩
      obtain ⟨z, hz, rfl⟩ : ∃ z, seven[i]? = some z ∧ x = .str z := by
        rw [List.getElem?_map] at hx
        cases e : seven[i]? with
        | none =>
          rw [e] at hx
          cases hx
        | some z =>
          rw [e] at hx
          exact ⟨z, rfl, (Option.some.inj hx).symm⟩
      have hi : i < 7 := (List.getElem?_eq_some_iff.mp hz).1
      have hl := h7.1
      rw [List.length_map, List.length_take] at hl
      walk_at "sx"
      refine ⟨rfl, ?_⟩
      walk_at "sx"
      rename_i t nt
      have nD : D ≠ t := ne_of_none h1 nt
      have dc : c ≠ D := ne_of_none upd_same hD
      have dl : l4 ≠ D := ne_of_none e4 hD
      refine ⟨ws, by walk_at "hx", szl (by omega), ws ++ [.ref t], upd_same, same_updf (by walk_at "sm") h3, h3, by walk_at "hx", by walk_at "hx", (h6.same (same_upd nt)).lst (ys := ws) (by walk_at "hx"), ?_⟩
      rw [take_more hz, List.map_append]
      refine RowsAt.append ((h7.same (same_upd nt)).lst (ys := ws) (by walk_at "hx")) (.cons ?_ .nil)
      exact sqT_lst (ys := ws) (by walk_at "hx") (.of upd_same)
    · rintro D hD G ⟨ws, h1, h2, h3, h4, h5, h6, h7⟩
      walk_at "sx"
      have hl := h7.1
      rw [List.length_map, List.length_take] at hl
      refine x_cat h5 h1 (sz (by rw [hl]; show 4 + min _ 7 ≤ _; omega)) fun p np => ?_
      walk_at "sx"
      refine ⟨p, _, rfl, upd_same, by walk_at "sm", h2.free np, ?_⟩
      exact (h6.same (same_upd np)).append (h7.same (same_upd np))
  · rintro σ' G ⟨p, ws, rfl, hp, sG, np, rG⟩
    walk_at "sx"
    rename_i t1 n1 t2 n2 t3 n3 t4 n4 l4 m4
    have hl := rG.1
    have hl' : ws.length = 11 := by
      rw [hl]
      decide
    refine x_cat (xs := ws) (by walk_at "hx") upd_same (sz (by rw [hl']; show 11 + 4 ≤ _; omega)) fun p2 np2 => ?_
    have r15 : RowsAt K (upd (upd (upd (upd (upd (upd G t1 (.tup [.int 4, .str "left", .str "+"])) t2 (.tup [.int 4, .str "left", .str "-"])) t3 (.tup [.int 3, .str "left", .str "*"])) t4 (.tup [.int 3, .str "left", .str "//"])) l4 (.lst [.ref t1, .ref t2, .ref t3, .ref t4])) p2 (.lst (ws ++ [.ref t1, .ref t2, .ref t3, .ref t4]))) (ws ++ [.ref t1, .ref t2, .ref t3, .ref t4]) (ownL.take 15) :=
      RowsAt.append (rG.same (by walk_at "sm")) (.cons (o := ⟨4, "left", "+"⟩) (by walk_at "sq") (.cons (o := ⟨4, "left", "-"⟩) (by walk_at "sq") (.cons (o := ⟨3, "left", "*"⟩) (by walk_at "sq") (.cons (o := ⟨3, "left", "//"⟩) (by walk_at "sq") .nil))))
    have s15 : Same H (upd (upd (upd (upd (upd (upd G t1 (.tup [.int 4, .str "left", .str "+"])) t2 (.tup [.int 4, .str "left", .str "-"])) t3 (.tup [.int 3, .str "left", .str "*"])) t4 (.tup [.int 3, .str "left", .str "//"])) l4 (.lst [.ref t1, .ref t2, .ref t3, .ref t4])) p2 (.lst (ws ++ [.ref t1, .ref t2, .ref t3, .ref t4]))) := by walk_at "sm"
    walk_at "sx"
    rename_i t5 n5 l5 m5
    refine x_cat (xs := ws ++ [.ref t1, .ref t2, .ref t3, .ref t4]) (by walk_at "hx") upd_same (sz (by rw [List.length_append, hl']; show 11 + 4 + 1 ≤ _; omega)) fun p3 np3 => ?_
    have s16 := (s15.trans (same_upd (o := .tup [.int 3, .str "left", .str "mod"]) n5)).trans (same_upd (o := .lst [.ref t5]) m5)
    refine q p3 _ _ (s16.free np3) upd_same (s16.trans (same_upd np3)) ?_
    exact RowsAt.append (ops := ownL.take 15) (r15.same (((same_upd n5).trans (same_upd m5)).trans (same_upd np3))) (.cons (o := ⟨3, "left", "mod"⟩) (by walk_at "sq") .nil)
theorem ok_law_alike (F : Fun K "_law_alike" "_law_alike" s_law_alike f fd) (T : Txt mg) (b : Binds K fd ["found", "due"] []) (kp : PySem.W.keepIn K (.ref f) = true) (m : mg "_law_alike" = some (.ref f)) : ∀ k, FnOk P w K mg base CX0 k f fd ["found", "due"] (spAlike K k)
  | 0 => ⟨fun vs H Q E h => by
      obtain ⟨x, y, u, _, h, _⟩ := h
      exact h.elim, fun A outer s H args us vs Q E _ _ _ _ h => by
      obtain ⟨x, y, u, _, h, _⟩ := h
      exact h.elim⟩
  | k + 1 => by
    have C_law_alike : HasAlike k P w K mg base := ⟨f, fd, ok_law_alike F T b kp m k, b, kp, m⟩
    refine F.ok sc_law_alike (fun vs H Q E h => ?_) (fun cdv A outer s H vs Q E hr h => ?_)
    · obtain ⟨x, y, u, rfl, _⟩ := h
      rfl
    obtain ⟨x, y, u, rfl, h1, h2, q⟩ := h
    have hk : k ≤ k := Nat.le_refl k
    refine ⟨_, (pss_cons (ps_if (pt_val (pe_callB (call_isiKK (K := K)) (by rfl) T.z_isinstance (by decide +kernel) (pa_cons (pv 1) (pa_cons (pe_bltn (v := .ty "tuple") (by rfl) T.z_tuple (by decide +kernel) rfl) pa_nil))))
      (pss_cons (ps_if (PW.pt (pw_or (pt_not (pt_val (pe_callB (call_isiKK (K := K)) (by rfl) T.z_isinstance (by decide +kernel) (pa_cons (pv 0) (pa_cons (pe_bltn (v := .ty "tuple") (by rfl) T.z_tuple (by decide +kernel) rfl) pa_nil))))) (pw_or1 (pt_cmpR op_ne (pe_callB (call_lenK (K := K)) (by rfl) T.z_len (by decide +kernel) (pa_cons (pv 0) pa_nil)) (pe_callB (call_lenK (K := K)) (by rfl) T.z_len (by decide +kernel) (pa_cons (pv 1) pa_nil)) (nomark _)))))
      (pss_one (ps_ret pe_bl))
      pss_nil)
    (pss_one (ps_ret (pe_callB (cr_allK (K := K) rfl) (by rfl) T.z_all (by decide +kernel) (pa_cons (pe_lc (own := [("k", 2)]) (g := gName 2) (tt := tYes) rfl sc_law_alike.nd (pi_range1 (by rfl) T.z_range (pa_cons (pe_callB (call_lenK (K := K)) (by rfl) T.z_len (by decide +kernel) (pa_cons (pv 1) pa_nil)) pa_nil)) (blkOk_by (own := [("k", 2)]) (N := ["found", "due", "k"]) (sc := defScope s_law_alike) (by decide +kernel)) (fun _ _ _ _ _ => pg_name (i := 2) sc_law_alike.nd rfl (Or.inl rfl)) (fun _ _ _ _ _ => pts_nil) (fun _ _ _ _ _ => (pe_callH C_law_alike hr (pa_cons (pe_ix (ix_tupK (K := K)) (pv 0) (pv 2) (fun _ _ => rfl)) (pa_cons (pe_ix (ix_tupK (K := K)) (pv 1) (pv 2) (fun _ _ => rfl)) pa_nil)) (hk := Nat.le_refl _)))) pa_nil)))))
      pss_nil)
    (pss_cons (ps_if (pt_val (pe_callB (call_isiKK (K := K)) (by rfl) T.z_isinstance (by decide +kernel) (pa_cons (pv 1) (pa_cons (pe_bltn (v := .ty "str") (by rfl) T.z_str (by decide +kernel) rfl) pa_nil))))
      (pss_one (ps_ret (pe_and (pe_callB (call_isiKK (K := K)) (by rfl) T.z_isinstance (by decide +kernel) (pa_cons (pv 0) (pa_cons (pe_bltn (v := .ty "str") (by rfl) T.z_str (by decide +kernel) rfl) pa_nil))) (pe_one (pe_cmpR op_eq (pv 0) (pv 1) (nomark _))))))
      pss_nil)
    (pss_one (ps_ret (pe_and (pe_callB (call_isiKK (K := K)) (by rfl) T.z_isinstance (by decide +kernel) (pa_cons (pv 0) (pa_cons (pe_bltn (v := .ty "int") (by rfl) T.z_int (by decide +kernel) rfl) pa_nil))) (pe_and (pe_not (pe_callB (call_isiKK (K := K)) (by rfl) T.z_isinstance (by decide +kernel) (pa_cons (pv 0) (pa_cons (pe_bltn (v := .ty "bool") (by rfl) T.z_bool (by decide +kernel) rfl) pa_nil)))) (pe_one (pe_cmpR op_eq (pv 0) (pv 1) (nomark _))))))))), ?_⟩
    walk_at "sx"
    match u, h1, h2 with
    | .i n, h1, h2 =>
      have h1 : x = .int n := h1
      have h2 : y = .int n := h2
      subst h1 h2
      refine x_isT (t := .type "int") (c := false) (.base (.int n)) (kit_ty (by decide +kernel)) ?_
      walk_at "sx"
      refine x_isT (t := .type "int") (c := false) (.base (.int n)) (kit_ty (by decide +kernel)) ?_
      walk_at "sx"
      refine x_isT (t := .type "int") (c := true) (.base (.int n)) (kit_ty (by decide +kernel)) ?_
      walk_at "sx"
      refine x_isT (t := .type "int") (c := false) (.base (.int n)) (kit_ty (by decide +kernel)) ?_
      walk_at "sx"
      rw [decide_eq_true rfl]
      exact q _ (same_refl _)
    | .s z, h1, h2 =>
      have h1 : x = .str z := h1
      have h2 : y = .str z := h2
      subst h1 h2
      refine x_isT (t := .type "str") (c := false) (.base (.str z)) (kit_ty (by decide +kernel)) ?_
      walk_at "sx"
      refine x_isT (t := .type "str") (c := true) (.base (.str z)) (kit_ty (by decide +kernel)) ?_
      walk_at "sx"
      refine x_isT (t := .type "str") (c := true) (.base (.str z)) (kit_ty (by decide +kernel)) ?_
      walk_at "sx"
      rw [decide_eq_true rfl]
      exact q _ (same_refl _)
    | .t ts, ⟨a, xs, ex, sx, zx, lx, fx⟩, ⟨b, ys, ey, sy, zy, ly, fy⟩ =>
      subst ex ey
      refine x_isT (t := .type "tuple") (c := true) (ty_tup sy) (kit_ty (by decide +kernel)) ?_
      walk_at "sx"
      refine x_isT (t := .type "tuple") (c := true) (ty_tup sx) (kit_ty (by decide +kernel)) ?_
      walk_at "sx"
      refine x_iteN (fun c => absurd (by rw [lx, ly]) c) (fun _ => ?_)
      walk_at "sx"
      refine x_lcR1 (n := ys.length) (fun D i H' => H' D = some (.lst ((List.replicate i true).map V.bl)) ∧ Same H H') (by omega) (by omega) ?_ ?_ ?_
      · intro D hD
        exact ⟨upd_same, same_upd hD⟩
      · rintro D hD i H' hi ⟨eD, sH⟩
        have hi2 : i < ys.length := by omega
        have hi1 : i < xs.length := by omega
        have hi3 : i < ts.length := by omega
        walk_at "sx"
        refine ⟨rfl, ?_⟩
        walk_at "sx"
        refine x_ixT (xs := xs) (v := xs[i]) (Same.sqT sH sx) (atI_nat (List.getElem?_eq_getElem hi1)) ?_
        walk_at "sx"
        refine x_ixT (xs := ys) (v := ys[i]) (Same.sqT sH sy) (atI_nat (List.getElem?_eq_getElem hi2)) ?_
        walk_at "sx"
        refine ⟨_, _, ts[i], rfl, (fx i _ _ (List.getElem?_eq_getElem hi1) (List.getElem?_eq_getElem hi3)).same sH, (fy i _ _ (List.getElem?_eq_getElem hi2) (List.getElem?_eq_getElem hi3)).same sH, fun G sG => ?_⟩
        refine ⟨_, sG _ _ eD, szl ?_, ?_, same_updf (sH.trans sG) hD⟩
        · rw [List.length_map, List.length_replicate]
          omega
        · rw [upd_same, List.replicate_succ', List.map_append]
          rfl
      · rintro D hD H' ⟨eD, sH⟩
        walk_at "sx"
        refine ⟨D, _, rfl, .of eD, ?_⟩
        rw [all_rep]
        exact q H' sH
theorem ok_law_rows (F : Fun K "_law_rows" "_law_rows" s_law_rows f fd) (T : Txt mg) (C_law_alike : HasAlike 2 P w K mg base) : FnOk P w K mg base CX0 3 f fd ["found", "due"] (spRows K) := by
  refine F.ok sc_law_rows (fun vs H Q E h => ?_) (fun cdv A outer s H vs Q E hr h => ?_)
  · obtain ⟨a, b, xs, ys, ts, rfl, _⟩ := h
    rfl
  obtain ⟨a, b, xs, ys, ts, rfl, ha, hb, hx, hy, hl, q⟩ := h
  refine ⟨_, (pss_cons (ps_if (PW.pt (pw_or (pt_not (pt_val (pe_callB (call_isiKK (K := K)) (by rfl) T.z_isinstance (by decide +kernel) (pa_cons (pv 0) (pa_cons (pe_bltn (v := .ty "list") (by rfl) T.z_list (by decide +kernel) rfl) pa_nil))))) (pw_or1 (pt_cmpR op_ne (pe_callB (call_lenK (K := K)) (by rfl) T.z_len (by decide +kernel) (pa_cons (pv 0) pa_nil)) (pe_callB (call_lenK (K := K)) (by rfl) T.z_len (by decide +kernel) (pa_cons (pv 1) pa_nil)) (nomark _)))))
      (pss_one (ps_ret pe_bl))
      pss_nil)
    (pss_one (ps_ret (pe_callB (cr_allK (K := K) rfl) (by rfl) T.z_all (by decide +kernel) (pa_cons (pe_lc (own := [("k", 2)]) (g := gName 2) (tt := tYes) rfl sc_law_rows.nd (pi_range1 (by rfl) T.z_range (pa_cons (pe_callB (call_lenK (K := K)) (by rfl) T.z_len (by decide +kernel) (pa_cons (pv 1) pa_nil)) pa_nil)) (blkOk_by (own := [("k", 2)]) (N := ["found", "due", "k"]) (sc := defScope s_law_rows) (by decide +kernel)) (fun _ _ _ _ _ => pg_name (i := 2) sc_law_rows.nd rfl (Or.inl rfl)) (fun _ _ _ _ _ => pts_nil) (fun _ _ _ _ _ => (pe_callH C_law_alike hr (pa_cons (pe_ix (ix_listK (K := K)) (pv 0) (pv 2) (fun _ _ => rfl)) (pa_cons (pe_ix (ix_listK (K := K)) (pv 1) (pv 2) (fun _ _ => rfl)) pa_nil))))) pa_nil))))), ?_⟩
  walk_at "sx"
  refine x_isT (t := .type "list") (c := true) (.base (.lst ha)) (kit_ty (by decide +kernel)) ?_
  walk_at "sx"
  refine x_iteN (fun c => absurd (by rw [hx.1, hy.1]) c) (fun _ => ?_)
  have lx := hx.1
  have ly := hy.1
  walk_at "sx"
  refine x_lcR1 (n := ys.length) (fun D i H' => H' D = some (.lst ((List.replicate i true).map V.bl)) ∧ Same H H') (by omega) (by omega) ?_ ?_ ?_
  · intro D hD
    exact ⟨upd_same, same_upd hD⟩
  · rintro D hD i H' hi ⟨eD, sH⟩
    have hi2 : i < ys.length := by omega
    have hi1 : i < xs.length := by omega
    have hi3 : i < ts.length := by omega
    walk_at "sx"
    refine ⟨rfl, ?_⟩
    walk_at "sx"
    refine x_ixL (xs := xs) (v := xs[i]) (.of (sH _ _ ha)) (atI_nat (List.getElem?_eq_getElem hi1)) ?_
    walk_at "sx"
    refine x_ixL (xs := ys) (v := ys[i]) (.of (sH _ _ hb)) (atI_nat (List.getElem?_eq_getElem hi2)) ?_
    walk_at "sx"
    refine ⟨_, _, ts[i], rfl, (hx.2 i _ _ (List.getElem?_eq_getElem hi1) (List.getElem?_eq_getElem hi3)).same sH, (hy.2 i _ _ (List.getElem?_eq_getElem hi2) (List.getElem?_eq_getElem hi3)).same sH, fun G sG => ?_⟩
    refine ⟨_, sG _ _ eD, szl ?_, ?_, same_updf (sH.trans sG) hD⟩
    · rw [List.length_map, List.length_replicate]
      omega
    · rw [upd_same, List.replicate_succ', List.map_append]
      rfl
  · rintro D hD H' ⟨eD, sH⟩
    walk_at "sx"
    refine ⟨D, _, rfl, .of eD, ?_⟩
    rw [all_rep]
    exact q H' sH
end
end Gs

namespace Gs
open PySem PySem.Spec PyProof.Rows L2 TL
abbrev s_law_any_name : Stmt := PySem.Challenge.pw_goalstead_k09_operators_let_by.main.body.getD 21 (.Pass ⟨0, 0, 0, 0⟩)
theorem sc_law_any_name : FnScope ["pool", "ops", "mixed", "way", "names", "name", "fresh", "row"] ["pool", "ops", "mixed"] (defScope s_law_any_name) := ⟨rfl, rfl, rfl, by decide +kernel, rfl, by decide +kernel, by decide +kernel⟩
abbrev s_law_any_ops : Stmt := PySem.Challenge.pw_goalstead_k09_operators_let_by.main.body.getD 22 (.Pass ⟨0, 0, 0, 0⟩)
theorem sc_law_any_ops : FnScope ["pool", "ops", "mixed", "turn", "level", "side", "sides", "wild", "row"] ["pool"] (defScope s_law_any_ops) := ⟨rfl, rfl, rfl, by decide +kernel, rfl, by decide +kernel, by decide +kernel⟩
def spAnyName (K : PySem.W.Frag) : Sp := fun vs H Q _ => ∃ (p l a : Addr) (c : Int) (mixed : Bool) (es : List V) (ops : List Op), vs = [.ref p, .ref a, .bl mixed] ∧ PoolAt H p l c ∧ c + 24 ≤ 1000000000000 ∧ H a = some (.lst es) ∧ a ≠ p ∧ a ≠ l ∧ RowsAt K H es ops ∧ ops.length ≤ 15 ∧
  ∀ (z : Str) (H' : Hp), PoolAt H' p l (c + 24) → Kx p l H H' → Q (.str z) H'
def spAnyOps (K : PySem.W.Frag) : Sp := fun vs H Q _ => ∃ (p l : Addr) (c : Int), vs = [.ref p] ∧ PoolAt H p l c ∧ c + 600 ≤ 1000000000000 ∧
  ∀ (a : Addr) (es : List V) (ops : List Op) (H' : Hp), H a = none → H' a = some (.lst es) → Kx p l H H' → RowsAt K H' es ops → ops.length ≤ 15 → Q (.ref a) H'
theorem lc_names {K : PySem.W.Frag} {a0 a1 a2 a3 a4 a5 a6 a7 : Option V} {G : Hp} {b : Addr} {ys : List V} {zs : List Op} {Qd : Addr → Hp → Prop} (hb : G b = some (.lst ys)) (r : RowsAt K G ys zs) (hl : zs.length ≤ 1000)
    (q : ∀ D G' (us : List Str), G D = none → Same G G' → G' D = some (.lst (us.map V.str)) → us.length = zs.length → Qd D G') :
    ∃ b', V.ref b = .ref b' ∧ (∃ xs, SqL K G b' xs) ∧ ∀ D, G D = none → ∃ W : Nat → Nat → Hp → Prop, (∃ m, W 0 m (upd G D (.lst []))) ∧ ∀ i m H, W i m H →
      ((Itl K b').stop i H ∧ Qd D H) ∨ ((Itl K b').go i H ∧ ∃ Nx : Hp → Prop, (∀ H', Nx H' → ∃ m', m' < m ∧ W (i + 1) m' H') ∧ ∀ x H', (Itl K b').yld i H x H' → gName 7 x (wipe [a0, a1, a2, a3, a4, a5, a6, a7] [7]) H' fun σ2 H2 => wipe σ2 [7] = wipe [a0, a1, a2, a3, a4, a5, a6, a7] [7] ∧ tYes σ2 H2 fun b H3 =>
        if b = true then tOp (rIxT K) (tVar 7) (tC (.int 2)) σ2 H3 fun y H4 => ∃ acc, H4 D = some (.lst acc) ∧ acc.length < sizeLine ∧ Nx (upd H4 D (.lst (acc ++ [y]))) else Nx H3) := by
  refine x_lcL (K := K) (a := b) (xs := ys) (fun D i G' => ∃ us : List Str, Same G G' ∧ G' D = some (.lst (us.map V.str)) ∧ us.length = i) (.of hb) ?_ ?_ ?_ ?_
  · intro D hD
    exact ⟨[], same_upd hD, upd_same, rfl⟩
  · rintro D hD i G' _ ⟨us, h1, h2, h3⟩
    exact .of (h1 _ _ hb)
  · rintro D hD i x G' hx ⟨us, h1, h2, h3⟩
    obtain ⟨t, e, rfl, he, st⟩ := r.at hx
    have st' := Same.sqT h1 st
    have hi : i < zs.length := (List.getElem?_eq_some_iff.mp he).1
    walk_at "sx"
    refine ⟨rfl, ?_⟩
    walk_at "sx"
    refine ⟨_, h2, szl (by rw [List.length_map]; omega), us ++ [e.n], same_updf h1 hD, ?_, by rw [List.length_append, h3]; rfl⟩
    rw [upd_same, List.map_append]
    rfl
  · rintro D hD G' ⟨us, h1, h2, h3⟩
    exact q D G' us hD h1 h2 (by rw [h3, r.1])
section
variable {P : Program} {w : World} {K : PySem.W.Frag} {mg : Str → Option Value} {base : Heap} {f : Addr} {fd : FuncData}
def HasName (P : Program) (w : World) (K : PySem.W.Frag) (mg : Str → Option Value) (base : Heap) : Prop := Has P w K mg base 3 "_law_name" ["pool", "way"] (spName K)
def HasAnyName (P : Program) (w : World) (K : PySem.W.Frag) (mg : Str → Option Value) (base : Heap) : Prop := Has P w K mg base 4 "_law_any_name" ["pool", "ops", "mixed"] (spAnyName K)
theorem ok_law_any_name (F : Fun K "_law_any_name" "_law_any_name" s_law_any_name f fd) (T : Txt mg) (C_law_take : HasTake P w K mg base) (C_law_kept : HasKept P w K mg base) (C_law_own : HasLOwn P w K mg base) (C_law_name : HasName P w K mg base) : FnOk P w K mg base CX0 4 f fd ["pool", "ops", "mixed"] (spAnyName K) := by
  refine F.ok sc_law_any_name (fun vs H Q E h => ?_) (fun cdv A outer s H vs Q E hr h => ?_)
  · obtain ⟨p, l, a, c, mixed, es, ops, rfl, _⟩ := h
    rfl
  obtain ⟨p, l, a, c, mixed, es, ops, rfl, P0, hc, ha, ap, al, ro, hl, q⟩ := h
  refine ⟨_, (pss_cons (ps_set (i := 3) sc_law_any_name.nd rfl (Or.inl rfl) (pe_callH C_law_take hr (pa_cons (pv 0) (pa_cons pe_int pa_nil))))
    (pss_cons (ps_set (i := 4) sc_law_any_name.nd rfl (Or.inl rfl) (pe_callH0 C_law_kept hr))
    (Evl.pss_cut (ps_if (pt_cmpR op_eq (pv 3) pe_int (nomark _))
      (pss_one (ps_setLc (i := 4) (own := [("row", 7)]) (g := gName 7) (tt := tYes) rfl sc_law_any_name.nd rfl rfl (sw_true rfl rfl rfl (by decide +kernel)) (pi_list (pe_callH0 C_law_own hr)) (blkOk_by (own := [("row", 7)]) (N := ["pool", "ops", "mixed", "way", "names", "name", "fresh", "row"]) (sc := defScope s_law_any_name) (by decide +kernel)) (fun _ _ _ _ _ => pg_name (i := 7) sc_law_any_name.nd rfl (Or.inl rfl)) (fun _ _ _ _ _ => pts_nil) (fun _ _ _ _ _ => (pe_ix (ix_tupK (K := K)) (pv 7) pe_int (fun _ _ => rfl)))))
      pss_nil)
    (Evl.pss_cut (ps_if (PW.pt (pw_and (pt_cmpR op_eq (pv 3) pe_int (nomark _)) (pw_and1 (pt_cmpR op_gt (pe_callB (call_lenK (K := K)) (by rfl) T.z_len (by decide +kernel) (pa_cons (pv 1) pa_nil)) pe_int (nomark _)))))
      (pss_one (ps_setLc (i := 4) (own := [("row", 7)]) (g := gName 7) (tt := tYes) rfl sc_law_any_name.nd rfl rfl (sw_true rfl rfl rfl (by decide +kernel)) (pi_list (pv 1)) (blkOk_by (own := [("row", 7)]) (N := ["pool", "ops", "mixed", "way", "names", "name", "fresh", "row"]) (sc := defScope s_law_any_name) (by decide +kernel)) (fun _ _ _ _ _ => pg_name (i := 7) sc_law_any_name.nd rfl (Or.inl rfl)) (fun _ _ _ _ _ => pts_nil) (fun _ _ _ _ _ => (pe_ix (ix_tupK (K := K)) (pv 7) pe_int (fun _ _ => rfl)))))
      pss_nil)
    (pss_cons (ps_set (i := 5) sc_law_any_name.nd rfl (Or.inl rfl) (pe_ix (ix_listK (K := K)) (pv 4) (pe_callH C_law_take hr (pa_cons (pv 0) (pa_cons (pe_callB (call_lenK (K := K)) (by rfl) T.z_len (by decide +kernel) (pa_cons (pv 4) pa_nil)) pa_nil))) (fun _ _ => rfl)))
    (pss_cons (ps_set (i := 6) sc_law_any_name.nd rfl (Or.inl rfl) (pe_callH C_law_name hr (pa_cons (pv 0) (pa_cons (pe_op op_mulW pe_int (pe_callH C_law_take hr (pa_cons (pv 0) (pa_cons pe_int pa_nil)))) pa_nil))))
    (pss_one (ps_ret (pe_ix (ix_listK (K := K)) (pe_lst (pa_cons (pv 6) (pa_cons (pv 5) pa_nil))) (pe_callTy call_int1 (by rfl) T.z_int (by decide +kernel) (pa_cons (pe_and (pv 2) (pe_one (pe_cmpR op_lt (pv 3) pe_int (nomark _)))) pa_nil)) (fun _ _ => rfl)))))))))), ?_⟩
  walk_at "sx"
  refine ⟨p, l, c, 8, rfl, P0, by omega, by decide, by decide, fun n1 H1 n10 n11 P1 k1 => ?_⟩
  walk_at "sx"
  refine ⟨rfl, fun o G no ho sG => ?_⟩
  have PG := P1.same sG
  have kG := k1.trans (Kx.of sG)
  have aG := kG a _ ha ap al
  have rG := ro.kx kG P0
  have op := P1.fresh no
  walk_at "sx"
  refine x_cut (M := fun σ' G' => ∃ nm us, σ' = [some (.ref p), some (.ref a), some (.bl mixed), some (.int n1), some (.ref nm), none, none, none] ∧ G' nm = some (.lst (List.map V.str us)) ∧ 0 < us.length ∧ us.length ≤ 16 ∧ PoolAt G' p l (c + 1) ∧ Kx p l H G' ∧ nm ≠ p ∧ nm ≠ l) ?_ ?_
  · walk_at "sx"
    refine x_ite (fun c1 => ?_) (fun c1 => ?_)
    · walk_at "sx"
      refine ⟨rfl, fun o2 ws G2 no2 ho2 sG2 rw2 => ?_⟩
      refine lc_names ho2 rw2 (by decide) fun D G3 us nD s3 hD3 hl3 => ?_
      walk_at "sx"
      have hl16 : us.length = 16 := hl3
      exact ⟨D, us, rfl, hD3, by omega, by omega, (PG.same sG2).same s3, (kG.trans (Kx.of sG2)).trans (Kx.of s3), (PG.same sG2).fresh nD⟩
    · walk_at "sx"
      exact ⟨o, keptL, rfl, ho, by decide, by decide, PG, kG, op⟩
  rintro σ' G1 ⟨nm, us, rfl, hn, h0, h16, PG1, kG1, nmf⟩
  have a1 := kG1 a _ ha ap al
  have r1 := ro.kx kG1 P0
  refine x_cut (M := fun σ' G' => ∃ nm us, σ' = [some (.ref p), some (.ref a), some (.bl mixed), some (.int n1), some (.ref nm), none, none, none] ∧ G' nm = some (.lst (List.map V.str us)) ∧ 0 < us.length ∧ us.length ≤ 16 ∧ PoolAt G' p l (c + 1) ∧ Kx p l H G' ∧ nm ≠ p ∧ nm ≠ l) ?_ ?_
  · walk_at "sx"
    refine x_ite (fun c1 => ?_) (fun c1 => ?_)
    · walk_at "sx"
      refine x_ite (fun c2 => ?_) (fun c2 => ?_)
      · have he : 0 < ops.length := by
          rw [← ro.1]
          omega
        walk_at "sx"
        refine lc_names a1 r1 (by omega) fun D G3 us nD s3 hD3 hl3 => ?_
        walk_at "sx"
        exact ⟨D, us, rfl, hD3, by omega, by omega, PG1.same s3, kG1.trans (Kx.of s3), PG1.fresh nD⟩
      · walk_at "sx"
        exact ⟨nm, us, rfl, hn, h0, h16, PG1, kG1, nmf⟩
    · walk_at "sx"
      exact ⟨nm, us, rfl, hn, h0, h16, PG1, kG1, nmf⟩
  rintro σ' G2 ⟨nm, us, rfl, hn, h0, h16, PG2, kG2, nmf⟩
  walk_at "sx"
  refine ⟨p, l, c + 1, _, rfl, PG2, by omega, (by rw [List.length_map]; omega), (by rw [List.length_map]; omega), fun n2 H2 n20 n21 P2 k2 => ?_⟩
  obtain ⟨zv, hzv, hat⟩ := atL (xs := us.map V.str) n20 n21
  obtain ⟨z, hz, rfl⟩ := List.mem_map.mp hzv
  refine x_ixL (.of (k2 _ _ hn nmf.1 nmf.2)) hat ?_
  walk_at "sx"
  refine ⟨p, l, c + 1 + 1, 2, rfl, P2, by omega, by decide, by decide, fun n3 H3 n30 n31 P3 k3 => ?_⟩
  walk_at "sx"
  refine ⟨p, l, c + 1 + 1 + 1, _, rfl, P3, by omega, by omega, by omega, fun fr H4 _ P4 k4 => ?_⟩
  have kF : Kx p l H H4 := ((kG2.trans k2).trans k3).trans k4
  walk_at "sx"
  have fin : ∀ (b : Bool) (lt : Addr) (G : Hp), G lt = some (.lst [.str fr, .str z]) → PoolAt G p l (c + 1 + 1 + 1 + 20) → Kx p l H G → rIxL K (.ref lt) (.int (if b = true then 1 else 0)) G Q := fun b lt G hlt PF kF => by
    cases b with
    | true => exact x_ixL (xs := [.str fr, .str z]) (v := .str z) (.of hlt) (at1 rfl) (q _ _ (PF.mono (by omega)) kF)
    | false => exact x_ixL (xs := [.str fr, .str z]) (v := .str fr) (.of hlt) (at0 rfl) (q _ _ (PF.mono (by omega)) kF)
  refine x_iteB (fun cm => ?_) (fun cm => ?_)
  · walk_at "sx"
    exact fin _ _ _ (by walk_at "hx") (by walk_at "pl") (by walk_at "kx")
  · walk_at "sx"
    exact q _ _ (PoolAt.mono (c := c + 1 + 1 + 1 + 20) (by walk_at "pl") (by omega)) (by walk_at "kx")
def HasAnyOps (P : Program) (w : World) (K : PySem.W.Frag) (mg : Str → Option Value) (base : Heap) : Prop := Has P w K mg base 5 "_law_any_ops" ["pool"] (spAnyOps K)
theorem ok_law_any_ops (F : Fun K "_law_any_ops" "_law_any_ops" s_law_any_ops f fd) (T : Txt mg) (C_law_take : HasTake P w K mg base) (C_law_own : HasLOwn P w K mg base) (C_law_any_name : HasAnyName P w K mg base) : FnOk P w K mg base CX0 5 f fd ["pool"] (spAnyOps K) := by
  refine F.ok sc_law_any_ops (fun vs H Q E h => ?_) (fun cdv A outer s H vs Q E hr h => ?_)
  · obtain ⟨p, l, c, rfl, _⟩ := h
    rfl
  obtain ⟨p, l, c, rfl, P0, hc, q⟩ := h
  refine ⟨_, (pss_cons (ps_set (i := 1) sc_law_any_ops.nd rfl (Or.inl rfl) (pe_lst pa_nil))
    (pss_cons (ps_set (i := 2) sc_law_any_ops.nd rfl (Or.inl rfl) (pe_cmpR op_eq (pe_callH C_law_take hr (pa_cons (pv 0) (pa_cons pe_int pa_nil))) pe_int (nomark _)))
    (pss_cons (ps_for PassesOwn.never rfl (pi_range1 (by rfl) T.z_range (pa_cons (pe_callH C_law_take hr (pa_cons (pv 0) (pa_cons pe_int pa_nil))) pa_nil)) (pg_name (i := 3) sc_law_any_ops.nd rfl (.inl rfl))
      (pss_cons (ps_set (i := 4) sc_law_any_ops.nd rfl (Or.inr rfl) (pe_op op_add pe_int (pe_callH C_law_take hr (pa_cons (pv 0) (pa_cons pe_int pa_nil)))))
    (pss_cons (ps_set (i := 5) sc_law_any_ops.nd rfl (Or.inl rfl) (pe_ix (ix_listK (K := K)) (pe_lst (pa_cons pe_str (pa_cons pe_str (pa_cons pe_str (pa_cons pe_str pa_nil))))) (pe_callH C_law_take hr (pa_cons (pv 0) (pa_cons pe_int pa_nil))) (fun _ _ => rfl)))
    (pss_cons (ps_setLc (i := 6) (own := [("row", 8)]) (g := gName 8) rfl sc_law_any_ops.nd rfl rfl (sw_true rfl rfl rfl (by decide +kernel)) (pi_list (pe_op op_cat (pe_callH0 C_law_own hr) (pv 1))) (blkOk_by (own := [("row", 8)]) (N := ["pool", "ops", "mixed", "turn", "level", "side", "sides", "wild", "row"]) (sc := defScope s_law_any_ops) (by decide +kernel)) (fun _ _ _ _ _ => pg_name (i := 8) sc_law_any_ops.nd rfl (Or.inl rfl)) (fun _ _ _ _ _ => (pts_one (PW.pt (pw_and (pt_cmpR op_eq (pe_ix (ix_tupK (K := K)) (pv 8) pe_int (fun _ _ => rfl)) (pv 4) (nomark _)) (pw_and1 (pt_cmpR op_ne (pe_ix (ix_tupK (K := K)) (pv 8) pe_int (fun _ _ => rfl)) pe_str (nomark _))))))) (fun _ _ _ _ _ => (pe_ix (ix_tupK (K := K)) (pv 8) pe_int (fun _ _ => rfl))))
    (pss_cons (ps_set (i := 7) sc_law_any_ops.nd rfl (Or.inl rfl) (pe_cmpR op_eq (pe_callH C_law_take hr (pa_cons (pv 0) (pa_cons pe_int pa_nil))) pe_int (nomark _)))
    (Evl.pss_cut (ps_if (PW.pt (pw_and (pt_cmpR op_ne (pv 5) pe_str (nomark _)) (pw_and1 (pt_not (PW.pt (pw_and (pt_val (pv 2)) (pw_and1 (pt_val (pv 7)))))))))
      (pss_one (ps_set (i := 5) sc_law_any_ops.nd rfl (Or.inl rfl) (pe_ix (ix_listK (K := K)) (pe_op op_cat (pv 6) (pe_lst (pa_cons (pv 5) pa_nil))) pe_int (fun _ _ => rfl))))
      pss_nil)
    (pss_one (ps_expr (pe_bm PySem.F.plainAttrs_list PySem.F.slot_list_append PySem.F.type_list_append mt_append (pv 1) (pa_cons (pe_tup (pa_cons (pv 4) (pa_cons (pv 5) (pa_cons (pe_callH C_law_any_name hr (pa_cons (pv 0) (pa_cons (pv 1) (pa_cons (pv 2) pa_nil)))) pa_nil)))) pa_nil))))))))))
    (pss_one (ps_ret (pv 1)))))), ?_⟩
  walk_at "sx"
  rename_i a na
  have ap := P0.fresh na
  refine ⟨p, l, c, 2, rfl, by walk_at "pl", by omega, by decide, by decide, fun n1 H1 n10 n11 P1 k1 => ?_⟩
  walk_at "sx"
  refine ⟨p, l, c + 1, 16, rfl, P1, by omega, by decide, by decide, fun n2 H2 n20 n21 P2 k2 => ?_⟩
  have a2 := k2 a _ (kxl P0 na k1) ap.1 ap.2
  have k02 : Kx p l H H2 := by walk_at "kx"
  walk_at "sx"
  refine x_forR1 (n := n2) (fun i σ' G => ∃ (x1 x2 x3 x4 x5 : Option V) (mixed : Bool) (es : List V) (ops : List Op), σ' = [some (.ref p), some (.ref a), some (.bl mixed), x1, x2, x3, x4, x5, none] ∧ G a = some (.lst es) ∧ RowsAt K G es ops ∧ ops.length = i ∧ PoolAt G p l (c + 2 + 30 * i) ∧ Kx p l H G) (by omega) (by omega) ?_ (fun i σ' G hi h => ?_) (fun σ' G h => ?_)
  · exact ⟨none, none, none, none, none, _, [], [], rfl, a2, .nil, rfl, P2.mono (by omega), k02⟩
  · obtain ⟨x1, x2, x3, x4, x5, mixed, es, ops, rfl, aG, rG, lG, PG, kG⟩ := h
    walk_at "sx"
    refine ⟨p, l, _, 9, rfl, PG, by omega, by decide, by decide, fun n3 H3 n30 n31 P3 k3 => ?_⟩
    walk_at "sx"
    rename_i b nb
    refine ⟨p, l, c + 2 + 30 * i + 1, 4, rfl, by walk_at "pl", by omega, by decide, by decide, fun n4 H4 n40 n41 P4 k4 => ?_⟩
    have bf := P3.fresh nb
    have b4 := kxl P3 nb k4
    have k34 : Kx p l G H4 := by walk_at "kx"
    obtain ⟨zv, hzv, hat⟩ := atL (xs := [V.str ("left" : Str), V.str ("right" : Str), V.str ("none" : Str), V.str ("ahead" : Str)]) n40 (by show n4 < 4; exact n41)
    obtain ⟨sd, rfl⟩ : ∃ sd : Str, zv = .str sd := by
      simp only [List.mem_cons, List.not_mem_nil, or_false] at hzv
      rcases hzv with rfl | rfl | rfl | rfl
      · exact ⟨_, rfl⟩
      · exact ⟨_, rfl⟩
      · exact ⟨_, rfl⟩
      · exact ⟨_, rfl⟩
    refine x_ixL (.of b4) hat ?_
    have a4 := k34 _ _ aG ap.1 ap.2
    have r4 := rG.kx k34 PG
    walk_at "sx"
    refine ⟨rfl, fun o ws G5 no ho sG rw5 => ?_⟩
    have a5 := sG _ _ a4
    have r5 := r4.same sG
    have P5 := P4.same sG
    walk_at "sx"
    have hws : ws.length = 16 := rw5.1
    have hes : es.length = ops.length := rG.1
    refine x_cat ho a5 (sz (by omega)) fun u nu => ?_
    have r6 := (rw5.append r5).same (same_upd (o := .lst (ws ++ es)) nu)
    have k06 : Kx p l G (upd G5 u (.lst (ws ++ es))) := (k34.trans (Kx.of sG)).trans (Kx.of (same_upd nu))
    have P6 : PoolAt (upd G5 u (.lst (ws ++ es))) p l (c + 2 + 30 * i + 1 + 1) := P5.upd nu
    have u6 : upd G5 u (.lst (ws ++ es)) u = some (.lst (ws ++ es)) := upd_same
    have a6 := k06 _ _ aG ap.1 ap.2
    generalize upd G5 u (.lst (ws ++ es)) = G6 at *
    refine x_lcL (K := K) (a := u) (xs := ws ++ es) (fun D j G => ∃ us : List Str, Same G6 G ∧ G D = some (.lst (us.map V.str)) ∧ us.length ≤ j) (.of u6) ?_ ?_ ?_ ?_
    · intro D hD
      exact ⟨[], same_upd hD, upd_same, Nat.le_refl _⟩
    · rintro D hD j G' _ ⟨us, h1, h2, h3⟩
      exact .of (h1 _ _ u6)
    · rintro D hD j x G' hx ⟨us, h1, h2, h3⟩
      obtain ⟨t, e, rfl, he, st⟩ := r6.at hx
      have st' := Same.sqT h1 st
      have hj : j < (ws ++ es).length := (List.getElem?_eq_some_iff.mp hx).1
      rw [List.length_append] at hj
      walk_at "sx"
      refine ⟨rfl, ?_⟩
      walk_at "sx"
      have go : ∃ acc, G' D = some (.lst acc) ∧ acc.length < sizeLine ∧ ∃ us : List Str, Same G6 (upd G' D (.lst (acc ++ [.str e.s]))) ∧ upd G' D (.lst (acc ++ [.str e.s])) D = some (.lst (us.map V.str)) ∧ us.length ≤ j + 1 := by
        refine ⟨_, h2, szl (by rw [List.length_map]; omega), us ++ [e.s], same_updf h1 hD, ?_, by rw [List.length_append]; show us.length + 1 ≤ _; omega⟩
        rw [upd_same, List.map_append]
        rfl
      refine x_ite (fun c1 => ?_) (fun c1 => ?_)
      · walk_at "sx"
        refine x_iteN (fun c2 => ?_) (fun c2 => ?_)
        · walk_at "sx"
          exact go
        · walk_at "sx"
          exact ⟨us, h1, h2, by omega⟩
      · walk_at "sx"
        exact ⟨us, h1, h2, by omega⟩
    · rintro D hD G7 ⟨us, h1, h2, h3⟩
      rw [List.length_append] at h3
      have P7 := P6.same h1
      have Df := P6.fresh hD
      walk_at "sx"
      refine ⟨p, l, c + 2 + 30 * i + 1 + 1, 4, rfl, P7, by omega, by decide, by decide, fun n5 H8 n50 n51 P8 k8 => ?_⟩
      have k08 : Kx p l G H8 := (k06.trans (Kx.of h1)).trans k8
      have D8 := k8 _ _ h2 Df.1 Df.2
      walk_at "sx"
      refine x_cut (M := fun σ' G' => ∃ sd2 : Str, σ' = [some (.ref p), some (.ref a), some (.bl mixed), some (.int (i : Int)), some (.int (1 + n3)), some (.str sd2), some (.ref D), some (.bl (decide (V.int n5 = V.int 0))), none] ∧ Same H8 G') ?_ ?_
      · walk_at "sx"
        have go : ∀ (G8 : Hp) (Dd : Ends), G8 = H8 → (∀ σ' G', (∃ sd2 : Str, σ' = [some (.ref p), some (.ref a), some (.bl mixed), some (.int (i : Int)), some (.int (1 + n3)), some (.str sd2), some (.ref D), some (.bl (decide (V.int n5 = V.int 0))), none] ∧ Same H8 G') → Dd.nx σ' G') →
            tAsg (tOp (rIxL K) (tOp rCat (tVar 6) (tLst (tCons (tVar 5) tNil))) (tC (V.int 0))) (gName 5) Dd [some (.ref p), some (.ref a), some (.bl mixed), some (.int (i : Int)), some (.int (1 + n3)), some (.str sd), some (.ref D), some (.bl (decide (V.int n5 = V.int 0))), none] G8 := fun G8 Dd eG hD => by
          subst eG
          walk_at "sx"
          rename_i v nv
          refine x_cat (xs := us.map V.str) (zs := [.str sd]) (by walk_at "hx") upd_same (sz (by rw [List.length_map]; show us.length + 1 ≤ _; omega)) fun w nw => ?_
          obtain ⟨z, hz⟩ : ∃ z : Str, (us.map V.str ++ [.str sd])[0]? = some (.str z) := by
            cases us with
            | nil => exact ⟨sd, rfl⟩
            | cons z r => exact ⟨z, rfl⟩
          walk_at "sx"
          refine x_ixL (.of upd_same) (at0 hz) ?_
          walk_at "sx"
          exact hD _ _ ⟨z, rfl, by walk_at "sm"⟩
        refine x_iteN (fun c1 => ?_) (fun c1 => ?_)
        · walk_at "sx"
          refine x_iteB (fun cm => ?_) (fun cm => ?_)
          · walk_at "sx"
            refine x_iteN (fun c2 => ?_) (fun c2 => ?_)
            · exact go _ _ rfl (by exact fun _ _ h => h)
            · walk_at "sx"
              exact ⟨sd, rfl, same_refl _⟩
          · walk_at "sx"
            rename_i v nv
            refine x_cat (xs := us.map V.str) (zs := [.str sd]) (by walk_at "hx") upd_same (sz (by rw [List.length_map]; show us.length + 1 ≤ _; omega)) fun w nw => ?_
            obtain ⟨z, hz⟩ : ∃ z : Str, (us.map V.str ++ [.str sd])[0]? = some (.str z) := by
              cases us with
              | nil => exact ⟨sd, rfl⟩
              | cons z r => exact ⟨z, rfl⟩
            walk_at "sx"
            refine x_ixL (.of upd_same) (at0 hz) ?_
            walk_at "sx"
            exact ⟨z, rfl, by walk_at "sm"⟩
        · walk_at "sx"
          exact ⟨sd, rfl, same_refl _⟩
      · rintro σ' G9 ⟨sd2, rfl, s9⟩
        have P9 := P8.same s9
        have k09 : Kx p l G G9 := k08.trans (Kx.of s9)
        have a9 := k09 _ _ aG ap.1 ap.2
        have r9 := rG.kx k09 PG
        walk_at "sx"
        refine ⟨p, l, a, c + 2 + 30 * i + 1 + 1 + 1, mixed, es, ops, rfl, P9, by omega, a9, ap.1, ap.2, r9, by omega, fun z G10 P10 k10 => ?_⟩
        have k010 := k09.trans k10
        have a10 := k010 _ _ aG ap.1 ap.2
        have r10 := rG.kx k010 PG
        walk_at "sx"
        rename_i t nt
        refine x_app (xs := es) (by walk_at "hx") (szl (by omega)) ?_
        walk_at "sx"
        refine ⟨_, _, _, _, _, mixed, es ++ [.ref t], ops ++ [⟨1 + n3, sd2, z⟩], rfl, upd_same, ?_, by rw [List.length_append, lG]; rfl, ?_, ?_⟩
        · exact (r10.same (same_upd nt)).lst (ys := es) (by walk_at "hx") |>.append (.cons (sqT_lst (ys := es) (by walk_at "hx") (.of upd_same)) .nil)
        · exact PoolAt.updo (PoolAt.mono (P10.upd nt) (by omega)) ap.1 ap.2
        · exact Kx.updf na ((kG.trans k010).trans (Kx.of (same_upd nt)))
  · obtain ⟨x1, x2, x3, x4, x5, mixed, es, ops, rfl, aG, rG, lG, PG, kG⟩ := h
    walk_at "sx"
    exact q a es ops G na aG kG rG (by omega)
end
end Gs

namespace Gs
open PySem PySem.Spec PyProof.Rows L2 TL
abbrev s_BadOperator : Stmt := (clsBody (PySem.Challenge.pw_goalstead_k09_operators_let_by.main.body.getD 3 (.Pass ⟨0, 0, 0, 0⟩))).getD 0 (.Pass ⟨0, 0, 0, 0⟩)
theorem sc_BadOperator : FnScope ["self", "line"] ["self", "line"] (defScope s_BadOperator) := ⟨rfl, rfl, rfl, by decide +kernel, rfl, by decide +kernel, by decide +kernel⟩
section
variable {P : Program} {w : World} {K : PySem.W.Frag} {mg : Str → Option Value} {base : Heap} {f : Addr} {fd : FuncData} {B C : Addr}
theorem ok_init_BadOperator (F : Fun K "__init__" "BadOperator.__init__" s_BadOperator f fd) (TB : BaseC K mg B) (hC : OexC K C) (nf : PySem.W.findIn K (.ref C) "line" = some none) : FnOk P w K mg base CX0 1 f fd ["self", "line"] (spErr1 K C "line") := by
  refine F.ok sc_BadOperator (fun vs H Q E h => ?_) (fun cdv A outer s H vs Q E hr h => ?_)
  · obtain ⟨a, n, rfl, _⟩ := h
    rfl
  obtain ⟨a, n, rfl, hn, ha, q⟩ := h
  refine ⟨_, (pss_cons (ps_expr (pe_cinit rfl TB.mB TB.sp TB.rd TB.fc (pa_cons (pv 0) (pa_cons (pe_joined (PJ.cons pe_str (PJ.cons (pe_fmt (pv 1)) (PJ.cons pe_str PJ.nil)))) pa_nil))))
    (pss_one (ps_ost (pv 0) (pv 1)))), ?_⟩
  walk_at "sx"
  refine x_veI ?_
  walk_at "sx"
  refine x_jcons ?_
  walk_at "sx"
  refine ⟨_, rfl, by decide +kernel, ?_⟩
  refine x_jcons (x_fmt ?_)
  walk_at "sx"
  have hl := natStr_len (n := n) (by omega)
  refine .inr ⟨n, rfl, Nat.lt_trans (log_of (a := 200) (by omega) (by decide)) (by decide), ?_⟩
  refine ⟨_, rfl, sz ?_, ?_⟩
  · rw [str_append_len]
    have h0 : (Str.empty ++ ("line " : Str)).length = 5 := by decide +kernel
    rw [h0]
    show 5 + (Str.ofString (toString ((n : Nat) : Int))).length ≤ _
    omega
  refine x_jcons ?_
  walk_at "sx"
  refine ⟨_, rfl, sz ?_, ?_⟩
  · rw [str_append_len, str_append_len]
    have h0 : (Str.empty ++ ("line " : Str)).length = 5 := by decide +kernel
    have h1 : (": an operator that may not be told here" : Str).length = 39 := by decide +kernel
    rw [h0, h1]
    show 5 + (Str.ofString (toString ((n : Nat) : Int))).length + 39 ≤ _
    omega
  refine x_jnil ?_
  walk_at "sx"
  refine ⟨a, C, _, rfl, (by show 1 ≤ 1000; decide), hC, ha, ?_⟩
  refine x_ost ?_
  walk_at "sx"
  refine ⟨a, C, rfl, hC, nf, .inl ⟨ha, fun dx h1 h2 => ?_⟩⟩
  exact q dx h1 h2
end
end Gs

namespace Gs
open PySem PySem.Spec PyProof.Rows L2 TL
abbrev s_let_by : Stmt := PySem.Challenge.pw_goalstead_k09_operators_let_by.main.body.getD 10 (.Pass ⟨0, 0, 0, 0⟩)
theorem sc_let_by : FnScope ["operators", "earlier", "at", "operator"] ["operators"] (defScope s_let_by) := ⟨rfl, rfl, rfl, by decide +kernel, rfl, by decide +kernel, by decide +kernel⟩
abbrev s_law_clash : Stmt := PySem.Challenge.pw_goalstead_k09_operators_let_by.main.body.getD 23 (.Pass ⟨0, 0, 0, 0⟩)
theorem sc_law_clash : FnScope ["ops", "k", "level", "side", "name", "other"] ["ops", "k"] (defScope s_law_clash) := ⟨rfl, rfl, rfl, by decide +kernel, rfl, by decide +kernel, by decide +kernel⟩
abbrev s_law_first : Stmt := PySem.Challenge.pw_goalstead_k09_operators_let_by.main.body.getD 24 (.Pass ⟨0, 0, 0, 0⟩)
theorem sc_law_first : FnScope ["ops", "k"] ["ops"] (defScope s_law_first) := ⟨rfl, rfl, rfl, by decide +kernel, rfl, by decide +kernel, by decide +kernel⟩
abbrev s_law_told : Stmt := PySem.Challenge.pw_goalstead_k09_operators_let_by.main.body.getD 25 (.Pass ⟨0, 0, 0, 0⟩)
theorem sc_law_told : FnScope ["ops", "e"] ["ops"] (defScope s_law_told) := ⟨rfl, rfl, rfl, by decide +kernel, rfl, by decide +kernel, by decide +kernel⟩
abbrev s_law : Stmt := PySem.Challenge.pw_goalstead_k09_operators_let_by.main.body.getD 26 (.Pass ⟨0, 0, 0, 0⟩)
theorem sc_law : FnScope ["script", "ops", "first", "handed", "found", "due"] ["script"] (defScope s_law) := ⟨rfl, rfl, rfl, by decide +kernel, rfl, by decide +kernel, by decide +kernel⟩
def spClash (K : PySem.W.Frag) : Sp := fun vs H Q _ => ∃ (a : Addr) (k : Nat) (es : List V) (ops : List Op), vs = [.ref a, .int (k : Int)] ∧ SqL K H a es ∧ RowsAt K H es ops ∧ k < ops.length ∧ ops.length ≤ 100 ∧ ∀ H', Same H H' → Q (.bl (clash ops k)) H'
def spFirst (K : PySem.W.Frag) : Sp := fun vs H Q _ => ∃ (a : Addr) (es : List V) (ops : List Op), vs = [.ref a] ∧ SqL K H a es ∧ RowsAt K H es ops ∧ ops.length ≤ 100 ∧ (∀ H', NoneAt ops → Same H H' → Q .non H') ∧ (∀ (k : Nat) H', FirstAt ops k → Same H H' → Q (.int (k : Int)) H')
def spLetBy (K : PySem.W.Frag) (C : Addr) : Sp := fun vs H Q E => ∃ (a : Addr) (es : List V) (ops : List Op), vs = [.ref a] ∧ H a = some (.lst es) ∧ RowsAt K H es ops ∧ ops.length ≤ 100 ∧ (∀ H', NoneAt ops → Same H H' → Q .non H') ∧ (∀ (k : Nat) (d : Addr) H', FirstAt ops k → Same H H' → H' d = some (.xd [("line", .int (k : Int))]) → E (.ref C) (some d) H')
def spTold (K : PySem.W.Frag) : Sp := fun vs H Q _ => ∃ (a : Addr) (es : List V) (ops : List Op), vs = [.ref a] ∧ H a = some (.lst es) ∧ RowsAt K H es ops ∧ ops.length ≤ 100 ∧ (∀ (p : Addr) H', NoneAt ops → Same H H' → H' p = some (.lst [.non]) → Q (.ref p) H') ∧ (∀ (k : Nat) (p : Addr) H', FirstAt ops k → Same H H' → H' p = some (.lst [.str "refused", .int (k : Int)]) → Q (.ref p) H')
def spLaw (K : PySem.W.Frag) : Sp := fun vs H Q _ => ∃ (a : Addr) (ns : List Int), vs = [.ref a] ∧ SqL K H a (ns.map V.int) ∧ ns.length ≤ 63 ∧ ∀ H', Q (.bl true) H'
theorem clash_of {ops : List Op} {k : Nat} {o : Op} (h : ops[k]? = some o) : clash ops k = (decide (12 ≤ k) || barred o (ownL ++ ops.take k)) := by
  unfold clash
  rw [h]
theorem cutV_take (xs : List V) (n : Nat) : cutV xs none (some (n : Int)) = xs.take n := by
  unfold cutV
  rw [HT.sIx_none, HT.sIx_nat, List.drop_zero, Nat.sub_zero, ← List.take_eq_take_min]
section
variable {P : Program} {w : World} {K : PySem.W.Frag} {mg : Str → Option Value} {base : Heap} {f : Addr} {fd : FuncData} {C : Addr}
theorem ok_law_clash (F : Fun K "_law_clash" "_law_clash" s_law_clash f fd) (C_law_kept : HasKept P w K mg base) (C_law_own : HasLOwn P w K mg base) : FnOk P w K mg base CX0 2 f fd ["ops", "k"] (spClash K) := by
  refine F.ok sc_law_clash (fun vs H Q E h => ?_) (fun cdv A outer s H vs Q E hr h => ?_)
  · obtain ⟨a, k, es, ops, rfl, _⟩ := h
    rfl
  obtain ⟨a, k, es, ops, rfl, sa, ro, hk, hl, q⟩ := h
  have hes : k < es.length := by rw [ro.1]; exact hk
  obtain ⟨r, o, er, ho, sr⟩ := ro.at (List.getElem?_eq_getElem hes)
  have hcl := clash_of ho
  refine ⟨_, (pss_cons (ps_asg (pe_ix (ix_listK (K := K)) (pv 0) (pv 1) (fun _ _ => rfl)) (pg_tup (by rfl) (pgs_cons (pg_name (i := 2) sc_law_clash.nd rfl (.inl rfl)) (pgs_cons (pg_name (i := 3) sc_law_clash.nd rfl (.inl rfl)) (pgs_cons (pg_name (i := 4) sc_law_clash.nd rfl (.inl rfl)) pgs_nil)))))
    (pss_cons (ps_if (PW.pt (pw_or (pt_cmpR (op_inK (K := K)) (pv 4) (pe_callH0 C_law_kept hr) (by first | exact nomark _ | rfl)) (pw_or1 (pt_cmpR op_ge (pv 1) pe_int (nomark _)))))
      (pss_one (ps_ret pe_bl))
      pss_nil)
    (pss_cons (ps_for PassesOwn.never rfl (pi_list (pe_op op_cat (pe_callH0 C_law_own hr) (pe_slice (sl_listK (K := K)) (pv 0) po_none (po_some (pv 1))))) (pg_name (i := 5) sc_law_clash.nd rfl (.inl rfl))
      (pss_one (ps_if (pt_cmpR op_eq (pe_cmpR op_eq (pv 3) pe_str (nomark _)) (pe_cmpR op_eq (pe_ix (ix_tupK (K := K)) (pv 5) pe_int (fun _ _ => rfl)) pe_str (nomark _)) (nomark _))
      (pss_one (ps_if (PW.pt (pw_or (pt_cmpR op_eq (pv 4) (pe_ix (ix_tupK (K := K)) (pv 5) pe_int (fun _ _ => rfl)) (nomark _)) (pw_or1 (PW.pt (pw_and (pt_cmpR op_eq (pv 2) (pe_ix (ix_tupK (K := K)) (pv 5) pe_int (fun _ _ => rfl)) (nomark _)) (pw_and1 (pt_cmpR op_ne (pv 3) (pe_ix (ix_tupK (K := K)) (pv 5) pe_int (fun _ _ => rfl)) (nomark _))))))))
      (pss_one (ps_ret pe_bl))
      pss_nil))
      pss_nil)))
    (pss_one (ps_ret pe_bl))))), ?_⟩
  walk_at "sx"
  refine x_ixL sa (atI_nat (by rw [List.getElem?_eq_getElem hes, er])) ?_
  walk_at "sx"
  refine ⟨rfl, fun b G nb hb sG => ?_⟩
  walk_at "sx"
  refine ⟨b, _, rfl, .inl (.of hb), rfl, by decide, ?_⟩
  rw [if_neg (by decide), inV_strs]
  walk_at "sx"
  refine x_ite (fun c1 => ?_) (fun c1 => ?_)
  · walk_at "sx"
    have e : clash ops k = true := by
      rw [hcl]
      unfold barred
      rw [decide_eq_true c1, Bool.true_or, Bool.or_true]
    rw [e] at q
    exact q _ sG
  · walk_at "sx"
    refine x_ite (fun c2 => ?_) (fun c2 => ?_)
    · walk_at "sx"
      have e : clash ops k = true := by
        rw [hcl, decide_eq_true (show 12 ≤ k by omega), Bool.true_or]
      rw [e] at q
      exact q _ sG
    · walk_at "sx"
      have e0 : clash ops k = (ownL ++ ops.take k).any (hits o) := by
        rw [hcl, decide_eq_false (show ¬ 12 ≤ k by omega)]
        unfold barred
        rw [decide_eq_false c1]
        rfl
      refine ⟨rfl, fun b2 ws G2 nb2 hb2 sG2 rw2 => ?_⟩
      walk_at "sx"
      refine x_slL (sG2.seq (sG.seq sa)) fun b3 nb3 => ?_
      rw [cutV_take]
      walk_at "sx"
      have hws : ws.length = 16 := rw2.1
      refine x_cat (xs := ws) (by walk_at "hx") upd_same (sz (by rw [List.length_take]; omega)) fun b4 nb4 => ?_
      have sH := (((sG.trans sG2).trans (same_upd (o := .lst (es.take k)) nb3)).trans (same_upd (o := .lst (ws ++ es.take k)) nb4))
      have r4 := (rw2.same ((same_upd (o := .lst (es.take k)) nb3).trans (same_upd (o := .lst (ws ++ es.take k)) nb4))).append ((ro.take k).same sH)
      have h4 : upd (upd G2 b3 (.lst (es.take k))) b4 (.lst (ws ++ es.take k)) b4 = some (.lst (ws ++ es.take k)) := upd_same
      generalize upd (upd G2 b3 (.lst (es.take k))) b4 (.lst (ws ++ es.take k)) = G4 at *
      refine x_forL (K := K) (a := b4) (xs := ws ++ es.take k) (fun i σ' G => G = G4 ∧ ((ownL ++ ops.take k).take i).any (hits o) = false ∧ ∃ x : Option V, σ' = [some (.ref a), some (.int (k : Int)), some (.int o.l), some (.str o.s), some (.str o.n), x]) ⟨rfl, rfl, none, rfl⟩ (fun i σ' G _ h => by rw [h.1]; exact .of h4) ?_ ?_ (.of h4)
      · rintro i v σ' G hi ⟨rfl, hn, x, rfl⟩
        obtain ⟨t, e, rfl, he, st⟩ := r4.at hi
        have am := any_more (f := hits o) he
        walk_at "sx"
        refine x_ite (fun c3 => ?_) (fun c3 => ?_)
        · have c3' : decide (o.s = ("ahead" : Str)) = decide (e.s = ("ahead" : Str)) := by
            have := V.bl.inj c3
            rwa [strEq, strEq] at this
          have hit : hits o e = true → clash ops k = true := fun z => by
            rw [e0]
            exact any_at he z
          walk_at "sx"
          refine x_ite (fun c4 => ?_) (fun c4 => ?_)
          · walk_at "sx"
            rw [hit (hits_n c3' (V.str.inj c4))] at q
            exact q _ sH
          · have c4' : o.n ≠ e.n := fun z => c4 (congrArg V.str z)
            walk_at "sx"
            refine x_ite (fun c5 => ?_) (fun c5 => ?_)
            · walk_at "sx"
              refine x_iteN (fun c6 => ?_) (fun c6 => ?_)
              · walk_at "sx"
                rw [hit (hits_l c3' (V.int.inj c5) fun z => c6 (congrArg V.str z))] at q
                exact q _ sH
              · walk_at "sx"
                refine ⟨rfl, ?_, _, rfl⟩
                rw [am, hn, hits_0 c4' fun z => z.2 (V.str.inj c6)]
                rfl
            · walk_at "sx"
              refine ⟨rfl, ?_, _, rfl⟩
              rw [am, hn, hits_0 c4' fun z => c5 (congrArg V.int z.1)]
              rfl
        · walk_at "sx"
          refine ⟨rfl, ?_, _, rfl⟩
          rw [am, hn, hits_no (fun z => c3 (by rw [strEq, strEq, z]))]
          rfl
      · rintro σ' G ⟨rfl, hn, x, rfl⟩
        rw [r4.1, List.take_length] at hn
        walk_at "sx"
        rw [e0, hn] at q
        exact q _ sH
def HasClash (P : Program) (w : World) (K : PySem.W.Frag) (mg : Str → Option Value) (base : Heap) : Prop := Has P w K mg base 2 "_law_clash" ["ops", "k"] (spClash K)
theorem ok_law_first (F : Fun K "_law_first" "_law_first" s_law_first f fd) (T : Txt mg) (C_law_clash : HasClash P w K mg base) : FnOk P w K mg base CX0 3 f fd ["ops"] (spFirst K) := by
  refine F.ok sc_law_first (fun vs H Q E h => ?_) (fun cdv A outer s H vs Q E hr h => ?_)
  · obtain ⟨a, es, ops, rfl, _⟩ := h
    rfl
  obtain ⟨a, es, ops, rfl, sa, ro, hl, qn, qf⟩ := h
  have le := ro.1
  refine ⟨_, (pss_cons (ps_for PassesOwn.never rfl (pi_range1 (by rfl) T.z_range (pa_cons (pe_callB (call_lenK (K := K)) (by rfl) T.z_len (by decide +kernel) (pa_cons (pv 0) pa_nil)) pa_nil)) (pg_name (i := 1) sc_law_first.nd rfl (.inl rfl))
      (pss_one (ps_if (pt_val (pe_callH C_law_clash hr (pa_cons (pv 0) (pa_cons (pv 1) pa_nil))))
      (pss_one (ps_ret (pv 1)))
      pss_nil)))
    (pss_one (ps_ret pe_non))), ?_⟩
  walk_at "sx"
  refine x_forR1 (n := es.length) (fun i σ' G => ∃ x : Option V, σ' = [some (.ref a), x] ∧ Same H G ∧ ∀ j, j < i → clash ops j = false) (by omega) (by omega) ⟨none, rfl, same_refl _, fun j hj => absurd hj (Nat.not_lt_zero j)⟩ (fun i σ' G hi h => ?_) (fun σ' G h => ?_)
  · obtain ⟨x, rfl, sG, hj⟩ := h
    walk_at "sx"
    refine ⟨a, i, es, ops, rfl, sG.seq sa, ro.same sG, by omega, hl, fun G2 sG2 => ?_⟩
    walk_at "sx"
    refine x_iteB (fun c => ?_) (fun c => ?_)
    · walk_at "sx"
      exact qf i _ ⟨by omega, c, hj⟩ (sG.trans sG2)
    · walk_at "sx"
      refine ⟨_, rfl, sG.trans sG2, fun j hj2 => ?_⟩
      by_cases e : j = i
      · rw [e]
        exact c
      · exact hj j (by omega)
  · obtain ⟨x, rfl, sG, hj⟩ := h
    walk_at "sx"
    exact qn _ (fun j h => hj j (by omega)) sG
theorem ok_let_by (F : Fun K "let_by" "let_by" s_let_by f fd) (T : Txt mg) (C_own : HasOwn P w K mg base) (C_is_barred : HasBarred P w K mg base) (E_BadOperator : HasErr P w K mg base "BadOperator" "line" C) : FnOk P w K mg base (L2.CX P w) 3 f fd ["operators"] (spLetBy K C) := by
  refine F.okX sc_let_by (fun vs H Q E h => ?_) (fun cdv A outer s H vs Q E hr h => ?_)
  · obtain ⟨a, es, ops, rfl, _⟩ := h
    rfl
  obtain ⟨a, es, ops, rfl, sa, ro, hl, qn, qf⟩ := h
  refine ⟨_, (pss_cons (ps_set (i := 1) sc_let_by.nd rfl (Or.inl rfl) (pe_callH0 C_own hr))
    (pss_one (ps_for (passes_of rfl) rfl (pi_enum (by rfl) T.z_enumerate (pa_cons (pv 0) pa_nil)) (pg_tup (by rfl) (pgs_cons (pg_name (i := 2) sc_let_by.nd rfl (.inl rfl)) (pgs_cons (pg_name (i := 3) sc_let_by.nd rfl (.inl rfl)) pgs_nil)))
      (pss_cons (ps_if (PW.pt (pw_or (pt_cmpR op_ge (pv 2) (pe_globI rfl T.c_OPERATORS) (nomark _)) (pw_or1 (pt_val (pe_callH C_is_barred hr (pa_cons (pv 3) (pa_cons (pv 1) pa_nil)))))))
      (pss_one (ps_raiseE E_BadOperator rfl (takes_of rfl rfl rfl rfl) hr (pa_cons (pv 2) pa_nil)))
      pss_nil)
    (pss_one (ps_expr (pe_bm PySem.F.plainAttrs_list PySem.F.slot_list_append PySem.F.type_list_append mt_append (pv 1) (pa_cons (pv 3) pa_nil)))))))), ?_⟩
  walk_at "sx"
  refine ⟨rfl, fun b ws G nb hb sG rw0 => ?_⟩
  walk_at "sx"
  have le := ro.1
  have lw : ws.length = 16 := rw0.1
  have ab : a ≠ b := ne_of_none sa nb
  refine x_forE (K := K) (a := a) (xs := es) (fun i σ' G => ∃ (ys : List V) (x y : Option V), σ' = [some (.ref a), some (.ref b), x, y] ∧ G b = some (.lst ys) ∧ RowsAt K G ys (ownL ++ ops.take i) ∧ Same H G ∧ ∀ j, j < i → clash ops j = false) (sG.seq (.of sa)) ⟨ws, none, none, rfl, hb, by rw [List.take_zero, List.append_nil]; exact rw0, sG, fun j hj => absurd hj (Nat.not_lt_zero j)⟩ ?_ ?_ ?_
  · rintro i σ' G' _ ⟨ys, x, y, rfl, h1, h2, h3, h4⟩
    exact h3.seq (.of sa)
  · rintro i v σ' G' T0 hi ⟨ys, x, y, rfl, h1, h2, h3, h4⟩ hT
    obtain ⟨r, o, rfl, ho, sr⟩ := (ro.same h3).at hi
    have hcl := clash_of ho
    have hio : i < ops.length := (List.getElem?_eq_some_iff.mp ho).1
    have sr' := Same.sqT (same_upd (o := .tup [.int (i : Int), .ref r]) hT) sr
    have h1' : upd G' T0 (.tup [.int (i : Int), .ref r]) b = some (.lst ys) := by walk_at "hx"
    have h2' := h2.same (same_upd (o := .tup [.int (i : Int), .ref r]) hT)
    have h3' := h3.trans (same_upd (o := .tup [.int (i : Int), .ref r]) hT)
    have ly := h2.1
    rw [List.length_append, List.length_take] at ly
    have l16 : ownL.length = 16 := by decide
    walk_at "sx"
    refine x_ite (fun c1 => ?_) (fun c1 => ?_)
    · walk_at "sx"
      refine x_mkE (by omega) fun d hd => ?_
      refine qf i d _ ⟨hio, ?_, h4⟩ (h3'.trans (same_upd hd)) upd_same
      rw [hcl, decide_eq_true (show 12 ≤ i by omega), Bool.true_or]
    · walk_at "sx"
      have c1' : ¬ 12 ≤ i := by omega
      refine ⟨r, b, o, ys, _, rfl, sr', .of h1', h2', ?_⟩
      walk_at "sx"
      refine x_iteB (fun c2 => ?_) (fun c2 => ?_)
      · walk_at "sx"
        refine x_mkE (by omega) fun d hd => ?_
        refine qf i d _ ⟨hio, ?_, h4⟩ (h3'.trans (same_upd hd)) upd_same
        rw [hcl, c2, Bool.or_true]
      · walk_at "sx"
        refine x_app h1' (szl (by omega)) ?_
        walk_at "sx"
        refine ⟨ys ++ [.ref r], _, _, rfl, upd_same, ?_, same_updf h3' nb, fun j hj => ?_⟩
        · rw [take_more ho, ← List.append_assoc]
          exact (h2'.lst h1').append (.cons (sqT_lst h1' sr') .nil)
        · by_cases e : j = i
          · rw [e, hcl, c2, decide_eq_false c1']
            rfl
          · exact h4 j (by omega)
  · rintro σ' G' ⟨ys, x, y, rfl, h1, h2, h3, h4⟩
    walk_at "sx"
    exact qn _ (fun j h => h4 j (by omega)) h3
def HasLetBy (C : Addr) (P : Program) (w : World) (K : PySem.W.Frag) (mg : Str → Option Value) (base : Heap) : Prop := HasE P w K mg base 3 "let_by" ["operators"] (spLetBy K C)
theorem ok_law_told (F : Fun K "_law_told" "_law_told" s_law_told f fd) (C_let_by : HasLetBy C P w K mg base) (E_BadOperator : HasErr P w K mg base "BadOperator" "line" C) : FnOk P w K mg base CX0 4 f fd ["ops"] (spTold K) := by
  refine F.ok sc_law_told (fun vs H Q E h => ?_) (fun cdv A outer s H vs Q E hr h => ?_)
  · obtain ⟨a, es, ops, rfl, _⟩ := h
    rfl
  obtain ⟨a, es, ops, rfl, sa, ro, hl, qn, qf⟩ := h
  refine ⟨_, (pss_one (ps_try_as (i := 1) rfl rfl sc_law_told.nd rfl rfl ⟨rfl, by decide, Or.inl E_BadOperator.mC⟩ takes0
      (fun W pn xe tk _ => (pss_one (ps_ret (pe_lst (pa_cons (pe_callE C_let_by hr tk (pa_cons (pv 0) pa_nil)) pa_nil)))))
      (fun a oe cls d pn hz hf => (pss_one (ps_ret (pe_lst (pa_cons pe_str (pa_cons (pe_xf E_BadOperator.xf E_BadOperator.noF hz hf (pv 1)) pa_nil)))))))), ?_⟩
  walk_at "sx"
  refine ⟨a, es, ops, rfl, sa, ro, hl, fun H' hn sH => ?_, fun k d H' hf sH hd => ?_⟩
  · walk_at "sx"
    exact qn _ _ hn (by walk_at "sm") upd_same
  · refine ⟨true, E_BadOperator.ex, fun _ a0 h0 => ?_, fun z => Bool.noConfusion z⟩
    walk_at "sx"
    refine ⟨_, rfl, rfl, rfl, d, _, _, rfl, hd, rfl, ?_⟩
    walk_at "sx"
    exact qf k _ _ hf (by walk_at "sm") upd_same
end
end Gs

namespace Gs
open PySem PySem.Spec PyProof.Rows L2 TL
theorem first_one {ops : List Op} {k j : Nat} (h : FirstAt ops k) (h' : FirstAt ops j) : k = j := by
  obtain ⟨a, b, c⟩ := h
  obtain ⟨d, e, f⟩ := h'
  rcases Nat.lt_trichotomy k j with z | z | z
  · have := f k z
    rw [b] at this
    cases this
  · exact z
  · have := c j z
    rw [e] at this
    cases this
theorem none_first {ops : List Op} {k : Nat} (h : NoneAt ops) (h' : FirstAt ops k) : False := by
  have := h k h'.1
  rw [h'.2.1] at this
  cases this
section
variable {P : Program} {w : World} {K : PySem.W.Frag} {mg : Str → Option Value} {base : Heap} {f : Addr} {fd : FuncData}
def HasPool (P : Program) (w : World) (K : PySem.W.Frag) (mg : Str → Option Value) (base : Heap) : Prop := Has P w K mg base 1 "_law_pool" ["script", "k"] (spPool K)
def HasFirst (P : Program) (w : World) (K : PySem.W.Frag) (mg : Str → Option Value) (base : Heap) : Prop := Has P w K mg base 3 "_law_first" ["ops"] (spFirst K)
def HasTold (P : Program) (w : World) (K : PySem.W.Frag) (mg : Str → Option Value) (base : Heap) : Prop := Has P w K mg base 4 "_law_told" ["ops"] (spTold K)
theorem ok_law (F : Fun K "law" "law" s_law f fd) (T : Txt mg) (C_law_pool : HasPool P w K mg base) (C_law_any_ops : HasAnyOps P w K mg base) (C_own : HasOwn P w K mg base) (C_law_own : HasLOwn P w K mg base) (C_law_rows : HasRows P w K mg base) (C_law_told : HasTold P w K mg base) (C_law_first : HasFirst P w K mg base) (C_law_alike : HasAlike 2 P w K mg base) :
    FnOk P w K mg base CX0 6 f fd ["script"] (spLaw K) := by
  refine F.ok sc_law (fun vs H Q E h => ?_) (fun cdv A outer s H vs Q E hr h => ?_)
  · obtain ⟨a, ns, rfl, _⟩ := h
    rfl
  obtain ⟨a, ns, rfl, hS, hlen, q⟩ := h
  refine ⟨_, (pss_cons (ps_set (i := 1) sc_law.nd rfl (Or.inl rfl) (pe_callH C_law_any_ops hr (pa_cons (pe_callH C_law_pool hr (pa_cons (pv 0) (pa_cons pe_int pa_nil))) pa_nil)))
    (pss_cons (ps_set (i := 2) sc_law.nd rfl (Or.inl rfl) (pe_callH0 C_own hr))
    (pss_cons (ps_if (pt_not (pt_val (pe_callH C_law_rows hr (pa_cons (pv 2) (pa_cons (pe_callH0 C_law_own hr) pa_nil)))))
      (pss_one (ps_ret pe_bl))
      pss_nil)
    (pss_cons (ps_asg (pe_tup (pa_cons pe_int (pa_cons pe_str (pa_cons pe_str pa_nil)))) (pg_sub (pv 2) pe_int set_list))
    (pss_cons (ps_expr (pe_bm PySem.F.plainAttrs_list PySem.F.slot_list_append PySem.F.type_list_append mt_append (pv 2) (pa_cons (pe_tup (pa_cons pe_int (pa_cons pe_str (pa_cons pe_str pa_nil)))) pa_nil)))
    (pss_cons (ps_set (i := 3) sc_law.nd rfl (Or.inl rfl) (pe_callTy call_list_of (by rfl) T.z_list (by decide +kernel) (pa_cons (pv 1) pa_nil)))
    (pss_cons (ps_set (i := 4) sc_law.nd rfl (Or.inl rfl) (pe_callH C_law_told hr (pa_cons (pv 3) pa_nil)))
    (pss_cons (ps_set (i := 5) sc_law.nd rfl (Or.inl rfl) (pe_callH C_law_first hr (pa_cons (pv 1) pa_nil)))
    (pss_cons (ps_if (PW.pt (pw_or (pt_not (pt_val (pe_callH C_law_rows hr (pa_cons (pv 3) (pa_cons (pv 1) pa_nil))))) (pw_or1 (pt_not (pt_val (pe_callH C_law_rows hr (pa_cons (pe_callH0 C_own hr) (pa_cons (pe_callH0 C_law_own hr) pa_nil))))))))
      (pss_one (ps_ret pe_bl))
      pss_nil)
    (pss_cons (ps_if (pt_cmpR op_isN (pv 5) pe_non (nomark _))
      (pss_one (ps_ret (pe_and (pe_cmpR op_eq (pe_callB (call_lenK (K := K)) (by rfl) T.z_len (by decide +kernel) (pa_cons (pv 4) pa_nil)) pe_int (nomark _)) (pe_one (pe_cmpR op_isN (pe_ix (ix_listK (K := K)) (pv 4) pe_int (fun _ _ => rfl)) pe_non (nomark _))))))
      pss_nil)
    (pss_one (ps_ret (pe_and (pe_cmpR op_eq (pe_callB (call_lenK (K := K)) (by rfl) T.z_len (by decide +kernel) (pa_cons (pv 4) pa_nil)) pe_int (nomark _)) (pe_and (pe_cmpR op_eq (pe_ix (ix_listK (K := K)) (pv 4) pe_int (fun _ _ => rfl)) pe_str (nomark _)) (pe_one (pe_callH C_law_alike hr (pa_cons (pe_ix (ix_listK (K := K)) (pv 4) pe_int (fun _ _ => rfl)) (pa_cons (pv 5) pa_nil)))))))))))))))))), ?_⟩
  walk_at "sx"
  refine ⟨a, ns, 0, rfl, hS, hlen, by decide, by decide, fun p l H1 np nl s1 P1 => ?_⟩
  walk_at "sx"
  refine ⟨p, l, 0, rfl, P1, by decide, fun o es ops H2 no ho k2 ro hl => ?_⟩
  have le := ro.1
  walk_at "sx"
  refine ⟨rfl, fun b ws H3 nb hb s3 rb => ?_⟩
  walk_at "sx"
  refine ⟨rfl, fun b2 ws2 H4 nb2 hb2 s4 rb2 => ?_⟩
  have lw : ws.length = 16 := rb.1
  walk_at "sx"
  refine ⟨b, b2, ws, ws2, _, rfl, s4 _ _ hb, hb2, (rb.same s4).tvs, rb2.tvs, by omega, fun H5 s5 => ?_⟩
  have s25 : Same H2 H5 := (s3.trans s4).trans s5
  have b5 := s5 _ _ (s4 _ _ hb)
  have nbo : b ≠ o := (ne_of_none ho nb).symm
  walk_at "sx"
  rename_i t nt
  have tb : b ≠ t := ne_of_none b5 nt
  refine x_setL (xs := ws) (by walk_at "hx") (ix0 (by omega)) ?_
  walk_at "sx"
  rename_i t2 nt2
  refine x_app (xs := ws.set 0 (.ref t)) (by walk_at "hx") (szl (by rw [List.length_set]; omega)) ?_
  have s6 : Same H2 (upd (upd (upd (upd H5 t (.tup [.int 1, .str "left", .str "such"])) b (.lst (ws.set 0 (.ref t)))) t2 (.tup [.int 1, .str "left", .str "own"])) b (.lst (ws.set 0 (.ref t) ++ [.ref t2]))) :=
    same_updf (((same_updf (s25.trans (same_upd nt)) nb)).trans (same_upd nt2)) nb
  generalize (upd (upd (upd (upd H5 t (.tup [.int 1, .str "left", .str "such"])) b (.lst (ws.set 0 (.ref t)))) t2 (.tup [.int 1, .str "left", .str "own"])) b (.lst (ws.set 0 (.ref t) ++ [.ref t2]))) = H6 at *
  have o6 := s6 _ _ ho
  have r6 := ro.same s6
  walk_at "sx"
  refine ⟨o, es, rfl, .inl (.of o6), fun hn nhn => ?_⟩
  have s7 := same_upd (o := .lst es) nhn
  have h7 : upd H6 hn (.lst es) hn = some (.lst es) := upd_same
  generalize upd H6 hn (.lst es) = H7 at *
  walk_at "sx"
  refine ⟨hn, es, ops, rfl, h7, r6.same s7, by omega, fun pf H8 hN s8 hf => ?_, fun k pf H8 hF s8 hf => ?_⟩
  · walk_at "sx"
    refine ⟨o, es, ops, rfl, .of (s8 _ _ (s7 _ _ o6)), (r6.same s7).same s8, by omega, fun H9 _ s9 => ?_, fun k H9 hF s9 => (none_first hN hF).elim⟩
    have h9 := s9 _ _ (s8 _ _ h7)
    have o9 := s9 _ _ (s8 _ _ (s7 _ _ o6))
    have f9 := s9 _ _ hf
    have r9 := ((r6.same s7).same s8).same s9
    walk_at "sx"
    refine ⟨hn, o, es, es, _, rfl, h9, o9, r9.tvs, r9.tvs, by omega, fun H10 s10 => ?_⟩
    walk_at "sx"
    refine ⟨rfl, fun b3 ws3 H11 nb3 hb3 s11 rb3 => ?_⟩
    walk_at "sx"
    refine ⟨rfl, fun b4 ws4 H12 nb4 hb4 s12 rb4 => ?_⟩
    have lw3 : ws3.length = 16 := rb3.1
    walk_at "sx"
    refine ⟨b3, b4, ws3, ws4, _, rfl, s12 _ _ hb3, hb4, (rb3.same s12).tvs, rb4.tvs, by omega, fun H13 s13 => ?_⟩
    have f13 := s13 _ _ (s12 _ _ (s11 _ _ (s10 _ _ f9)))
    walk_at "sx"
    refine ⟨rfl, _, rfl, x_ite (fun _ => ?_) (fun z => (z rfl).elim)⟩
    walk_at "sx"
    refine ⟨rfl, ?_⟩
    rw [decide_eq_true (show V.non = V.non from rfl)]
    exact q _
  · walk_at "sx"
    refine ⟨o, es, ops, rfl, .of (s8 _ _ (s7 _ _ o6)), (r6.same s7).same s8, by omega, fun H9 hN s9 => (none_first hN hF).elim, fun k' H9 hF' s9 => ?_⟩
    have ek := first_one hF hF'
    subst ek
    have h9 := s9 _ _ (s8 _ _ h7)
    have o9 := s9 _ _ (s8 _ _ (s7 _ _ o6))
    have f9 := s9 _ _ hf
    have r9 := ((r6.same s7).same s8).same s9
    walk_at "sx"
    refine ⟨hn, o, es, es, _, rfl, h9, o9, r9.tvs, r9.tvs, by omega, fun H10 s10 => ?_⟩
    walk_at "sx"
    refine ⟨rfl, fun b3 ws3 H11 nb3 hb3 s11 rb3 => ?_⟩
    walk_at "sx"
    refine ⟨rfl, fun b4 ws4 H12 nb4 hb4 s12 rb4 => ?_⟩
    have lw3 : ws3.length = 16 := rb3.1
    walk_at "sx"
    refine ⟨b3, b4, ws3, ws4, _, rfl, s12 _ _ hb3, hb4, (rb3.same s12).tvs, rb4.tvs, by omega, fun H13 s13 => ?_⟩
    have f13 := s13 _ _ (s12 _ _ (s11 _ _ (s10 _ _ f9)))
    walk_at "sx"
    refine ⟨rfl, _, rfl, x_ite (fun z => by cases z) (fun _ => ?_)⟩
    walk_at "sx"
    exact ⟨_, _, .i (k : Int), rfl, rfl, rfl, fun H' _ => q H'⟩
end
end Gs

namespace Gs
open PySem PySem.Spec PyProof.Rows L2 TL
theorem all_mk {l : PySem.W.OpenLaw} {w : World} {K : PySem.W.Frag} {h : Heap} {mg : Str → Option Value} {fa f0 f1 f2 f3 f4 f5 f6 f7 f8 f9 f10 f11 f12 f13 f14 f15 f16 f17 : Addr} (X : K.In h) (G : h.Ns mainGlobals mg) (hfa : mg "law" = some (.ref fa))
    {B_GoalError : Addr} (m_GoalError : PySem.W.nsIn K mainGlobals "GoalError" = some (some (.ref B_GoalError))) (sp_GoalError : PySem.W.specialIn K (.ref B_GoalError) "__getattribute__" = some (some (.builtin "type.__getattribute__"))) (rd_GoalError : PySem.W.readsIn K B_GoalError (.type "type") = true) (fc_GoalError : PySem.W.findCls K (.ref B_GoalError) (.type "type") "__init__" = some (.val (.builtin "ValueError.__init__")))
    {od0 an0 : Option Addr} {sl0 : Array (Option Value)} {oc0 kV0 dc0 pm0 cd0 ct0 : Value}
    (a0 : PySem.W.nsIn K mainGlobals "is_kept" = some (some (.ref f0))) (l0 : K.lookup f0 = some ⟨oc0, od0, .func (PySem.W.fnOf "is_kept" "is_kept" (defArgs s_is_kept) (defBody s_is_kept) (defScope s_is_kept) .none kV0 dc0 pm0 an0 cd0 ct0), sl0⟩) (c0 : PySem.W.codeIn K cd0 "is_kept" = true) (k0 : PySem.W.keepIn K (.ref f0) = true)
    {od1 an1 : Option Addr} {sl1 : Array (Option Value)} {oc1 kV1 dc1 pm1 cd1 ct1 : Value}
    (a1 : PySem.W.nsIn K mainGlobals "own" = some (some (.ref f1))) (l1 : K.lookup f1 = some ⟨oc1, od1, .func (PySem.W.fnOf "own" "own" (defArgs s_own) (defBody s_own) (defScope s_own) .none kV1 dc1 pm1 an1 cd1 ct1), sl1⟩) (c1 : PySem.W.codeIn K cd1 "own" = true) (k1 : PySem.W.keepIn K (.ref f1) = true)
    {od2 an2 : Option Addr} {sl2 : Array (Option Value)} {oc2 kV2 dc2 pm2 cd2 ct2 : Value}
    (a2 : PySem.W.nsIn K mainGlobals "_is_barred" = some (some (.ref f2))) (l2 : K.lookup f2 = some ⟨oc2, od2, .func (PySem.W.fnOf "_is_barred" "_is_barred" (defArgs s_is_barred) (defBody s_is_barred) (defScope s_is_barred) .none kV2 dc2 pm2 an2 cd2 ct2), sl2⟩) (c2 : PySem.W.codeIn K cd2 "_is_barred" = true) (k2 : PySem.W.keepIn K (.ref f2) = true)
    {od3 an3 : Option Addr} {sl3 : Array (Option Value)} {oc3 kV3 dc3 pm3 cd3 ct3 : Value}
    (a3 : PySem.W.nsIn K mainGlobals "let_by" = some (some (.ref f3))) (l3 : K.lookup f3 = some ⟨oc3, od3, .func (PySem.W.fnOf "let_by" "let_by" (defArgs s_let_by) (defBody s_let_by) (defScope s_let_by) .none kV3 dc3 pm3 an3 cd3 ct3), sl3⟩) (c3 : PySem.W.codeIn K cd3 "let_by" = true) (k3 : PySem.W.keepIn K (.ref f3) = true)
    {od4 an4 : Option Addr} {sl4 : Array (Option Value)} {oc4 kV4 dc4 pm4 cd4 ct4 : Value}
    (a4 : PySem.W.nsIn K mainGlobals "_law_pool" = some (some (.ref f4))) (l4 : K.lookup f4 = some ⟨oc4, od4, .func (PySem.W.fnOf "_law_pool" "_law_pool" (defArgs s_law_pool) (defBody s_law_pool) (defScope s_law_pool) .none kV4 dc4 pm4 an4 cd4 ct4), sl4⟩) (c4 : PySem.W.codeIn K cd4 "_law_pool" = true) (k4 : PySem.W.keepIn K (.ref f4) = true)
    {od5 an5 : Option Addr} {sl5 : Array (Option Value)} {oc5 kV5 dc5 pm5 cd5 ct5 : Value}
    (a5 : PySem.W.nsIn K mainGlobals "_law_mixed" = some (some (.ref f5))) (l5 : K.lookup f5 = some ⟨oc5, od5, .func (PySem.W.fnOf "_law_mixed" "_law_mixed" (defArgs s_law_mixed) (defBody s_law_mixed) (defScope s_law_mixed) .none kV5 dc5 pm5 an5 cd5 ct5), sl5⟩) (c5 : PySem.W.codeIn K cd5 "_law_mixed" = true) (k5 : PySem.W.keepIn K (.ref f5) = true)
    {od6 an6 : Option Addr} {sl6 : Array (Option Value)} {oc6 kV6 dc6 pm6 cd6 ct6 : Value}
    (a6 : PySem.W.nsIn K mainGlobals "_law_take" = some (some (.ref f6))) (l6 : K.lookup f6 = some ⟨oc6, od6, .func (PySem.W.fnOf "_law_take" "_law_take" (defArgs s_law_take) (defBody s_law_take) (defScope s_law_take) .none kV6 dc6 pm6 an6 cd6 ct6), sl6⟩) (c6 : PySem.W.codeIn K cd6 "_law_take" = true) (k6 : PySem.W.keepIn K (.ref f6) = true)
    {od7 an7 : Option Addr} {sl7 : Array (Option Value)} {oc7 kV7 dc7 pm7 cd7 ct7 : Value}
    (a7 : PySem.W.nsIn K mainGlobals "_law_name" = some (some (.ref f7))) (l7 : K.lookup f7 = some ⟨oc7, od7, .func (PySem.W.fnOf "_law_name" "_law_name" (defArgs s_law_name) (defBody s_law_name) (defScope s_law_name) .none kV7 dc7 pm7 an7 cd7 ct7), sl7⟩) (c7 : PySem.W.codeIn K cd7 "_law_name" = true) (k7 : PySem.W.keepIn K (.ref f7) = true)
    {od8 an8 : Option Addr} {sl8 : Array (Option Value)} {oc8 kV8 dc8 pm8 cd8 ct8 : Value}
    (a8 : PySem.W.nsIn K mainGlobals "_law_kept" = some (some (.ref f8))) (l8 : K.lookup f8 = some ⟨oc8, od8, .func (PySem.W.fnOf "_law_kept" "_law_kept" (defArgs s_law_kept) (defBody s_law_kept) (defScope s_law_kept) .none kV8 dc8 pm8 an8 cd8 ct8), sl8⟩) (c8 : PySem.W.codeIn K cd8 "_law_kept" = true) (k8 : PySem.W.keepIn K (.ref f8) = true)
    {od9 an9 : Option Addr} {sl9 : Array (Option Value)} {oc9 kV9 dc9 pm9 cd9 ct9 : Value}
    (a9 : PySem.W.nsIn K mainGlobals "_law_own" = some (some (.ref f9))) (l9 : K.lookup f9 = some ⟨oc9, od9, .func (PySem.W.fnOf "_law_own" "_law_own" (defArgs s_law_own) (defBody s_law_own) (defScope s_law_own) .none kV9 dc9 pm9 an9 cd9 ct9), sl9⟩) (c9 : PySem.W.codeIn K cd9 "_law_own" = true) (k9 : PySem.W.keepIn K (.ref f9) = true)
    {od10 an10 : Option Addr} {sl10 : Array (Option Value)} {oc10 kV10 dc10 pm10 cd10 ct10 : Value}
    (a10 : PySem.W.nsIn K mainGlobals "_law_alike" = some (some (.ref f10))) (l10 : K.lookup f10 = some ⟨oc10, od10, .func (PySem.W.fnOf "_law_alike" "_law_alike" (defArgs s_law_alike) (defBody s_law_alike) (defScope s_law_alike) .none kV10 dc10 pm10 an10 cd10 ct10), sl10⟩) (c10 : PySem.W.codeIn K cd10 "_law_alike" = true) (k10 : PySem.W.keepIn K (.ref f10) = true)
    {od11 an11 : Option Addr} {sl11 : Array (Option Value)} {oc11 kV11 dc11 pm11 cd11 ct11 : Value}
    (a11 : PySem.W.nsIn K mainGlobals "_law_rows" = some (some (.ref f11))) (l11 : K.lookup f11 = some ⟨oc11, od11, .func (PySem.W.fnOf "_law_rows" "_law_rows" (defArgs s_law_rows) (defBody s_law_rows) (defScope s_law_rows) .none kV11 dc11 pm11 an11 cd11 ct11), sl11⟩) (c11 : PySem.W.codeIn K cd11 "_law_rows" = true) (k11 : PySem.W.keepIn K (.ref f11) = true)
    {od12 an12 : Option Addr} {sl12 : Array (Option Value)} {oc12 kV12 dc12 pm12 cd12 ct12 : Value}
    (a12 : PySem.W.nsIn K mainGlobals "_law_any_name" = some (some (.ref f12))) (l12 : K.lookup f12 = some ⟨oc12, od12, .func (PySem.W.fnOf "_law_any_name" "_law_any_name" (defArgs s_law_any_name) (defBody s_law_any_name) (defScope s_law_any_name) .none kV12 dc12 pm12 an12 cd12 ct12), sl12⟩) (c12 : PySem.W.codeIn K cd12 "_law_any_name" = true) (k12 : PySem.W.keepIn K (.ref f12) = true)
    {od13 an13 : Option Addr} {sl13 : Array (Option Value)} {oc13 kV13 dc13 pm13 cd13 ct13 : Value}
    (a13 : PySem.W.nsIn K mainGlobals "_law_any_ops" = some (some (.ref f13))) (l13 : K.lookup f13 = some ⟨oc13, od13, .func (PySem.W.fnOf "_law_any_ops" "_law_any_ops" (defArgs s_law_any_ops) (defBody s_law_any_ops) (defScope s_law_any_ops) .none kV13 dc13 pm13 an13 cd13 ct13), sl13⟩) (c13 : PySem.W.codeIn K cd13 "_law_any_ops" = true) (k13 : PySem.W.keepIn K (.ref f13) = true)
    {od14 an14 : Option Addr} {sl14 : Array (Option Value)} {oc14 kV14 dc14 pm14 cd14 ct14 : Value}
    (a14 : PySem.W.nsIn K mainGlobals "_law_clash" = some (some (.ref f14))) (l14 : K.lookup f14 = some ⟨oc14, od14, .func (PySem.W.fnOf "_law_clash" "_law_clash" (defArgs s_law_clash) (defBody s_law_clash) (defScope s_law_clash) .none kV14 dc14 pm14 an14 cd14 ct14), sl14⟩) (c14 : PySem.W.codeIn K cd14 "_law_clash" = true) (k14 : PySem.W.keepIn K (.ref f14) = true)
    {od15 an15 : Option Addr} {sl15 : Array (Option Value)} {oc15 kV15 dc15 pm15 cd15 ct15 : Value}
    (a15 : PySem.W.nsIn K mainGlobals "_law_first" = some (some (.ref f15))) (l15 : K.lookup f15 = some ⟨oc15, od15, .func (PySem.W.fnOf "_law_first" "_law_first" (defArgs s_law_first) (defBody s_law_first) (defScope s_law_first) .none kV15 dc15 pm15 an15 cd15 ct15), sl15⟩) (c15 : PySem.W.codeIn K cd15 "_law_first" = true) (k15 : PySem.W.keepIn K (.ref f15) = true)
    {od16 an16 : Option Addr} {sl16 : Array (Option Value)} {oc16 kV16 dc16 pm16 cd16 ct16 : Value}
    (a16 : PySem.W.nsIn K mainGlobals "_law_told" = some (some (.ref f16))) (l16 : K.lookup f16 = some ⟨oc16, od16, .func (PySem.W.fnOf "_law_told" "_law_told" (defArgs s_law_told) (defBody s_law_told) (defScope s_law_told) .none kV16 dc16 pm16 an16 cd16 ct16), sl16⟩) (c16 : PySem.W.codeIn K cd16 "_law_told" = true) (k16 : PySem.W.keepIn K (.ref f16) = true)
    {od17 an17 : Option Addr} {sl17 : Array (Option Value)} {oc17 kV17 dc17 pm17 cd17 ct17 : Value}
    (a17 : PySem.W.nsIn K mainGlobals "law" = some (some (.ref f17))) (l17 : K.lookup f17 = some ⟨oc17, od17, .func (PySem.W.fnOf "law" "law" (defArgs s_law) (defBody s_law) (defScope s_law) .none kV17 dc17 pm17 an17 cd17 ct17), sl17⟩) (c17 : PySem.W.codeIn K cd17 "law" = true) (k17 : PySem.W.keepIn K (.ref f17) = true)
    (z_all : PySem.W.nsIn K mainGlobals "all" = some none)
    (z_bool : PySem.W.nsIn K mainGlobals "bool" = some none)
    (z_enumerate : PySem.W.nsIn K mainGlobals "enumerate" = some none)
    (z_int : PySem.W.nsIn K mainGlobals "int" = some none)
    (z_isinstance : PySem.W.nsIn K mainGlobals "isinstance" = some none)
    (z_len : PySem.W.nsIn K mainGlobals "len" = some none)
    (z_list : PySem.W.nsIn K mainGlobals "list" = some none)
    (z_range : PySem.W.nsIn K mainGlobals "range" = some none)
    (z_str : PySem.W.nsIn K mainGlobals "str" = some none)
    (z_tuple : PySem.W.nsIn K mainGlobals "tuple" = some none)
    {p_KEPT : Addr} {t_KEPT_0 : Tok} {t_KEPT_1 : Tok} {t_KEPT_2 : Tok} {t_KEPT_3 : Tok} {t_KEPT_4 : Tok} {t_KEPT_5 : Tok} {t_KEPT_6 : Tok} {t_KEPT_7 : Tok} {t_KEPT_8 : Tok} {t_KEPT_9 : Tok} {t_KEPT_10 : Tok} {t_KEPT_11 : Tok} {t_KEPT_12 : Tok} {t_KEPT_13 : Tok} {t_KEPT_14 : Tok} {o_KEPT : Option Addr} {n_KEPT : Nat} {s_KEPT : Array (Option Value)} (l_KEPT : K.lookup p_KEPT = some ⟨.type "tuple", o_KEPT, .seq #[.str "op" t_KEPT_0, .str "mode" t_KEPT_1, .str "table" t_KEPT_2, .str "not" t_KEPT_3, .str "is" t_KEPT_4, .str "in" t_KEPT_5, .str "such" t_KEPT_6, .str "and" t_KEPT_7, .str "=" t_KEPT_8, .str "<" t_KEPT_9, .str "=<" t_KEPT_10, .str "==" t_KEPT_11, .str "=/=" t_KEPT_12, .str ".." t_KEPT_13, .str "<-" t_KEPT_14] n_KEPT, s_KEPT⟩) (g_KEPT : PySem.W.nsIn K mainGlobals "KEPT" = some (some (.ref p_KEPT)))
    {t_OPERATORS : Tok} (g_OPERATORS : PySem.W.nsIn K mainGlobals "OPERATORS" = some (some (.int 12 t_OPERATORS)))
    {p_OWN : Addr} {p_OWN_15 : Addr} {p_OWN_14 : Addr} {p_OWN_13 : Addr} {p_OWN_12 : Addr} {p_OWN_11 : Addr} {p_OWN_10 : Addr} {p_OWN_9 : Addr} {p_OWN_8 : Addr} {p_OWN_7 : Addr} {p_OWN_6 : Addr} {p_OWN_5 : Addr} {p_OWN_4 : Addr} {p_OWN_3 : Addr} {p_OWN_2 : Addr} {p_OWN_1 : Addr} {p_OWN_0 : Addr} {t_OWN_0_0 : Tok} {t_OWN_0_1 : Tok} {t_OWN_0_2 : Tok} {o_OWN_0 : Option Addr} {n_OWN_0 : Nat} {s_OWN_0 : Array (Option Value)} (l_OWN_0 : K.lookup p_OWN_0 = some ⟨.type "tuple", o_OWN_0, .seq #[.int 9 t_OWN_0_0, .str "none" t_OWN_0_1, .str "such" t_OWN_0_2] n_OWN_0, s_OWN_0⟩) {t_OWN_1_0 : Tok} {t_OWN_1_1 : Tok} {t_OWN_1_2 : Tok} {o_OWN_1 : Option Addr} {n_OWN_1 : Nat} {s_OWN_1 : Array (Option Value)} (l_OWN_1 : K.lookup p_OWN_1 = some ⟨.type "tuple", o_OWN_1, .seq #[.int 8 t_OWN_1_0, .str "right" t_OWN_1_1, .str "and" t_OWN_1_2] n_OWN_1, s_OWN_1⟩) {t_OWN_2_0 : Tok} {t_OWN_2_1 : Tok} {t_OWN_2_2 : Tok} {o_OWN_2 : Option Addr} {n_OWN_2 : Nat} {s_OWN_2 : Array (Option Value)} (l_OWN_2 : K.lookup p_OWN_2 = some ⟨.type "tuple", o_OWN_2, .seq #[.int 7 t_OWN_2_0, .str "none" t_OWN_2_1, .str "in" t_OWN_2_2] n_OWN_2, s_OWN_2⟩) {t_OWN_3_0 : Tok} {t_OWN_3_1 : Tok} {t_OWN_3_2 : Tok} {o_OWN_3 : Option Addr} {n_OWN_3 : Nat} {s_OWN_3 : Array (Option Value)} (l_OWN_3 : K.lookup p_OWN_3 = some ⟨.type "tuple", o_OWN_3, .seq #[.int 7 t_OWN_3_0, .str "ahead" t_OWN_3_1, .str "not" t_OWN_3_2] n_OWN_3, s_OWN_3⟩) {t_OWN_4_0 : Tok} {t_OWN_4_1 : Tok} {t_OWN_4_2 : Tok} {o_OWN_4 : Option Addr} {n_OWN_4 : Nat} {s_OWN_4 : Array (Option Value)} (l_OWN_4 : K.lookup p_OWN_4 = some ⟨.type "tuple", o_OWN_4, .seq #[.int 6 t_OWN_4_0, .str "none" t_OWN_4_1, .str "=" t_OWN_4_2] n_OWN_4, s_OWN_4⟩) {t_OWN_5_0 : Tok} {t_OWN_5_1 : Tok} {t_OWN_5_2 : Tok} {o_OWN_5 : Option Addr} {n_OWN_5 : Nat} {s_OWN_5 : Array (Option Value)} (l_OWN_5 : K.lookup p_OWN_5 = some ⟨.type "tuple", o_OWN_5, .seq #[.int 6 t_OWN_5_0, .str "none" t_OWN_5_1, .str "is" t_OWN_5_2] n_OWN_5, s_OWN_5⟩) {t_OWN_6_0 : Tok} {t_OWN_6_1 : Tok} {t_OWN_6_2 : Tok} {o_OWN_6 : Option Addr} {n_OWN_6 : Nat} {s_OWN_6 : Array (Option Value)} (l_OWN_6 : K.lookup p_OWN_6 = some ⟨.type "tuple", o_OWN_6, .seq #[.int 6 t_OWN_6_0, .str "none" t_OWN_6_1, .str "<" t_OWN_6_2] n_OWN_6, s_OWN_6⟩) {t_OWN_7_0 : Tok} {t_OWN_7_1 : Tok} {t_OWN_7_2 : Tok} {o_OWN_7 : Option Addr} {n_OWN_7 : Nat} {s_OWN_7 : Array (Option Value)} (l_OWN_7 : K.lookup p_OWN_7 = some ⟨.type "tuple", o_OWN_7, .seq #[.int 6 t_OWN_7_0, .str "none" t_OWN_7_1, .str "=<" t_OWN_7_2] n_OWN_7, s_OWN_7⟩) {t_OWN_8_0 : Tok} {t_OWN_8_1 : Tok} {t_OWN_8_2 : Tok} {o_OWN_8 : Option Addr} {n_OWN_8 : Nat} {s_OWN_8 : Array (Option Value)} (l_OWN_8 : K.lookup p_OWN_8 = some ⟨.type "tuple", o_OWN_8, .seq #[.int 6 t_OWN_8_0, .str "none" t_OWN_8_1, .str "==" t_OWN_8_2] n_OWN_8, s_OWN_8⟩) {t_OWN_9_0 : Tok} {t_OWN_9_1 : Tok} {t_OWN_9_2 : Tok} {o_OWN_9 : Option Addr} {n_OWN_9 : Nat} {s_OWN_9 : Array (Option Value)} (l_OWN_9 : K.lookup p_OWN_9 = some ⟨.type "tuple", o_OWN_9, .seq #[.int 6 t_OWN_9_0, .str "none" t_OWN_9_1, .str "=/=" t_OWN_9_2] n_OWN_9, s_OWN_9⟩) {t_OWN_10_0 : Tok} {t_OWN_10_1 : Tok} {t_OWN_10_2 : Tok} {o_OWN_10 : Option Addr} {n_OWN_10 : Nat} {s_OWN_10 : Array (Option Value)} (l_OWN_10 : K.lookup p_OWN_10 = some ⟨.type "tuple", o_OWN_10, .seq #[.int 6 t_OWN_10_0, .str "none" t_OWN_10_1, .str ".." t_OWN_10_2] n_OWN_10, s_OWN_10⟩) {t_OWN_11_0 : Tok} {t_OWN_11_1 : Tok} {t_OWN_11_2 : Tok} {o_OWN_11 : Option Addr} {n_OWN_11 : Nat} {s_OWN_11 : Array (Option Value)} (l_OWN_11 : K.lookup p_OWN_11 = some ⟨.type "tuple", o_OWN_11, .seq #[.int 4 t_OWN_11_0, .str "left" t_OWN_11_1, .str "+" t_OWN_11_2] n_OWN_11, s_OWN_11⟩) {t_OWN_12_0 : Tok} {t_OWN_12_1 : Tok} {t_OWN_12_2 : Tok} {o_OWN_12 : Option Addr} {n_OWN_12 : Nat} {s_OWN_12 : Array (Option Value)} (l_OWN_12 : K.lookup p_OWN_12 = some ⟨.type "tuple", o_OWN_12, .seq #[.int 4 t_OWN_12_0, .str "left" t_OWN_12_1, .str "-" t_OWN_12_2] n_OWN_12, s_OWN_12⟩) {t_OWN_13_0 : Tok} {t_OWN_13_1 : Tok} {t_OWN_13_2 : Tok} {o_OWN_13 : Option Addr} {n_OWN_13 : Nat} {s_OWN_13 : Array (Option Value)} (l_OWN_13 : K.lookup p_OWN_13 = some ⟨.type "tuple", o_OWN_13, .seq #[.int 3 t_OWN_13_0, .str "left" t_OWN_13_1, .str "*" t_OWN_13_2] n_OWN_13, s_OWN_13⟩) {t_OWN_14_0 : Tok} {t_OWN_14_1 : Tok} {t_OWN_14_2 : Tok} {o_OWN_14 : Option Addr} {n_OWN_14 : Nat} {s_OWN_14 : Array (Option Value)} (l_OWN_14 : K.lookup p_OWN_14 = some ⟨.type "tuple", o_OWN_14, .seq #[.int 3 t_OWN_14_0, .str "left" t_OWN_14_1, .str "//" t_OWN_14_2] n_OWN_14, s_OWN_14⟩) {t_OWN_15_0 : Tok} {t_OWN_15_1 : Tok} {t_OWN_15_2 : Tok} {o_OWN_15 : Option Addr} {n_OWN_15 : Nat} {s_OWN_15 : Array (Option Value)} (l_OWN_15 : K.lookup p_OWN_15 = some ⟨.type "tuple", o_OWN_15, .seq #[.int 3 t_OWN_15_0, .str "left" t_OWN_15_1, .str "mod" t_OWN_15_2] n_OWN_15, s_OWN_15⟩) {o_OWN : Option Addr} {n_OWN : Nat} {s_OWN : Array (Option Value)} (l_OWN : K.lookup p_OWN = some ⟨.type "tuple", o_OWN, .seq #[.ref p_OWN_0, .ref p_OWN_1, .ref p_OWN_2, .ref p_OWN_3, .ref p_OWN_4, .ref p_OWN_5, .ref p_OWN_6, .ref p_OWN_7, .ref p_OWN_8, .ref p_OWN_9, .ref p_OWN_10, .ref p_OWN_11, .ref p_OWN_12, .ref p_OWN_13, .ref p_OWN_14, .ref p_OWN_15] n_OWN, s_OWN⟩) (g_OWN : PySem.W.nsIn K mainGlobals "OWN" = some (some (.ref p_OWN)))
    {C_BadOperator N_BadOperator I_BadOperator : Addr} {nm_BadOperator q_BadOperator : Str} {bs_BadOperator : List Value} {sn_BadOperator : List Str} {sub_BadOperator : List Value} {ab_BadOperator : Bool} {col_BadOperator : Option Bool} {dd_BadOperator : Option Addr} {k0_BadOperator k1_BadOperator k2_BadOperator k3_BadOperator k5_BadOperator : Option Value}
    (m_BadOperator : PySem.W.nsIn K mainGlobals "BadOperator" = some (some (.ref C_BadOperator)))
    (x_BadOperator : K.lookup C_BadOperator = some (excClassObj nm_BadOperator q_BadOperator C_BadOperator N_BadOperator bs_BadOperator [.ref B_GoalError, .type "ValueError", .type "Exception", .type "BaseException", .type "object"] true sn_BadOperator sub_BadOperator ab_BadOperator col_BadOperator dd_BadOperator k0_BadOperator k1_BadOperator k2_BadOperator k3_BadOperator k5_BadOperator "ValueError.__new__"))
    (sa_BadOperator : PySem.W.findIn K (.ref C_BadOperator) "__setattr__" = some (some (.builtin "object.__setattr__"))) (ga_BadOperator : PySem.W.findIn K (.ref C_BadOperator) "__getattribute__" = some (some (.builtin "BaseException.__getattribute__"))) (gg_BadOperator : PySem.W.findIn K (.ref C_BadOperator) "__getattr__" = some none) (nf_BadOperator : PySem.W.findIn K (.ref C_BadOperator) "line" = some none)
    (ex_BadOperator : PySem.W.subIn K (.ref C_BadOperator) (.type "BaseException") = some true) (ty_BadOperator : PySem.W.typeIn K (.ref C_BadOperator) = some (.type "type")) (kc_BadOperator : PySem.W.keepIn K (.ref C_BadOperator) = true) (hd_BadOperator : PySem.W.hasDictIn K C_BadOperator = true) (ic_BadOperator : PySem.W.isClsIn K C_BadOperator = true) (ss_BadOperator : PySem.W.subIn K (.ref C_BadOperator) (.ref C_BadOperator) = some true)
    (i_BadOperator : PySem.W.findIn K (.ref C_BadOperator) "__init__" = some (some (.ref I_BadOperator))) (ti_BadOperator : PySem.W.typeIn K (.ref I_BadOperator) = some (.type "function"))
    {od_BadOperator an_BadOperator : Option Addr} {sl_BadOperator : Array (Option Value)} {oc_BadOperator kV_BadOperator dc_BadOperator pm_BadOperator cd_BadOperator ct_BadOperator : Value}
    (l_BadOperator : K.lookup I_BadOperator = some ⟨oc_BadOperator, od_BadOperator, .func (PySem.W.fnOf "__init__" "BadOperator.__init__" (defArgs s_BadOperator) (defBody s_BadOperator) (defScope s_BadOperator) .none kV_BadOperator dc_BadOperator pm_BadOperator an_BadOperator cd_BadOperator ct_BadOperator), sl_BadOperator⟩) (c_BadOperator : PySem.W.codeIn K cd_BadOperator "BadOperator.__init__" = true) (k_BadOperator : PySem.W.keepIn K (.ref I_BadOperator) = true) :
    ∃ fd : FuncData, (∀ (s : Shared) (v : Value), BindsTo s fd ⟨[v], []⟩ [("script", v)]) ∧ ∀ base : Heap, K.In base → base.Ns mainGlobals mg → FnOk l.prog w K mg base CX0 6 fa fd ["script"] (spLaw K) := by
  have e := hfa.symm.trans (PySem.W.mg_of X G a17)
  cases e
  have T : Txt mg := ⟨PySem.W.mg_none_of X G z_all, PySem.W.mg_none_of X G z_bool, PySem.W.mg_none_of X G z_enumerate, PySem.W.mg_none_of X G z_int, PySem.W.mg_none_of X G z_isinstance, PySem.W.mg_none_of X G z_len, PySem.W.mg_none_of X G z_list, PySem.W.mg_none_of X G z_range, PySem.W.mg_none_of X G z_str, PySem.W.mg_none_of X G z_tuple, ⟨_, PySem.W.mg_of X G g_OPERATORS⟩⟩
  have TR : TxR K mg := by
    have V0 : ∀ H, SqT K H p_KEPT (keptL.map V.str) := fun H => .inr ⟨_, _, _, l_KEPT, rfl, rfl, sz (Nat.le_of_ble_eq_true rfl), by repeat (first | exact .nil | refine .cons ⟨_, rfl⟩ ?_)⟩
    refine ⟨⟨_, PySem.W.mg_of X G g_KEPT, V0⟩, ⟨_, [.ref p_OWN_0, .ref p_OWN_1, .ref p_OWN_2, .ref p_OWN_3, .ref p_OWN_4, .ref p_OWN_5, .ref p_OWN_6, .ref p_OWN_7, .ref p_OWN_8, .ref p_OWN_9, .ref p_OWN_10, .ref p_OWN_11, .ref p_OWN_12, .ref p_OWN_13, .ref p_OWN_14, .ref p_OWN_15], PySem.W.mg_of X G g_OWN, fun H => .inr ⟨_, _, _, l_OWN, rfl, rfl, sz (Nat.le_of_ble_eq_true rfl), by repeat (first | exact .nil | refine .cons rfl ?_)⟩, fun H => ?_⟩⟩
    exact .cons (.inr ⟨_, _, _, l_OWN_0, rfl, rfl, sz (Nat.le_of_ble_eq_true rfl), by repeat (first | exact .nil | refine .cons ⟨_, rfl⟩ ?_)⟩) <| .cons (.inr ⟨_, _, _, l_OWN_1, rfl, rfl, sz (Nat.le_of_ble_eq_true rfl), by repeat (first | exact .nil | refine .cons ⟨_, rfl⟩ ?_)⟩) <| .cons (.inr ⟨_, _, _, l_OWN_2, rfl, rfl, sz (Nat.le_of_ble_eq_true rfl), by repeat (first | exact .nil | refine .cons ⟨_, rfl⟩ ?_)⟩) <| .cons (.inr ⟨_, _, _, l_OWN_3, rfl, rfl, sz (Nat.le_of_ble_eq_true rfl), by repeat (first | exact .nil | refine .cons ⟨_, rfl⟩ ?_)⟩) <| .cons (.inr ⟨_, _, _, l_OWN_4, rfl, rfl, sz (Nat.le_of_ble_eq_true rfl), by repeat (first | exact .nil | refine .cons ⟨_, rfl⟩ ?_)⟩) <| .cons (.inr ⟨_, _, _, l_OWN_5, rfl, rfl, sz (Nat.le_of_ble_eq_true rfl), by repeat (first | exact .nil | refine .cons ⟨_, rfl⟩ ?_)⟩) <| .cons (.inr ⟨_, _, _, l_OWN_6, rfl, rfl, sz (Nat.le_of_ble_eq_true rfl), by repeat (first | exact .nil | refine .cons ⟨_, rfl⟩ ?_)⟩) <| .cons (.inr ⟨_, _, _, l_OWN_7, rfl, rfl, sz (Nat.le_of_ble_eq_true rfl), by repeat (first | exact .nil | refine .cons ⟨_, rfl⟩ ?_)⟩) <| .cons (.inr ⟨_, _, _, l_OWN_8, rfl, rfl, sz (Nat.le_of_ble_eq_true rfl), by repeat (first | exact .nil | refine .cons ⟨_, rfl⟩ ?_)⟩) <| .cons (.inr ⟨_, _, _, l_OWN_9, rfl, rfl, sz (Nat.le_of_ble_eq_true rfl), by repeat (first | exact .nil | refine .cons ⟨_, rfl⟩ ?_)⟩) <| .cons (.inr ⟨_, _, _, l_OWN_10, rfl, rfl, sz (Nat.le_of_ble_eq_true rfl), by repeat (first | exact .nil | refine .cons ⟨_, rfl⟩ ?_)⟩) <| .cons (.inr ⟨_, _, _, l_OWN_11, rfl, rfl, sz (Nat.le_of_ble_eq_true rfl), by repeat (first | exact .nil | refine .cons ⟨_, rfl⟩ ?_)⟩) <| .cons (.inr ⟨_, _, _, l_OWN_12, rfl, rfl, sz (Nat.le_of_ble_eq_true rfl), by repeat (first | exact .nil | refine .cons ⟨_, rfl⟩ ?_)⟩) <| .cons (.inr ⟨_, _, _, l_OWN_13, rfl, rfl, sz (Nat.le_of_ble_eq_true rfl), by repeat (first | exact .nil | refine .cons ⟨_, rfl⟩ ?_)⟩) <| .cons (.inr ⟨_, _, _, l_OWN_14, rfl, rfl, sz (Nat.le_of_ble_eq_true rfl), by repeat (first | exact .nil | refine .cons ⟨_, rfl⟩ ?_)⟩) <| .cons (.inr ⟨_, _, _, l_OWN_15, rfl, rfl, sz (Nat.le_of_ble_eq_true rfl), by repeat (first | exact .nil | refine .cons ⟨_, rfl⟩ ?_)⟩) <| .nil
  have F0 := fun_mk (st := s_is_kept) l0 c0 k0
  have b0 := F0.binds (ps := ["part"]) fun _ _ _ _ _ _ us hl => match us, hl with | [_], _ => rfl
  have F1 := fun_mk (st := s_own) l1 c1 k1
  have b1 := F1.binds (ps := []) fun _ _ _ _ _ _ us hl => match us, hl with | [], _ => rfl
  have F2 := fun_mk (st := s_is_barred) l2 c2 k2
  have b2 := F2.binds (ps := ["operator", "earlier"]) fun _ _ _ _ _ _ us hl => match us, hl with | [_, _], _ => rfl
  have F3 := fun_mk (st := s_let_by) l3 c3 k3
  have b3 := F3.binds (ps := ["operators"]) fun _ _ _ _ _ _ us hl => match us, hl with | [_], _ => rfl
  have F4 := fun_mk (st := s_law_pool) l4 c4 k4
  have b4 := F4.binds (ps := ["script", "k"]) fun _ _ _ _ _ _ us hl => match us, hl with | [_, _], _ => rfl
  have F5 := fun_mk (st := s_law_mixed) l5 c5 k5
  have b5 := F5.binds (ps := ["pool", "turn"]) fun _ _ _ _ _ _ us hl => match us, hl with | [_, _], _ => rfl
  have F6 := fun_mk (st := s_law_take) l6 c6 k6
  have b6 := F6.binds (ps := ["pool", "many"]) fun _ _ _ _ _ _ us hl => match us, hl with | [_, _], _ => rfl
  have F7 := fun_mk (st := s_law_name) l7 c7 k7
  have b7 := F7.binds (ps := ["pool", "way"]) fun _ _ _ _ _ _ us hl => match us, hl with | [_, _], _ => rfl
  have F8 := fun_mk (st := s_law_kept) l8 c8 k8
  have b8 := F8.binds (ps := []) fun _ _ _ _ _ _ us hl => match us, hl with | [], _ => rfl
  have F9 := fun_mk (st := s_law_own) l9 c9 k9
  have b9 := F9.binds (ps := []) fun _ _ _ _ _ _ us hl => match us, hl with | [], _ => rfl
  have F10 := fun_mk (st := s_law_alike) l10 c10 k10
  have b10 := F10.binds (ps := ["found", "due"]) fun _ _ _ _ _ _ us hl => match us, hl with | [_, _], _ => rfl
  have F11 := fun_mk (st := s_law_rows) l11 c11 k11
  have b11 := F11.binds (ps := ["found", "due"]) fun _ _ _ _ _ _ us hl => match us, hl with | [_, _], _ => rfl
  have F12 := fun_mk (st := s_law_any_name) l12 c12 k12
  have b12 := F12.binds (ps := ["pool", "ops", "mixed"]) fun _ _ _ _ _ _ us hl => match us, hl with | [_, _, _], _ => rfl
  have F13 := fun_mk (st := s_law_any_ops) l13 c13 k13
  have b13 := F13.binds (ps := ["pool"]) fun _ _ _ _ _ _ us hl => match us, hl with | [_], _ => rfl
  have F14 := fun_mk (st := s_law_clash) l14 c14 k14
  have b14 := F14.binds (ps := ["ops", "k"]) fun _ _ _ _ _ _ us hl => match us, hl with | [_, _], _ => rfl
  have F15 := fun_mk (st := s_law_first) l15 c15 k15
  have b15 := F15.binds (ps := ["ops"]) fun _ _ _ _ _ _ us hl => match us, hl with | [_], _ => rfl
  have F16 := fun_mk (st := s_law_told) l16 c16 k16
  have b16 := F16.binds (ps := ["ops"]) fun _ _ _ _ _ _ us hl => match us, hl with | [_], _ => rfl
  have F17 := fun_mk (st := s_law) l17 c17 k17
  refine ⟨PySem.W.fnOf "law" "law" (defArgs s_law) (defBody s_law) (defScope s_law) .none kV17 dc17 pm17 an17 cd17 ct17, fun s v => .of_eq rfl, fun base _ _ => ?_⟩
  have TB : BaseC K mg B_GoalError := ⟨PySem.W.mg_of X G m_GoalError, sp_GoalError, rd_GoalError, fc_GoalError⟩
  have OE_BadOperator : OexC K C_BadOperator := ⟨⟨nm_BadOperator, q_BadOperator, N_BadOperator, bs_BadOperator, _, sn_BadOperator, sub_BadOperator, ab_BadOperator, col_BadOperator, dd_BadOperator, k0_BadOperator, k1_BadOperator, k2_BadOperator, k3_BadOperator, k5_BadOperator, x_BadOperator, rfl⟩, sa_BadOperator, ex_BadOperator, ty_BadOperator, kc_BadOperator⟩
  have FI_BadOperator := fun_mk (st := s_BadOperator) l_BadOperator c_BadOperator k_BadOperator
  have bi_BadOperator := FI_BadOperator.binds (ps := ["self", "line"]) fun _ _ _ _ _ _ us hl => match us, hl with | [_, _], _ => rfl
  have E_BadOperator : HasErr l.prog w K mg base "BadOperator" "line" C_BadOperator := ⟨OE_BadOperator, PySem.W.mg_of X G m_BadOperator, ⟨ga_BadOperator, gg_BadOperator, ex_BadOperator, hd_BadOperator⟩, nf_BadOperator, exm_own ex_BadOperator ic_BadOperator ty_BadOperator ss_BadOperator, I_BadOperator, _, i_BadOperator, ti_BadOperator, ok_init_BadOperator FI_BadOperator TB OE_BadOperator nf_BadOperator, bi_BadOperator⟩
  have C_is_kept : HasIsKept l.prog w K mg base := ⟨f0, _, ok_is_kept F0 TR, b0, k0, PySem.W.mg_of X G a0⟩
  have C_own : HasOwn l.prog w K mg base := ⟨f1, _, ok_own F1 T TR, b1, k1, PySem.W.mg_of X G a1⟩
  have C_is_barred : HasBarred l.prog w K mg base := ⟨f2, _, ok_is_barred F2 C_is_kept, b2, k2, PySem.W.mg_of X G a2⟩
  have C_let_by : HasLetBy C_BadOperator l.prog w K mg base := ⟨f3, _, ok_let_by F3 T C_own C_is_barred E_BadOperator, b3, k3, PySem.W.mg_of X G a3⟩
  have C_law_pool : HasPool l.prog w K mg base := ⟨f4, _, ok_law_pool F4 T, b4, k4, PySem.W.mg_of X G a4⟩
  have C_law_mixed : HasMixed l.prog w K mg base := ⟨f5, _, ok_law_mixed F5 , b5, k5, PySem.W.mg_of X G a5⟩
  have C_law_take : HasTake l.prog w K mg base := ⟨f6, _, ok_law_take F6 T C_law_mixed, b6, k6, PySem.W.mg_of X G a6⟩
  have C_law_name : HasName l.prog w K mg base := ⟨f7, _, ok_law_name F7 T C_law_take, b7, k7, PySem.W.mg_of X G a7⟩
  have C_law_kept : HasKept l.prog w K mg base := ⟨f8, _, ok_law_kept F8 , b8, k8, PySem.W.mg_of X G a8⟩
  have C_law_own : HasLOwn l.prog w K mg base := ⟨f9, _, ok_law_own F9 , b9, k9, PySem.W.mg_of X G a9⟩
  have C_law_alike : HasAlike 2 l.prog w K mg base := ⟨f10, _, ok_law_alike F10 T b10 k10 (PySem.W.mg_of X G a10) 2, b10, k10, PySem.W.mg_of X G a10⟩
  have C_law_rows : HasRows l.prog w K mg base := ⟨f11, _, ok_law_rows F11 T C_law_alike, b11, k11, PySem.W.mg_of X G a11⟩
  have C_law_any_name : HasAnyName l.prog w K mg base := ⟨f12, _, ok_law_any_name F12 T C_law_take C_law_kept C_law_own C_law_name, b12, k12, PySem.W.mg_of X G a12⟩
  have C_law_any_ops : HasAnyOps l.prog w K mg base := ⟨f13, _, ok_law_any_ops F13 T C_law_take C_law_own C_law_any_name, b13, k13, PySem.W.mg_of X G a13⟩
  have C_law_clash : HasClash l.prog w K mg base := ⟨f14, _, ok_law_clash F14 C_law_kept C_law_own, b14, k14, PySem.W.mg_of X G a14⟩
  have C_law_first : HasFirst l.prog w K mg base := ⟨f15, _, ok_law_first F15 T C_law_clash, b15, k15, PySem.W.mg_of X G a15⟩
  have C_law_told : HasTold l.prog w K mg base := ⟨f16, _, ok_law_told F16 C_let_by E_BadOperator, b16, k16, PySem.W.mg_of X G a16⟩
  exact ok_law F17 T C_law_pool C_law_any_ops C_own C_law_own C_law_rows C_law_told C_law_first C_law_alike
end Gs
open PySem PySem.W PyProof.Rows
set_option maxRecDepth 100000 in
set_option maxHeartbeats 0 in
theorem PySem.Challenge.cw_goalstead_k09_operators_let_by_holds : PySem.Challenge.rw_goalstead_k09_operators_let_by.Holds := by
  w_on; o_law; k_head; (case hw => w_witness2)
  k_fill
  refine L2.walk_of (l := PySem.Challenge.rw_goalstead_k09_operators_let_by) (n := 63) (k := 6) (x := "script") (CX := fun _ => L2.CX0) (sp := fun w => Gs.spLaw _) rfl (by decide) rfl ⟨rfl, by decide, by decide⟩ (fun w h Y => PySem.W.kIn_of Y) ?F (fun _ _ a ns hl _ hS => ⟨a, ns, rfl, hS, hl, fun _ => rfl⟩) (fun _ _ _ _ _ h => h)
  case F =>
    intro w mg fa h KX G hmg
    refine' Gs.all_mk KX G hmg (m_GoalError := ?m_GoalError) (sp_GoalError := ?sp_GoalError) (rd_GoalError := ?rd_GoalError) (fc_GoalError := ?fc_GoalError) (a0 := ?a0) (l0 := ?l0) (c0 := ?c0) (k0 := ?k0) (a1 := ?a1) (l1 := ?l1) (c1 := ?c1) (k1 := ?k1) (a2 := ?a2) (l2 := ?l2) (c2 := ?c2) (k2 := ?k2) (a3 := ?a3) (l3 := ?l3) (c3 := ?c3) (k3 := ?k3) (a4 := ?a4) (l4 := ?l4) (c4 := ?c4) (k4 := ?k4) (a5 := ?a5) (l5 := ?l5) (c5 := ?c5) (k5 := ?k5) (a6 := ?a6) (l6 := ?l6) (c6 := ?c6) (k6 := ?k6) (a7 := ?a7) (l7 := ?l7) (c7 := ?c7) (k7 := ?k7) (a8 := ?a8) (l8 := ?l8) (c8 := ?c8) (k8 := ?k8) (a9 := ?a9) (l9 := ?l9) (c9 := ?c9) (k9 := ?k9) (a10 := ?a10) (l10 := ?l10) (c10 := ?c10) (k10 := ?k10) (a11 := ?a11) (l11 := ?l11) (c11 := ?c11) (k11 := ?k11) (a12 := ?a12) (l12 := ?l12) (c12 := ?c12) (k12 := ?k12) (a13 := ?a13) (l13 := ?l13) (c13 := ?c13) (k13 := ?k13) (a14 := ?a14) (l14 := ?l14) (c14 := ?c14) (k14 := ?k14) (a15 := ?a15) (l15 := ?l15) (c15 := ?c15) (k15 := ?k15) (a16 := ?a16) (l16 := ?l16) (c16 := ?c16) (k16 := ?k16) (a17 := ?a17) (l17 := ?l17) (c17 := ?c17) (k17 := ?k17) (z_all := ?z_all) (z_bool := ?z_bool) (z_enumerate := ?z_enumerate) (z_int := ?z_int) (z_isinstance := ?z_isinstance) (z_len := ?z_len) (z_list := ?z_list) (z_range := ?z_range) (z_str := ?z_str) (z_tuple := ?z_tuple) (g_KEPT := ?g_KEPT) (l_KEPT := ?l_KEPT) (g_OPERATORS := ?g_OPERATORS) (g_OWN := ?g_OWN) (l_OWN := ?l_OWN) (l_OWN_15 := ?l_OWN_15) (l_OWN_14 := ?l_OWN_14) (l_OWN_13 := ?l_OWN_13) (l_OWN_12 := ?l_OWN_12) (l_OWN_11 := ?l_OWN_11) (l_OWN_10 := ?l_OWN_10) (l_OWN_9 := ?l_OWN_9) (l_OWN_8 := ?l_OWN_8) (l_OWN_7 := ?l_OWN_7) (l_OWN_6 := ?l_OWN_6) (l_OWN_5 := ?l_OWN_5) (l_OWN_4 := ?l_OWN_4) (l_OWN_3 := ?l_OWN_3) (l_OWN_2 := ?l_OWN_2) (l_OWN_1 := ?l_OWN_1) (l_OWN_0 := ?l_OWN_0) (m_BadOperator := ?m_BadOperator) (x_BadOperator := ?x_BadOperator) (sa_BadOperator := ?sa_BadOperator) (ga_BadOperator := ?ga_BadOperator) (gg_BadOperator := ?gg_BadOperator) (nf_BadOperator := ?nf_BadOperator) (ex_BadOperator := ?ex_BadOperator) (ty_BadOperator := ?ty_BadOperator) (kc_BadOperator := ?kc_BadOperator) (hd_BadOperator := ?hd_BadOperator) (ic_BadOperator := ?ic_BadOperator) (ss_BadOperator := ?ss_BadOperator) (i_BadOperator := ?i_BadOperator) (ti_BadOperator := ?ti_BadOperator) (l_BadOperator := ?l_BadOperator) (c_BadOperator := ?c_BadOperator) (k_BadOperator := ?k_BadOperator)
    (case m_GoalError => k_is)
    (case sp_GoalError => k_is)
    (case rd_GoalError => k_is)
    (case fc_GoalError => k_is)
    (case a0 => k_is)
    (case l0 => k_is)
    (case c0 => k_is)
    (case k0 => k_is)
    (case a1 => k_is)
    (case l1 => k_is)
    (case c1 => k_is)
    (case k1 => k_is)
    (case a2 => k_is)
    (case l2 => k_is)
    (case c2 => k_is)
    (case k2 => k_is)
    (case a3 => k_is)
    (case l3 => k_is)
    (case c3 => k_is)
    (case k3 => k_is)
    (case a4 => k_is)
    (case l4 => k_is)
    (case c4 => k_is)
    (case k4 => k_is)
    (case a5 => k_is)
    (case l5 => k_is)
    (case c5 => k_is)
    (case k5 => k_is)
    (case a6 => k_is)
    (case l6 => k_is)
    (case c6 => k_is)
    (case k6 => k_is)
    (case a7 => k_is)
    (case l7 => k_is)
    (case c7 => k_is)
    (case k7 => k_is)
    (case a8 => k_is)
    (case l8 => k_is)
    (case c8 => k_is)
    (case k8 => k_is)
    (case a9 => k_is)
    (case l9 => k_is)
    (case c9 => k_is)
    (case k9 => k_is)
    (case a10 => k_is)
    (case l10 => k_is)
    (case c10 => k_is)
    (case k10 => k_is)
    (case a11 => k_is)
    (case l11 => k_is)
    (case c11 => k_is)
    (case k11 => k_is)
    (case a12 => k_is)
    (case l12 => k_is)
    (case c12 => k_is)
    (case k12 => k_is)
    (case a13 => k_is)
    (case l13 => k_is)
    (case c13 => k_is)
    (case k13 => k_is)
    (case a14 => k_is)
    (case l14 => k_is)
    (case c14 => k_is)
    (case k14 => k_is)
    (case a15 => k_is)
    (case l15 => k_is)
    (case c15 => k_is)
    (case k15 => k_is)
    (case a16 => k_is)
    (case l16 => k_is)
    (case c16 => k_is)
    (case k16 => k_is)
    (case a17 => k_is)
    (case l17 => k_is)
    (case c17 => k_is)
    (case k17 => k_is)
    (case z_all => k_is)
    (case z_bool => k_is)
    (case z_enumerate => k_is)
    (case z_int => k_is)
    (case z_isinstance => k_is)
    (case z_len => k_is)
    (case z_list => k_is)
    (case z_range => k_is)
    (case z_str => k_is)
    (case z_tuple => k_is)
    (case g_KEPT => k_is)
    (case l_KEPT => k_is)
    (case g_OPERATORS => k_is)
    (case g_OWN => k_is)
    (case l_OWN => k_is)
    (case l_OWN_15 => k_is)
    (case l_OWN_14 => k_is)
    (case l_OWN_13 => k_is)
    (case l_OWN_12 => k_is)
    (case l_OWN_11 => k_is)
    (case l_OWN_10 => k_is)
    (case l_OWN_9 => k_is)
    (case l_OWN_8 => k_is)
    (case l_OWN_7 => k_is)
    (case l_OWN_6 => k_is)
    (case l_OWN_5 => k_is)
    (case l_OWN_4 => k_is)
    (case l_OWN_3 => k_is)
    (case l_OWN_2 => k_is)
    (case l_OWN_1 => k_is)
    (case l_OWN_0 => k_is)
    (case m_BadOperator => k_is)
    (case x_BadOperator => k_is)
    (case sa_BadOperator => k_is)
    (case ga_BadOperator => k_is)
    (case gg_BadOperator => k_is)
    (case nf_BadOperator => k_is)
    (case ex_BadOperator => k_is)
    (case ty_BadOperator => k_is)
    (case kc_BadOperator => k_is)
    (case hd_BadOperator => k_is)
    (case ic_BadOperator => k_is)
    (case ss_BadOperator => first | rfl | k_is)
    (case i_BadOperator => k_is)
    (case ti_BadOperator => k_is)
    (case l_BadOperator => k_is)
    (case c_BadOperator => k_is)
    (case k_BadOperator => k_is)

