import PyProof.Rows.All
import Wide.All
import OpenK.AllK
import Wide.FinOn
import PyProof.StrBlock2
import HandS.ForMost
import HandS.IsInst
import HandS.Wide
import HandS.Defaults
import HandS.Evl
import PySem.Challenge.RW_goalstead_k06_pieces_of_a_line
set_option Elab.async false
set_option linter.all false
set_option maxRecDepth 100000
namespace Gs
open PySem PySem.Spec PyProof.Rows L2

/-! ### rules of our own -/
section
variable {X : Cx} {x : Str} {p pos : Pos} {e : Expr} {es : List Expr} {t : TA}
theorem pe_globI {n : Int} (hg : Gl X x) (hm : ∃ t, X.mg x = some (.int n t)) (hd : (x == ("__debug__" : Str)) = false := by decide) : PE X (.Name x pos) (tC (.int n)) := by
  obtain ⟨t, h⟩ := hm
  exact pe_glob hg h ⟨t, rfl⟩ hd
theorem pe_globS {z : Str} (hg : Gl X x) (hm : ∃ t, X.mg x = some (.str z t)) (hd : (x == ("__debug__" : Str)) = false := by decide) : PE X (.Name x pos) (tC (.str z)) := by
  obtain ⟨t, h⟩ := hm
  exact pe_glob hg h ⟨t, rfl⟩ hd
/-- a def of the text that keeps the promise sp, found by its name -/
structure Has (P : Program) (w : World) (K : PySem.W.Frag) (mg : Str → Option Value) (base : Heap) (k : Nat) (x : Str) (ps : List Str) (sp : Sp) : Prop where
  ex : ∃ (f : Addr) (fd : FuncData), FnOk P w K mg base CX0 k f fd ps sp ∧ Binds K fd ps [] ∧ PySem.W.keepIn K (.ref f) = true ∧ mg x = some (.ref f)
theorem pe_callH {k j : Nat} {ps : List Str} {sp : Sp} (C : Has X.prog X.w X.K X.mg X.base k x ps sp) (hr : Room j X.A) (ha : PA X (e :: es) t) (hk : k ≤ j := by decide) (hg : Gl X x := by rfl) (hdb : (x == ("__debug__" : Str)) = false := by decide)
    (he : starEach (e :: es) X.env = (false, eval e X.env) :: starEach es X.env := by rfl) (hpl : (backTo pos (starEach es X.env)).any (·.1) = false := by rfl) :
    PE X (.Call (.Name x p) (e :: es) [] pos) (tCall sp [] E0 t) := by
  obtain ⟨f, fd, F, b, kp, m⟩ := C.ex
  exact pe_call F (hr.mono hk) hg m kp b .nil pass0 ha hdb he hpl
theorem pe_callH0 {k j : Nat} {ps : List Str} {sp : Sp} (C : Has X.prog X.w X.K X.mg X.base k x ps sp) (hr : Room j X.A) (hk : k ≤ j := by decide) (hg : Gl X x := by rfl) (hdb : (x == ("__debug__" : Str)) = false := by decide) :
    PE X (.Call (.Name x p) [] [] pos) (tCall sp [] E0 tNil) := by
  obtain ⟨f, fd, F, b, kp, m⟩ := C.ex
  exact pe_call0 F (hr.mono hk) hg m kp b .nil pass0 hdb
def rStrMul : R2 := fun x y H Q => ∃ z n, x = .str z ∧ y = .int n ∧ MulOk z n ∧ Q (.str (Txt.mul z n)) H
theorem op_strMul : OpR X (binaryOp .Mult) rStrMul := by
  intro pins s σ H x y v u Q I rx ry h
  obtain ⟨z, n, rfl, rfl, hok, q⟩ := h
  obtain ⟨t, rfl⟩ := rx
  obtain ⟨t', rfl⟩ := ry
  exact PySem.SB.mul hok fun t2 k => ⟨.str _, H, I.tok k, ⟨_, rfl⟩, q⟩
end

/-! ### steps of a reading -/
section
variable {σ : L2.St} {H : Hp} {v x y : V} {Q : VK} {i : Nat} {ta tb te : TE} {tr : TA} {r : R2} {D : Ends} {t1 t2 : TS} {g : TG} {tt tu : TT} {R : Bool → Hp → Prop} {QA : List V → Hp → Prop}
theorem x_var (h : σ[i]? = some (some v)) (q : Q v H) : tVar i σ H Q := ⟨v, h, q⟩
theorem x_c (q : Q v H) : tC v σ H Q := q
theorem x_op (q : ta σ H fun x H1 => tb σ H1 fun y H2 => r x y H2 Q) : tOp r ta tb σ H Q := q
theorem x_un {ru : V → Hp → VK → Prop} (q : ta σ H fun x H1 => ru x H1 Q) : tUn ru ta σ H Q := q
theorem x_i0 {f : Int → Int → V} {a b : Int} (q : Q (f a b) H) : rI0 f (.int a) (.int b) H Q := ⟨a, b, rfl, rfl, q⟩
theorem x_i {C : Int → Int → Prop} {f : Int → Int → V} {a b : Int} (c : C a b) (q : Q (f a b) H) : rI C f (.int a) (.int b) H Q := ⟨a, b, rfl, rfl, c, q⟩
theorem x_u {f : Int → V} {a : Int} (q : Q (f a) H) : rU f (.int a) H Q := ⟨a, rfl, q⟩
theorem x_eq (hs : scal x y = true) (q : Q (.bl (decide (x = y))) H) : rEq x y H Q := ⟨hs, q⟩
theorem x_ne (hs : scal x y = true) (q : Q (.bl (!decide (x = y))) H) : rNe x y H Q := ⟨hs, q⟩
theorem x_nil (q : QA [] H) : tNil σ H QA := q
theorem x_cons (q : ta σ H fun x H1 => tr σ H1 fun xs H2 => QA (x :: xs) H2) : tCons ta tr σ H QA := q
theorem x_call {sp : Sp} {dvs : List V} {E : XK} (q : tr σ H fun vs H1 => sp (vs ++ dvs) H1 Q E) : tCall sp dvs E tr σ H Q := q
theorem x_cb {rc : List V → Hp → VK → Prop} (q : tr σ H fun vs H1 => rc vs H1 Q) : tCB rc tr σ H Q := q
theorem x_test (q : te σ H fun x H1 => ∃ k, x = .bl k ∧ R k H1) : tTest te σ H R := q
theorem x_B (q : te σ H fun x H1 => ∃ k, x = .bl k ∧ R k H1) : tB te σ H R := q
theorem x_isb {b : Bool} (q : R b H) : ∃ k, V.bl b = .bl k ∧ R k H := ⟨b, rfl, q⟩
theorem x_and (q : tt σ H fun c H1 => if c = true then tu σ H1 R else R false H1) : tAnd tt tu σ H R := q
theorem x_or (q : tt σ H fun c H1 => if c = true then R true H1 else tu σ H1 R) : tOr tt tu σ H R := q
theorem x_not (q : tt σ H fun c H1 => R (!c) H1) : tNot tt σ H R := q
theorem x_ifE (q : tt σ H fun c H1 => if c = true then ta σ H1 Q else tb σ H1 Q) : tIf tt ta tb σ H Q := q
theorem x_andV (q : ta σ H fun x H1 => ∃ c, x = .bl c ∧ if c = true then tb σ H1 Q else Q (.bl false) H1) : tAndV ta tb σ H Q := q
theorem x_orV (q : ta σ H fun x H1 => ∃ c, x = .bl c ∧ if c = true then Q (.bl true) H1 else tb σ H1 Q) : tOrV ta tb σ H Q := q
theorem x_notV (q : ta σ H fun x H1 => ∃ c, x = .bl c ∧ Q (.bl (!c)) H1) : tNotV ta σ H Q := q
theorem x_isbI {b : Bool} {A B : Bool → Hp → Prop} (q : if b = true then A b H else B b H) : ∃ k, V.bl b = .bl k ∧ if k = true then A k H else B k H := ⟨b, rfl, q⟩
theorem x_ex {b : Bool} {A : Bool → Prop} (q : A b) : ∃ k, V.bl b = .bl k ∧ A k := ⟨b, rfl, q⟩
theorem x_cut {M : L2.St → Hp → Prop} (q : t1 { D with nx := M } σ H) (k : ∀ σ' H', M σ' H' → t2 D σ' H') : Evl.tCut t1 t2 D σ H := ⟨M, q, k⟩
theorem x_seq (q : t1 { D with nx := t2 D } σ H) : tSeq t1 t2 D σ H := q
theorem x_next (q : D.nx σ H) : tNext D σ H := q
theorem x_brk (q : D.bk σ H) : tBreak D σ H := q
theorem x_cont (q : D.ct σ H) : tCont D σ H := q
theorem x_asg (q : te σ H fun x H1 => g x σ H1 D.nx) : tAsg te g D σ H := q
theorem x_drop (q : te σ H fun _ H1 => D.nx σ H1) : tDrop te D σ H := q
theorem x_ret (q : te σ H D.rt) : tRet te D σ H := q
theorem x_retN (q : D.rt .non H) : tRetN D σ H := q
theorem x_ifS (q : tt σ H fun b H1 => if b = true then t1 D σ H1 else t2 D σ H1) : tIfS tt t1 t2 D σ H := q
theorem x_gn {k : L2.St → Hp → Prop} (q : k (σ.set i (some v)) H) : gName i v σ H k := q
theorem x_gsub {to ti : TE} {st : TSet} {k : L2.St → Hp → Prop} (q : to σ H fun o H1 => ti σ H1 fun i H2 => st o i v H2 fun H3 => k σ H3) : gSub to ti st v σ H k := q
theorem x_aug {ip : TIp} (h : σ[i]? = some (some x)) (q : te σ H fun y H1 => ip x y H1 fun z H2 => D.nx (σ.set i (some z)) H2) : tAug i te ip D σ H := ⟨x, h, q⟩
theorem x_ixL {K : PySem.W.Frag} {p : Addr} {xs : List V} {a : Int} (h : SqL K H p xs) (ha : atI xs a = some v) (q : Q v H) : rIxL K (.ref p) (.int a) H Q := ⟨p, xs, a, v, rfl, rfl, h, ha, q⟩
theorem x_ixT {K : PySem.W.Frag} {p : Addr} {xs : List V} {a : Int} (h : SqT K H p xs) (ha : atI xs a = some v) (q : Q v H) : rIxT K (.ref p) (.int a) H Q := ⟨p, xs, a, v, rfl, rfl, h, ha, q⟩
theorem x_ixS {z : Str} {a : Int} {c : Nat} (h : z.length ≤ sizeLine) (ha : atI z.cps.toList a = some c) (q : Q (.str ⟨#[c]⟩) H) : rIxS (.str z) (.int a) H Q := ⟨z, a, c, rfl, rfl, h, ha, q⟩
theorem x_setL {p : Addr} {xs : List V} {a : Int} {j : Nat} {k : Hp → Prop} (h : H p = some (.lst xs)) (hi : ixN xs.length a = some j) (q : k (upd H p (.lst (xs.set j v)))) : rSetL (.ref p) (.int a) v H k := ⟨p, xs, a, j, rfl, rfl, h, hi, q⟩
theorem x_lst (q : tr σ H fun xs H1 => xs.length ≤ sizeLine ∧ ∀ p, H1 p = none → Q (.ref p) (upd H1 p (.lst xs))) : tLst tr σ H Q := q
theorem x_tup (q : tr σ H fun xs H1 => xs.length ≤ sizeLine ∧ ∀ p, H1 p = none → Q (.ref p) (upd H1 p (.tup xs))) : tTup tr σ H Q := q
theorem x_sl {rs : V → Option Int → Option Int → Hp → VK → Prop} {tl th : TO} (q : te σ H fun x H1 => tl σ H1 fun l H2 => th σ H2 fun u H3 => rs x l u H3 Q) : tSl rs te tl th σ H Q := q
theorem x_part {k : Option Int → Hp → Prop} (q : te σ H fun x H1 => ∃ i, x = .int i ∧ k (some i) H1) : tPart te σ H k := q
theorem x_isi {a : Int} {k : Option Int → Hp → Prop} (q : k (some a) H) : ∃ i, V.int a = .int i ∧ k (some i) H := ⟨a, rfl, q⟩
theorem x_exI {a : Int} {A : Int → Prop} (q : A a) : ∃ i, V.int a = .int i ∧ A i := ⟨a, rfl, q⟩
theorem x_slL {K : PySem.W.Frag} {a : Addr} {xs : List V} {lo hi : Option Int} (h : SqL K H a xs) (q : ∀ p, H p = none → Q (.ref p) (upd H p (.lst (cutV xs lo hi)))) : rSlL K (.ref a) lo hi H Q := ⟨a, xs, rfl, h, q⟩
theorem x_slS {z : Str} {lo hi : Option Int} (h : z.length ≤ sizeLine) (q : Q (.str (cutS z lo hi)) H) : rSlS (.str z) lo hi H Q := ⟨z, rfl, h, q⟩
theorem x_nopart {k : Option Int → Hp → Prop} (q : k none H) : tNoPart σ H k := q
theorem x_bm {K : PySem.W.Frag} {T : String} {rm : V → List V → Hp → VK → Prop} {to : TE} (q : to σ H fun x H1 => tyV K T x H1 ∧ tr σ H1 fun xs H2 => rm x xs H2 Q) : tBM K T rm to tr σ H Q := q
theorem x_bm0 {K : PySem.W.Frag} {T : String} {rm : V → List V → Hp → VK → Prop} {to : TE} (q : to σ H fun x H1 => tyV K T x H1 ∧ rm x [] H1 Q) : tBM0 K T rm to σ H Q := q
theorem x_addS {a b : Str} {A : Str → Str → Prop} (h : a.length + b.length ≤ sizeLine) (q : A a b) : ∃ i j, V.str a = .str i ∧ V.str b = .str j ∧ i.length + j.length ≤ sizeLine ∧ A i j := ⟨a, b, rfl, rfl, h, q⟩
/-- a decided test -/
theorem x_ite {c : Prop} [Decidable c] {A B : Prop} (h1 : c → A) (h2 : ¬ c → B) : if decide c = true then A else B := by
  by_cases h : c
  · rw [if_pos (decide_eq_true h)]
    exact h1 h
  · rw [if_neg (by rw [decide_eq_false h]; decide)]
    exact h2 h
theorem x_iteN {c : Prop} [Decidable c] {A B : Prop} (h1 : ¬ c → A) (h2 : c → B) : if (!decide c) = true then A else B := by
  by_cases h : c
  · rw [if_neg (by rw [decide_eq_true h]; decide)]
    exact h2 h
  · rw [if_pos (by rw [decide_eq_false h]; rfl)]
    exact h1 h
theorem x_iteB {b : Bool} {A B : Prop} (h1 : b = true → A) (h2 : b = false → B) : if b = true then A else B := by
  cases b with
  | true => exact h1 rfl
  | false => exact h2 rfl
theorem x_iteF {A B : Prop} (h : B) : if false = true then A else B := h
theorem x_iteT {A B : Prop} (h : A) : if true = true then A else B := h
end
theorem intEq {a b : Int} : decide (V.int a = V.int b) = decide (a = b) := by
  by_cases h : a = b
  · rw [h]; simp
  · rw [decide_eq_false h, decide_eq_false]
    exact fun z => h (V.int.inj z)
end Gs
namespace Gs
open PySem PySem.Spec PyProof.Rows L2
theorem cmulW {i j : Int} (h1 : i.natAbs < 2 ^ 200) (h2 : j.natAbs < 2 ^ 200) : CMulW i j := wide_mul h1 h2 (by decide) (by decide) (by decide)
theorem cdivW {i j : Int} (h1 : 0 < j) (h2 : j.natAbs < 2 ^ 200) : CDivW i j := wide_div h1 h2 (by decide) (by decide)
theorem fmod0 {a b : Int} (h : 0 < b) : 0 ≤ a.fmod b := by rw [Int.fmod_eq_emod_of_nonneg a (by omega)]; exact Int.emod_nonneg a (by omega)
theorem fmodlt {a b : Int} (h : 0 < b) : a.fmod b < b := by rw [Int.fmod_eq_emod_of_nonneg a (by omega)]; exact Int.emod_lt_of_pos a h
theorem sz {n : Nat} (h : n ≤ 100000) : n ≤ sizeLine := Nat.le_trans h (by decide)
theorem szl {n : Nat} (h : n < 100000) : n < sizeLine := Nat.lt_of_lt_of_le h (by decide)
end Gs
namespace Gs
open PySem PySem.Spec PyProof.Rows L2
theorem at0 {α : Type} {xs : List α} {v : α} (h : xs[0]? = some v) : atI xs 0 = some v := atI_nat (j := 0) h
theorem at1 {α : Type} {xs : List α} {v : α} (h : xs[1]? = some v) : atI xs 1 = some v := atI_nat (j := 1) h
theorem at2 {α : Type} {xs : List α} {v : α} (h : xs[2]? = some v) : atI xs 2 = some v := atI_nat (j := 2) h
theorem at3 {α : Type} {xs : List α} {v : α} (h : xs[3]? = some v) : atI xs 3 = some v := atI_nat (j := 3) h
theorem at4 {α : Type} {xs : List α} {v : α} (h : xs[4]? = some v) : atI xs 4 = some v := atI_nat (j := 4) h
theorem at5 {α : Type} {xs : List α} {v : α} (h : xs[5]? = some v) : atI xs 5 = some v := atI_nat (j := 5) h
theorem at6 {α : Type} {xs : List α} {v : α} (h : xs[6]? = some v) : atI xs 6 = some v := atI_nat (j := 6) h
theorem at7 {α : Type} {xs : List α} {v : α} (h : xs[7]? = some v) : atI xs 7 = some v := atI_nat (j := 7) h
theorem at8 {α : Type} {xs : List α} {v : α} (h : xs[8]? = some v) : atI xs 8 = some v := atI_nat (j := 8) h
theorem at9 {α : Type} {xs : List α} {v : α} (h : xs[9]? = some v) : atI xs 9 = some v := atI_nat (j := 9) h
theorem ixN_of {n : Nat} {j : Nat} (h : j < n) : ixN n (j : Int) = some j := by
  unfold ixN
  rw [if_pos (by omega), if_pos (by omega)]
  simp
theorem ix0 {n : Nat} (h : 0 < n) : ixN n 0 = some 0 := ixN_of (j := 0) h
theorem ix1 {n : Nat} (h : 1 < n) : ixN n 1 = some 1 := ixN_of (j := 1) h
theorem ix2 {n : Nat} (h : 2 < n) : ixN n 2 = some 2 := ixN_of (j := 2) h
theorem ix3 {n : Nat} (h : 3 < n) : ixN n 3 = some 3 := ixN_of (j := 3) h
theorem ix4 {n : Nat} (h : 4 < n) : ixN n 4 = some 4 := ixN_of (j := 4) h
end Gs
namespace Gs
open PySem PySem.Spec PyProof.Rows L2
section
variable {H : Hp} {Q : VK} {a b : Int}
theorem x_mod (hb : 0 < b) (q : ∀ r : Int, 0 ≤ r → r < b → r = a.fmod b → Q (.int r) H) : rI (fun _ j => j ≠ 0) (fun i j => V.int (i.fmod j)) (.int a) (.int b) H Q :=
  ⟨a, b, rfl, rfl, by omega, q _ (fmod0 hb) (fmodlt hb) rfl⟩
theorem x_div (hb : CDivW a b) (q : ∀ r : Int, r = a / b → (0 ≤ a → 0 ≤ r ∧ r ≤ a) → Q (.int r) H) : rI CDivW (fun i j => V.int (i / j)) (.int a) (.int b) H Q :=
  ⟨a, b, rfl, rfl, hb, q _ rfl fun ha => ⟨Int.ediv_nonneg ha (Int.le_of_lt hb.1), Int.ediv_le_self b ha⟩⟩
end
end Gs
namespace Gs
open PySem PySem.Spec PyProof.Rows L2
section
variable {K : PySem.W.Frag} {H : Hp} {Q : VK}
theorem dpInts : ∀ ns : List Int, DpAll K H (ns.map V.int) (ns.map PyData.int)
  | [] => .nil
  | n :: r => .cons (.int n) (dpInts r)
theorem x_neNil {l q : Addr} {ns : List Int} (h : SqL K H l (ns.map V.int)) (h2 : SqL K H q []) (k : Q (.bl (!decide (ns = []))) H) : rNeD K (.ref l) (.ref q) H Q := by
  refine ⟨.list (ns.map PyData.int), .list [], .lst h (dpInts ns), .lst h2 .nil, PySem.W.ke_shaped_ints ns, PySem.W.ke_shaped_ints [], ?_⟩
  have e : PyData.eqv (.list (ns.map PyData.int)) (.list []) = decide (ns = []) := by
    cases ns with
    | nil => rfl
    | cons n r => rfl
  rw [e]
  exact k
theorem seqIx0 {n : Nat} (h : 0 < n) : seqIndex? 0 n = some 0 := (ixN_seq (ix0 h)).1
end
end Gs
namespace Gs
open PySem PySem.Spec PyProof.Rows L2
section
variable {σ : L2.St} {H : Hp} {wi : TI} {g : TG} {tb : TS} {D : Ends} {ta : TA} {te : TE} {R : It → Hp → Prop} {K : PySem.W.Frag} {Q : VK}
theorem x_for (q : wi σ H fun J H1 => ∃ W : Nat → Nat → L2.St → Hp → Prop, (∃ m, W 0 m σ H1) ∧ ∀ i m σ H, W i m σ H →
  (J.stop i H ∧ D.nx σ H) ∨ (J.go i H ∧ ∃ N : L2.St → Hp → Prop, (∀ σ' H', N σ' H' → ∃ m', m' < m ∧ W (i + 1) m' σ' H') ∧ ∀ x H', J.yld i H x H' → g x σ H' fun σ2 H2 => tb { D with nx := N, ct := N, bk := D.nx } σ2 H2)) : tFor wi g tb D σ H := q
theorem x_rng1 (q : ta σ H fun vs H1 => ∃ j : Int, vs = [.int j] ∧ -(2 ^ 62) ≤ j ∧ j < 2 ^ 62 ∧ R (Itr 0 j.toNat) H1) : iRng1 ta σ H R := q
theorem x_rng2 (q : ta σ H fun vs H1 => ∃ i j : Int, vs = [.int i, .int j] ∧ (-(2 ^ 62) ≤ i ∧ i < 2 ^ 62 ∧ -(2 ^ 62) ≤ j ∧ j < 2 ^ 62) ∧ R (Itr i (j - i).toNat) H1) : iRng2 ta σ H R := q
theorem x_ilist (q : te σ H fun x H1 => ∃ a, x = .ref a ∧ (∃ xs, SqL K H1 a xs) ∧ R (Itl K a) H1) : iList K te σ H R := q
theorem x_itup (q : te σ H fun x H1 => ∃ a, x = .ref a ∧ (∃ xs, SqT K H1 a xs) ∧ R (Itt K a) H1) : iTup K te σ H R := q
/-- for x in range(n) -/
theorem x_forR1 {n : Int} {X : L2.St → Hp → Prop} {rt : VK} (Pv : Nat → L2.St → Hp → Prop) (hn : n < 2 ^ 62) (hn0 : -(2 ^ 62) ≤ n) (h0 : Pv 0 σ H)
    (hs : ∀ (i : Nat) σ H, (i : Int) < n → Pv i σ H → g (.int (i : Int)) σ H fun σ2 H2 => tb { nx := Pv (i + 1), rt := rt, bk := X, ct := Pv (i + 1) } σ2 H2) (hd : ∀ σ H, Pv n.toNat σ H → X σ H) :
    ∃ j : Int, [V.int n] = [.int j] ∧ -(2 ^ 62) ≤ j ∧ j < 2 ^ 62 ∧ ∃ W : Nat → Nat → L2.St → Hp → Prop, (∃ m, W 0 m σ H) ∧ ∀ i m σ H, W i m σ H →
      ((Itr 0 j.toNat).stop i H ∧ X σ H) ∨ ((Itr 0 j.toNat).go i H ∧ ∃ N : L2.St → Hp → Prop, (∀ σ' H', N σ' H' → ∃ m', m' < m ∧ W (i + 1) m' σ' H') ∧ ∀ x H', (Itr 0 j.toNat).yld i H x H' → g x σ H' fun σ2 H2 => tb { nx := N, rt := rt, bk := X, ct := N } σ2 H2) :=
  ⟨n, rfl, hn0, hn, for_range (D := { nx := X, rt := rt }) (lo := 0) (n := n.toNat) Pv h0 (fun i σ' H' hi p => by
    have e : (0 : Int) + (i : Int) = (i : Int) := Int.zero_add _
    rw [e]
    exact hs i σ' H' (by omega) p) hd⟩
theorem x_forR2 {lo hi : Int} {X : L2.St → Hp → Prop} {rt : VK} (Pv : Nat → L2.St → Hp → Prop) (hn : -(2 ^ 62) ≤ lo ∧ lo < 2 ^ 62 ∧ -(2 ^ 62) ≤ hi ∧ hi < 2 ^ 62) (h0 : Pv 0 σ H)
    (hs : ∀ (i : Nat) σ H, lo + (i : Int) < hi → Pv i σ H → g (.int (lo + (i : Int))) σ H fun σ2 H2 => tb { nx := Pv (i + 1), rt := rt, bk := X, ct := Pv (i + 1) } σ2 H2) (hd : ∀ σ H, Pv (hi - lo).toNat σ H → X σ H) :
    ∃ i j : Int, [V.int lo, V.int hi] = [.int i, .int j] ∧ (-(2 ^ 62) ≤ i ∧ i < 2 ^ 62 ∧ -(2 ^ 62) ≤ j ∧ j < 2 ^ 62) ∧ ∃ W : Nat → Nat → L2.St → Hp → Prop, (∃ m, W 0 m σ H) ∧ ∀ i' m σ H, W i' m σ H →
      ((Itr i (j - i).toNat).stop i' H ∧ X σ H) ∨ ((Itr i (j - i).toNat).go i' H ∧ ∃ N : L2.St → Hp → Prop, (∀ σ' H', N σ' H' → ∃ m', m' < m ∧ W (i' + 1) m' σ' H') ∧ ∀ x H', (Itr i (j - i).toNat).yld i' H x H' → g x σ H' fun σ2 H2 => tb { nx := N, rt := rt, bk := X, ct := N } σ2 H2) :=
  ⟨lo, hi, rfl, hn, for_range (D := { nx := X, rt := rt }) (lo := lo) (n := (hi - lo).toNat) Pv h0 (fun i σ' H' hi' p => hs i σ' H' (by omega) p) hd⟩
/-- for x in a list, a tuple -/
theorem x_forL {a : Addr} {xs : List V} {X : L2.St → Hp → Prop} {rt : VK} (Pv : Nat → L2.St → Hp → Prop) (h0 : Pv 0 σ H) (hl : ∀ i σ H, i ≤ xs.length → Pv i σ H → SqL K H a xs)
    (hs : ∀ i x σ H, xs[i]? = some x → Pv i σ H → g x σ H fun σ2 H2 => tb { nx := Pv (i + 1), rt := rt, bk := X, ct := Pv (i + 1) } σ2 H2) (hd : ∀ σ H, Pv xs.length σ H → X σ H) (hS : SqL K H a xs) :
    ∃ b, V.ref a = .ref b ∧ (∃ xs, SqL K H b xs) ∧ ∃ W : Nat → Nat → L2.St → Hp → Prop, (∃ m, W 0 m σ H) ∧ ∀ i m σ H, W i m σ H →
      ((Itl K b).stop i H ∧ X σ H) ∨ ((Itl K b).go i H ∧ ∃ N : L2.St → Hp → Prop, (∀ σ' H', N σ' H' → ∃ m', m' < m ∧ W (i + 1) m' σ' H') ∧ ∀ x H', (Itl K b).yld i H x H' → g x σ H' fun σ2 H2 => tb { nx := N, rt := rt, bk := X, ct := N } σ2 H2) :=
  ⟨a, rfl, ⟨xs, hS⟩, for_list (D := { nx := X, rt := rt }) Pv h0 hl hs hd⟩
theorem x_forT {a : Addr} {xs : List V} {X : L2.St → Hp → Prop} {rt : VK} (Pv : Nat → L2.St → Hp → Prop) (h0 : Pv 0 σ H) (hl : ∀ i σ H, i ≤ xs.length → Pv i σ H → SqT K H a xs)
    (hs : ∀ i x σ H, xs[i]? = some x → Pv i σ H → g x σ H fun σ2 H2 => tb { nx := Pv (i + 1), rt := rt, bk := X, ct := Pv (i + 1) } σ2 H2) (hd : ∀ σ H, Pv xs.length σ H → X σ H) (hS : SqT K H a xs) :
    ∃ b, V.ref a = .ref b ∧ (∃ xs, SqT K H b xs) ∧ ∃ W : Nat → Nat → L2.St → Hp → Prop, (∃ m, W 0 m σ H) ∧ ∀ i m σ H, W i m σ H →
      ((Itt K b).stop i H ∧ X σ H) ∨ ((Itt K b).go i H ∧ ∃ N : L2.St → Hp → Prop, (∀ σ' H', N σ' H' → ∃ m', m' < m ∧ W (i + 1) m' σ' H') ∧ ∀ x H', (Itt K b).yld i H x H' → g x σ H' fun σ2 H2 => tb { nx := N, rt := rt, bk := X, ct := N } σ2 H2) :=
  ⟨a, rfl, ⟨xs, hS⟩, for_tup (D := { nx := X, rt := rt }) Pv h0 hl hs hd⟩
end
end Gs
namespace Gs
open PySem PySem.Spec PyProof.Rows L2
section
variable {σ : L2.St} {H : Hp} {wi : TI} {g : TG} {tt : TT} {ta : TA} {to te : TE} {K : PySem.W.Frag} {Q : VK} {vs : List Nat} {x y : V}
theorem x_lc (q : wi σ H fun J H1 => ∀ D, H1 D = none → ∃ W : Nat → Nat → Hp → Prop, (∃ m, W 0 m (upd H1 D (.lst []))) ∧ ∀ i m H, W i m H →
  (J.stop i H ∧ Q (.ref D) H) ∨ (J.go i H ∧ ∃ Nx : Hp → Prop, (∀ H', Nx H' → ∃ m', m' < m ∧ W (i + 1) m' H') ∧ ∀ x H', J.yld i H x H' → g x (wipe σ vs) H' fun σ2 H2 => wipe σ2 vs = wipe σ vs ∧ tt σ2 H2 fun b H3 =>
    if b = true then te σ2 H3 fun y H4 => ∃ acc, H4 D = some (.lst acc) ∧ acc.length < sizeLine ∧ Nx (upd H4 D (.lst (acc ++ [y]))) else Nx H3)) : tLc wi g tt te vs σ H Q := q
theorem x_yes {R : Bool → Hp → Prop} (q : R true H) : tYes σ H R := q
theorem x_lcR1 {n : Int} {Qd : Addr → Hp → Prop} (Pv : Addr → Nat → Hp → Prop) (hn0 : -(2 ^ 62) ≤ n) (hn : n < 2 ^ 62) (h0 : ∀ D, H D = none → Pv D 0 (upd H D (.lst [])))
    (hs : ∀ D, H D = none → ∀ (i : Nat) H', (i : Int) < n → Pv D i H' → g (.int (i : Int)) (wipe σ vs) H' fun σ2 H2 => wipe σ2 vs = wipe σ vs ∧ tt σ2 H2 fun b H3 =>
      if b = true then te σ2 H3 fun y H4 => ∃ acc, H4 D = some (.lst acc) ∧ acc.length < sizeLine ∧ Pv D (i + 1) (upd H4 D (.lst (acc ++ [y]))) else Pv D (i + 1) H3) (hd : ∀ D, H D = none → ∀ H', Pv D n.toNat H' → Qd D H') :
    ∃ j : Int, [V.int n] = [.int j] ∧ -(2 ^ 62) ≤ j ∧ j < 2 ^ 62 ∧ ∀ D, H D = none → ∃ W : Nat → Nat → Hp → Prop, (∃ m, W 0 m (upd H D (.lst []))) ∧ ∀ i m H, W i m H →
      ((Itr 0 j.toNat).stop i H ∧ Qd D H) ∨ ((Itr 0 j.toNat).go i H ∧ ∃ Nx : Hp → Prop, (∀ H', Nx H' → ∃ m', m' < m ∧ W (i + 1) m' H') ∧ ∀ x H', (Itr 0 j.toNat).yld i H x H' → g x (wipe σ vs) H' fun σ2 H2 => wipe σ2 vs = wipe σ vs ∧ tt σ2 H2 fun b H3 =>
        if b = true then te σ2 H3 fun y H4 => ∃ acc, H4 D = some (.lst acc) ∧ acc.length < sizeLine ∧ Nx (upd H4 D (.lst (acc ++ [y]))) else Nx H3) :=
  ⟨n, rfl, hn0, hn, fun D hD => lc_range (lo := 0) (n := n.toNat) (Pv D) (h0 D hD) (fun i H' hi p => by
    have e : (0 : Int) + (i : Int) = (i : Int) := Int.zero_add _
    rw [e]
    exact hs D hD i H' (by omega) p) (hd D hD)⟩
theorem x_lcL {Qd : Addr → Hp → Prop} {a : Addr} {xs : List V} (Pv : Addr → Nat → Hp → Prop) (hS : SqL K H a xs) (h0 : ∀ D, H D = none → Pv D 0 (upd H D (.lst []))) (hl : ∀ D, H D = none → ∀ i H', i ≤ xs.length → Pv D i H' → SqL K H' a xs)
    (hs : ∀ D, H D = none → ∀ i x H', xs[i]? = some x → Pv D i H' → g x (wipe σ vs) H' fun σ2 H2 => wipe σ2 vs = wipe σ vs ∧ tt σ2 H2 fun b H3 =>
      if b = true then te σ2 H3 fun y H4 => ∃ acc, H4 D = some (.lst acc) ∧ acc.length < sizeLine ∧ Pv D (i + 1) (upd H4 D (.lst (acc ++ [y]))) else Pv D (i + 1) H3) (hd : ∀ D, H D = none → ∀ H', Pv D xs.length H' → Qd D H') :
    ∃ b, V.ref a = .ref b ∧ (∃ xs, SqL K H b xs) ∧ ∀ D, H D = none → ∃ W : Nat → Nat → Hp → Prop, (∃ m, W 0 m (upd H D (.lst []))) ∧ ∀ i m H, W i m H →
      ((Itl K b).stop i H ∧ Qd D H) ∨ ((Itl K b).go i H ∧ ∃ Nx : Hp → Prop, (∀ H', Nx H' → ∃ m', m' < m ∧ W (i + 1) m' H') ∧ ∀ x H', (Itl K b).yld i H x H' → g x (wipe σ vs) H' fun σ2 H2 => wipe σ2 vs = wipe σ vs ∧ tt σ2 H2 fun b H3 =>
        if b = true then te σ2 H3 fun y H4 => ∃ acc, H4 D = some (.lst acc) ∧ acc.length < sizeLine ∧ Nx (upd H4 D (.lst (acc ++ [y]))) else Nx H3) :=
  ⟨a, rfl, ⟨xs, hS⟩, fun D hD => lc_list (xs := xs) (Pv D) (h0 D hD) (hl D hD) (hs D hD) (hd D hD)⟩
theorem x_m1 {r : V → List V → Hp → VK → Prop} (q : to σ H fun x H1 => (∃ a, x = .str a) ∧ te σ H1 fun y H2 => r x [y] H2 Q) : tM1 r to te σ H Q := q
theorem x_m0 {r : V → List V → Hp → VK → Prop} (q : to σ H fun x H1 => (∃ a, x = .str a) ∧ r x [] H1 Q) : tM0 r to σ H Q := q
theorem x_isStr {a : Str} {A : Prop} (q : A) : (∃ b, V.str a = .str b) ∧ A := ⟨⟨a, rfl⟩, q⟩
theorem x_join {a : Str} {p : Addr} {ys : List Str} {A : Str → List Str → Prop} (h : SqL K H p (ys.map V.str)) (hz : (ys.map (·.length)).sum + ys.length * a.length ≤ 16777216) (q : A a ys) :
    ∃ a' p', ∃ ys : List Str, V.str a = .str a' ∧ [V.ref p] = [.ref p'] ∧ (SqL K H p' (ys.map V.str) ∨ SqT K H p' (ys.map V.str)) ∧ (ys.map (·.length)).sum + ys.length * a'.length ≤ 16777216 ∧ A a' ys :=
  ⟨a, p, ys, rfl, rfl, .inl h, hz, q⟩
theorem x_lenS {z : Str} {A : Str → Prop} (h : z.length ≤ sizeLine) (q : A z) : ∃ z', [V.str z] = [.str z'] ∧ z'.length ≤ sizeLine ∧ A z' := ⟨z, rfl, h, q⟩
theorem x_lenL {p : Addr} {xs : List V} {A : List V → Prop} (h : SqL K H p xs) (q : A xs) : ∃ p' ys, [V.ref p] = [.ref p'] ∧ (SqL K H p' ys ∨ SqT K H p' ys) ∧ A ys := ⟨p, xs, rfl, .inl h, q⟩
theorem x_lenT {p : Addr} {xs : List V} {A : List V → Prop} (h : SqT K H p xs) (q : A xs) : ∃ p' ys, [V.ref p] = [.ref p'] ∧ (SqL K H p' ys ∨ SqT K H p' ys) ∧ A ys := ⟨p, xs, rfl, .inr h, q⟩
theorem x_strI {i : Int} {A : Int → Prop} (h : i.natAbs.log2 < 1920) (q : A i) : ∃ j, [V.int i] = [.int j] ∧ j.natAbs.log2 < 1920 ∧ A j := ⟨i, rfl, h, q⟩
theorem x_intB {b : Bool} {A : Int → Prop} {B : Bool → Prop} (q : B b) : (∃ i, [V.bl b] = [.int i] ∧ A i) ∨ ∃ k, [V.bl b] = [.bl k] ∧ B k := .inr ⟨b, rfl, q⟩
theorem x_inS {c : Nat} {z : Str} {A : Nat → Str → Prop} (q : A c z) : ∃ (c' : Nat) (z' : Str), V.str ⟨#[c]⟩ = .str ⟨#[c']⟩ ∧ V.str z = .str z' ∧ A c' z' := ⟨c, z, rfl, rfl, q⟩
theorem x_mul {z : Str} {n : Int} (h : MulOk z n) (q : Q (.str (Txt.mul z n)) H) : rStrMul (.str z) (.int n) H Q := ⟨z, n, rfl, rfl, h, q⟩
theorem x_app {l : Addr} {xs : List V} (h : H l = some (.lst xs)) (hz : xs.length < sizeLine) (q : Q .non (upd H l (.lst (xs ++ [y])))) : rAppend (.ref l) [y] H Q := ⟨l, xs, y, rfl, rfl, h, hz, q⟩
theorem x_tyL {l : Addr} {xs : List V} {A : Prop} (h : SqL K H l xs) (q : A) : tyV K "list" (.ref l) H ∧ A := ⟨.inl ⟨rfl, _, h⟩, q⟩
theorem x_ib {b : Bool} {A B : Prop} (hb : b = true) (h : A) : if b = true then A else B := by rw [if_pos hb]; exact h
theorem x_if0 {b : Bool} {A B : Prop} (hb : b = false) (h : B) : if b = true then A else B := by rw [hb]; exact h
theorem x_while {c : TT} {tb : TS} {X : L2.St → Hp → Prop} {rt : VK} {bk ct : L2.St → Hp → Prop} (W : Nat → L2.St → Hp → Prop) (m0 : Nat) (h0 : W m0 σ H)
    (hs : ∀ m σ H, W m σ H → c σ H fun b H1 => if b = true then ∃ N : L2.St → Hp → Prop, (∀ σ' H', N σ' H' → ∃ m', m' < m ∧ W m' σ' H') ∧ tb { nx := N, rt := rt, bk := X, ct := N } σ H1 else X σ H1) : tWhile c tb { nx := X, rt := rt, bk := bk, ct := ct } σ H := ⟨W, ⟨m0, h0⟩, hs⟩
end
end Gs
namespace Gs
open PySem PySem.Spec PyProof.Rows L2
theorem x_chain {σ : L2.St} {H : Hp} {Q : VK} {r r' : R2} {ta tb tc : TE} (q : ta σ H fun x H1 => tb σ H1 fun y H2 => r x y H2 fun z H3 => ∃ k, z = .bl k ∧ if k = true then tc σ H3 fun w' H4 => r' y w' H4 Q else Q (.bl false) H3) : tChain r r' ta tb tc σ H Q := q
end Gs
namespace Gs
open PySem PySem.Spec PyProof.Rows L2
theorem x_ip {H : Hp} {Q : VK} {f : Int → Int → Int} {a b : Int} (q : Q (.int (f a b)) H) : ipI f (.int a) (.int b) H Q := ⟨a, b, rfl, rfl, q⟩
theorem x_ii {a b : Int} {A : Int → Int → Prop} (q : A a b) : ∃ i j, [V.int a, V.int b] = [V.int i, V.int j] ∧ A i j := ⟨a, b, rfl, q⟩
theorem x_1i {a : Int} {A : Int → Prop} (q : A a) : ∃ i, [V.int a] = [V.int i] ∧ A i := ⟨a, rfl, q⟩
end Gs
namespace Gs
open PySem PySem.Spec PyProof.Rows L2
section
variable {K : PySem.W.Frag} {x qual : Str} {params : Arguments} {body : List Stmt} {scope : Scope} {kws : List (Str × V)} {f : Addr} {fd : FuncData} {ps : List Str}
theorem FunD_kbindsN (F : FunD K x qual params body scope [] kws f fd) (n : Nat) (ks : List Str)
    (h : ∀ (kV doc pm : Value) (an : Option Addr) (cdv ct : Value) (us ws : List Value), us.length = n → ws.length = ks.length → bindArgs (PySem.W.fnOf x qual params body scope .none kV doc pm an cdv ct) ⟨us, ks.zip ws⟩ = pure (ps.zip (us ++ ws))) :
    KBn K fd ps n ks (fun us ws => us ++ ws) (fun vs zs => vs ++ zs) := by
  obtain ⟨oc, od, dV, kV, doc, pm, an, cdv, ct, osl, rfl, lk, hcd, hD, hK⟩ := F.ex
  rcases hD with ⟨_, rfl⟩ | ⟨e, _⟩
  · exact ⟨fun s us ws _ l1 l2 => .of_eq (h kV doc pm an cdv ct us ws l1 l2), fun r1 r2 => r1.append r2⟩
  · exact absurd rfl e
end
/-- a def with keyword-only parameters: n others; dvs what stands for the keywords where they lack -/
structure HasK (P : Program) (w : World) (K : PySem.W.Frag) (mg : Str → Option Value) (base : Heap) (k : Nat) (x : Str) (ps : List Str) (n : Nat) (ks : List Str) (dvs : List V) (sp : Sp) : Prop where
  ex : ∃ (f : Addr) (fd : FuncData), FnOk P w K mg base CX0 k f fd ps sp ∧ (∃ ds, Vals dvs ds ∧ Binds K fd ps ds) ∧ KBn K fd ps n ks (fun us ws => us ++ ws) (fun vs zs => vs ++ zs) ∧ PySem.W.keepIn K (.ref f) = true ∧ mg x = some (.ref f)
section
variable {X : Cx} {x : Str} {p pos : Pos} {e : Expr} {es : List Expr} {t tk : TA} {kws : List Keyword}
theorem pe_callHD {k j n : Nat} {ps ks : List Str} {dvs : List V} {sp : Sp} (C : HasK X.prog X.w X.K X.mg X.base k x ps n ks dvs sp) (hr : Room j X.A) (ha : PA X (e :: es) t) (hk : k ≤ j := by decide) (hg : Gl X x := by rfl) (hdb : (x == ("__debug__" : Str)) = false := by decide)
    (he : starEach (e :: es) X.env = (false, eval e X.env) :: starEach es X.env := by rfl) (hpl : (backTo pos (starEach es X.env)).any (·.1) = false := by rfl) :
    PE X (.Call (.Name x p) (e :: es) [] pos) (tCall sp dvs E0 t) := by
  obtain ⟨f, fd, F, ⟨ds, hv, b⟩, _, kp, m⟩ := C.ex
  exact pe_call F (hr.mono hk) hg m kp b hv pass0 ha hdb he hpl
theorem pe_callHK {k j n : Nat} {ps ks : List Str} {dvs : List V} {sp : Sp} (C : HasK X.prog X.w X.K X.mg X.base k x ps n ks dvs sp) (hr : Room j X.A) (ha : PA X (e :: es) t) (hkw : PK X kws tk) (hk : k ≤ j := by decide) (hg : Gl X x := by rfl)
    (hall : (backToKw pos (keywordEach kws X.env)).all (·.1.isSome) = true := by rfl) (hks : (backToKw pos (keywordEach kws X.env)).filterMap (·.1) = ks := by rfl)
    (hdb : (x == ("__debug__" : Str)) = false := by decide) (he : starEach (e :: es) X.env = (false, eval e X.env) :: starEach es X.env := by rfl)
    (hpl : ((backTo pos (starEach (e :: es) X.env)).any (·.1) || (backToKw pos (keywordEach kws X.env)).any (·.1.isNone)) = false := by rfl) :
    PE X (.Call (.Name x p) (e :: es) kws pos) (tCallN n ks.length sp (fun vs zs => vs ++ zs) E0 t tk) := by
  obtain ⟨f, fd, F, _, b, kp, m⟩ := C.ex
  exact pe_callN F (hr.mono hk) hg m kp b pass0 ha hkw hall hks hdb he hpl
end
theorem x_callN {σ : L2.St} {H : Hp} {Q : VK} {n m : Nat} {sp : Sp} {g : List V → List V → List V} {E : XK} {t tk : TA} (q : t σ H fun vs H1 => tk σ H1 fun zs H2 => vs.length = n ∧ zs.length = m ∧ sp (g vs zs) H2 Q E) : tCallN n m sp g E t tk σ H Q := q
end Gs
namespace Gs
open PySem PySem.Spec PyProof.Rows L2
section
variable {X : Cx} {K : PySem.W.Frag}
theorem ix_listK (h : X.K = K := by rfl) : IxR X (rIxL K) := h ▸ ix_list
theorem ix_tupK (h : X.K = K := by rfl) : IxR X (rIxT K) := h ▸ ix_tup
theorem op_inK (h : X.K = K := by rfl) : OpR X (compareOp .In) (rIn K false) := h ▸ op_in_seq
theorem op_notInK (h : X.K = K := by rfl) : OpR X (compareOp .NotIn) (rIn K true) := h ▸ op_notIn_seq
theorem sl_listK (h : X.K = K := by rfl) : SlR X (rSlL K) := h ▸ sl_list
theorem sl_tupK (h : X.K = K := by rfl) : SlR X (rSlT K) := h ▸ sl_tup
theorem op_eqDK (hu : X.A.units + 64 < cLine) (h : X.K = K := by rfl) : OpR X (compareOp .Eq) (rEqD K) := h ▸ op_eqD hu
theorem op_neDK (hu : X.A.units + 64 < cLine) (h : X.K = K := by rfl) : OpR X (compareOp .NotEq) (rNeD K) := h ▸ op_neD hu
def rLenK (K : PySem.W.Frag) : List V → Hp → VK → Prop := fun xs H Q => ∃ p ys, xs = [.ref p] ∧ (SqL K H p ys ∨ SqT K H p ys) ∧ Q (.int ys.length) H
theorem call_lenK (h : X.K = K := by rfl) : CallR X (.builtin "len") (rLenK K) := h ▸ call_len_seq
theorem call_isiKK (h : X.K = K := by rfl) : CallR X (.builtin "isinstance") (rIsi K) := h ▸ call_isi
end
theorem x_lenKL {K : PySem.W.Frag} {H : Hp} {Q : VK} {p : Addr} {xs : List V} (h : SqL K H p xs) (q : Q (.int xs.length) H) : rLenK K [.ref p] H Q := ⟨p, xs, rfl, .inl h, q⟩
theorem x_lenKT {K : PySem.W.Frag} {H : Hp} {Q : VK} {p : Addr} {xs : List V} (h : SqT K H p xs) (q : Q (.int xs.length) H) : rLenK K [.ref p] H Q := ⟨p, xs, rfl, .inr h, q⟩
end Gs
namespace Gs
open PySem PySem.Spec PyProof.Rows L2
section
variable {X : Cx} {K : PySem.W.Frag} {H : Hp} {Q : VK}
theorem cr_allK (hc : X.calm = true) (h : X.K = K := by rfl) : CallR X (.builtin "all") (rAll K) := h ▸ cr_all hc
theorem cr_anyK (hc : X.calm = true) (h : X.K = K := by rfl) : CallR X (.builtin "any") (rAny K) := h ▸ cr_any hc
theorem dpStrs : ∀ zs : List Str, DpAll K H (zs.map V.str) (zs.map PyData.str)
  | [] => .nil
  | z :: r => .cons (.str z) (dpStrs r)
def okStr (z : Str) : Bool := z.cps.all (· < 0x110000)
theorem shapedStrs {zs : List Str} (h : ∀ z ∈ zs, okStr z = true) : SeqAt.shaped (.list (zs.map PyData.str)) = true := by
  have h1 : PyData.canLayAll0 (zs.map PyData.str) = true := by
    induction zs with
    | nil => rfl
    | cons z r ih =>
      rw [List.map_cons]
      simp only [PyData.canLayAll0, PyData.canLay0, Bool.and_eq_true]
      exact ⟨h z (List.mem_cons_self ..), ih fun y hy => h y (List.mem_cons_of_mem _ hy)⟩
  have h2 : PyData.depthAll (zs.map PyData.str) = 0 := by
    clear h h1
    induction zs with
    | nil => rfl
    | cons z r ih => simp [PyData.depthAll, PyData.depth, ih]
  simp [SeqAt.shaped, PyData.canLay0, PyData.depth, h1, h2]
theorem x_eqStrs {a b : Addr} {zs : List Str} (ha : SqL K H a (zs.map V.str)) (hb : SqL K H b (zs.map V.str)) (h : ∀ z ∈ zs, okStr z = true) (q : Q (.bl true) H) : rEqD K (.ref a) (.ref b) H Q := by
  have hs := shapedStrs h
  refine ⟨_, _, .lst ha (dpStrs zs), .lst hb (dpStrs zs), hs, hs, ?_⟩
  rw [SeqAt.eqv_refl _ (SeqAt.canLay_of_shaped hs)]
  exact q
theorem okStr_small {z : Str} (h : ∀ x ∈ z.cps.toList, x < 128) : okStr z = true := by
  unfold okStr
  rw [Array.all_eq_true']
  intro x hx
  have := h x (by simpa using hx)
  simp
  omega
end
end Gs
namespace Gs
open PySem PySem.Spec PyProof.Rows L2
theorem atL {α : Type} {xs : List α} {i : Int} (h0 : 0 ≤ i) (h : i < (xs.length : Int)) : ∃ v, v ∈ xs ∧ atI xs i = some v := by
  have hk : i.toNat < xs.length := by omega
  have e : i = ((i.toNat : Nat) : Int) := by omega
  refine ⟨xs[i.toNat], List.getElem_mem hk, ?_⟩
  exact (congrArg (atI xs) e).trans (atI_nat (List.getElem?_eq_getElem hk))
end Gs

namespace Gs
open PySem PySem.Spec PyProof.Rows L2
/-! ### the pool of a law: its list at p, the script's rest at l; c : at most so many takes so far -/
structure PoolAt (H : Hp) (p l : Addr) (c : Int) : Prop where
  ex : ∃ (a n s : Int) (ns : List Int), H p = some (.lst [.ref l, .int a, .int n, .int s]) ∧ H l = some (.lst (ns.map V.int)) ∧ 0 ≤ a ∧ 0 ≤ n ∧ n ≤ c ∧ 0 ≤ s ∧ s < 2147483647 ∧ ns.length ≤ 1000
/-- all but p and l is as it was -/
def Kx (p l : Addr) (H H' : Hp) : Prop := ∀ b o, H b = some o → b ≠ p → b ≠ l → H' b = some o
theorem Kx.refl {p l : Addr} (H : Hp) : Kx p l H H := fun _ _ h _ _ => h
theorem Kx.trans {p l : Addr} {H H1 H2 : Hp} (a : Kx p l H H1) (b : Kx p l H1 H2) : Kx p l H H2 := fun c o h h1 h2 => b c o (a c o h h1 h2) h1 h2
theorem Kx.of {p l : Addr} {H H1 : Hp} (a : Same H H1) : Kx p l H H1 := fun c o h _ _ => a c o h
theorem Kx.updp {p l : Addr} {H H1 : Hp} {o : HO} (a : Kx p l H H1) : Kx p l H (upd H1 p o) := fun c u h h1 h2 => by
  rw [upd_ne h1]
  exact a c u h h1 h2
theorem Kx.updl {p l : Addr} {H H1 : Hp} {o : HO} (a : Kx p l H H1) : Kx p l H (upd H1 l o) := fun c u h h1 h2 => by
  rw [upd_ne h2]
  exact a c u h h1 h2
theorem Kx.updn {p l q : Addr} {H H1 : Hp} {o : HO} (hq : H1 q = none) (a : Kx p l H H1) : Kx p l H (upd H1 q o) := fun c u h h1 h2 => by
  rw [upd_ne (ne_of_none (a c u h h1 h2) hq)]
  exact a c u h h1 h2
theorem PoolAt.ne {H : Hp} {p l : Addr} {c : Int} (P : PoolAt H p l c) : p ≠ l := by
  obtain ⟨a, n, s, ns, hp, hl, _⟩ := P.ex
  refine ne_of hp hl fun z => ?_
  have z1 := HO.lst.inj z
  cases ns with
  | nil => cases z1
  | cons x r => simp at z1
theorem PoolAt.mono {H : Hp} {p l : Addr} {c d : Int} (P : PoolAt H p l c) (h : c ≤ d) : PoolAt H p l d := by
  obtain ⟨a, n, s, ns, hp, hl, h1, h2, h3, h4⟩ := P.ex
  exact ⟨a, n, s, ns, hp, hl, h1, h2, by omega, h4⟩
theorem PoolAt.same {H H' : Hp} {p l : Addr} {c : Int} (P : PoolAt H p l c) (h : Same H H') : PoolAt H' p l c := by
  obtain ⟨a, n, s, ns, hp, hl, h1⟩ := P.ex
  exact ⟨a, n, s, ns, h _ _ hp, h _ _ hl, h1⟩
theorem PoolAt.upd {H : Hp} {p l q : Addr} {c : Int} {o : HO} (P : PoolAt H p l c) (h : H q = none) : PoolAt (upd H q o) p l c :=
  P.same fun b u e => by
    rw [upd_ne (ne_of_none e h)]
    exact e
theorem PoolAt.hp {H : Hp} {p l : Addr} {c : Int} (P : PoolAt H p l c) : ∃ o, H p = some o := by
  obtain ⟨a, n, s, ns, hp, hl, h1⟩ := P.ex
  exact ⟨_, hp⟩
theorem same_upd {H : Hp} {p : Addr} {o : HO} (h : H p = none) : Same H (upd H p o) := fun b x e => by
  rw [upd_ne (ne_of_none e h)]
  exact e
theorem Kx.tup {p l a : Addr} {c : Int} {H H' : Hp} {xs : List V} (k : Kx p l H H') (P : PoolAt H p l c) (h : H a = some (.tup xs)) : H' a = some (.tup xs) := by
  obtain ⟨a', n, s, ns, hp, hl, h1⟩ := P.ex
  exact k a _ h (ne_of h hp (by intro z; cases z)) (ne_of h hl (by intro z; cases z))
theorem Kx.sqT {K : PySem.W.Frag} {p l a : Addr} {c : Int} {H H' : Hp} {xs : List V} (k : Kx p l H H') (P : PoolAt H p l c) (h : SqT K H a xs) : SqT K H' a xs := by
  obtain ⟨a', n, s, ns, hp, hl, h1⟩ := P.ex
  rcases h with (h | ⟨o, h⟩) | h
  · exact .inl (.inl (k.tup P h))
  · exact .inl (.inr ⟨o, k a _ h (ne_of h hp (by intro z; cases z)) (ne_of h hl (by intro z; cases z))⟩)
  · exact .inr h
theorem cutV_map (ns : List Int) (lo hi : Option Int) : ∃ ms : List Int, cutV (ns.map V.int) lo hi = ms.map V.int ∧ ms.length ≤ ns.length := by
  refine ⟨(ns.drop (HT.sIx ns.length 0 lo)).take (HT.sIx ns.length ns.length hi - HT.sIx ns.length 0 lo), ?_, ?_⟩
  · unfold cutV
    rw [List.length_map, List.map_take, List.map_drop]
  · rw [List.length_take, List.length_drop]
    omega
theorem kxl {p l a : Addr} {c : Int} {G H : Hp} {o : HO} (P : PoolAt G p l c) (na : G a = none) (k : Kx p l (upd G a o) H) : H a = some o := by
  obtain ⟨a', n, s, ns, hp, hl, h1⟩ := P.ex
  exact k a _ upd_same (ne_of_none hp na).symm (ne_of_none hl na).symm
theorem PoolAt.fresh {H : Hp} {p l a : Addr} {c : Int} (P : PoolAt H p l c) (h : H a = none) : a ≠ p ∧ a ≠ l := by
  obtain ⟨a', n, s, ns, hp, hl, h1⟩ := P.ex
  exact ⟨(ne_of_none hp h).symm, (ne_of_none hl h).symm⟩
theorem PoolAt.updo {H : Hp} {p l q : Addr} {c : Int} {o : HO} (P : PoolAt H p l c) (h1 : q ≠ p) (h2 : q ≠ l) : PoolAt (L2.upd H q o) p l c := by
  obtain ⟨a, n, s, ns, hp, hl, h⟩ := P.ex
  exact ⟨a, n, s, ns, by rw [upd_ne h1.symm]; exact hp, by rw [upd_ne h2.symm]; exact hl, h⟩
theorem Kx.updf {p l q : Addr} {H H1 : Hp} {o : HO} (hq : H q = none) (a : Kx p l H H1) : Kx p l H (L2.upd H1 q o) := fun c u h h1 h2 => by
  rw [upd_ne (ne_of_none h hq)]
  exact a c u h h1 h2
theorem Kx.none {p l D : Addr} {H G : Hp} (k : Kx p l H G) (h : G D = Option.none) (h1 : D ≠ p) (h2 : D ≠ l) : H D = Option.none := by
  cases e : H D with
  | none => rfl
  | some o =>
    rw [k D o e h1 h2] at h
    cases h
/-- how much a promise of a def with a pool asks -/
def Big : Int := 1000000000000
theorem mixedBound {s n t : Int} (h1 : 0 ≤ s) (h2 : s < 2147483647) (h3 : 0 ≤ n) (h4 : n ≤ 1000000000000) (h5 : 0 ≤ t) (h6 : t ≤ 100) : (s + 7919 * (8 * n + t) + 104729).natAbs < 2 ^ 64 := by omega
def spMixed (K : PySem.W.Frag) : Sp := fun vs H Q _ => ∃ (p l : Addr) (c t : Int), vs = [.ref p, .int t] ∧ PoolAt H p l c ∧ c ≤ 1000000000000 ∧ 0 ≤ t ∧ t ≤ 100 ∧ ∀ z : Int, 0 ≤ z → z < 2147483629 → Q (.int z) H
def spTake (K : PySem.W.Frag) : Sp := fun vs H Q _ => ∃ (p l : Addr) (c m : Int), vs = [.ref p, .int m] ∧ PoolAt H p l c ∧ c + 1 ≤ 1000000000000 ∧ 0 < m ∧ m ≤ 10 ^ 80 ∧
  ∀ (z : Int) (H' : Hp), 0 ≤ z → z < m → PoolAt H' p l (c + 1) → Kx p l H H' → Q (.int z) H'
def spPool (K : PySem.W.Frag) : Sp := fun vs H Q _ => ∃ (a : Addr) (ns : List Int) (k : Int), vs = [.ref a, .int k] ∧ SqL K H a (ns.map V.int) ∧ ns.length ≤ 63 ∧ 0 ≤ k ∧ k ≤ 100 ∧
  ∀ (p l : Addr) (H' : Hp), H p = none → H l = none → Same H H' → PoolAt H' p l 0 → Q (.ref p) H'
theorem log_of {i : Int} {a : Nat} (ha : i.natAbs < 2 ^ a) (h0 : 0 < a) : i.natAbs.log2 < a := PySem.Flt.log2_lt_of h0 ha
end Gs

namespace Gs
open PySem PySem.Spec PyProof.Rows L2 TL
/-! ### the pieces of a line, as lists of codes -/
def sD : List Nat := [48, 49, 50, 51, 52, 53, 54, 55, 56, 57]
def sS : List Nat := [97, 98, 99, 100, 101, 102, 103, 104, 105, 106, 107, 108, 109, 110, 111, 112, 113, 114, 115, 116, 117, 118, 119, 120, 121, 122]
def sC : List Nat := [65, 66, 67, 68, 69, 70, 71, 72, 73, 74, 75, 76, 77, 78, 79, 80, 81, 82, 83, 84, 85, 86, 87, 88, 89, 90]
def sM : List Nat := [43, 45, 42, 47, 60, 62, 61, 38, 33, 63, 94, 64, 35, 58, 124, 46, 36]
theorem tl_D : tl ("0123456789" : Str) = sD := by decide +kernel
theorem tl_S : tl ("abcdefghijklmnopqrstuvwxyz" : Str) = sS := by decide +kernel
theorem tl_C : tl ("ABCDEFGHIJKLMNOPQRSTUVWXYZ" : Str) = sC := by decide +kernel
theorem tl_M : tl ("+-*/<>=&!?^@#:|.$" : Str) = sM := by decide +kernel
/-- by what a piece goes on that begins so -/
def cls (c : Nat) : List Nat := if c ∈ sD ∨ c = 126 then sD else if c ∈ sS ∨ c ∈ sC then sS ++ sD else if c ∈ sM then sM else []
def Stop (c : Nat) : List Nat → Prop
  | [] => True
  | h :: _ => h ∉ cls c
inductive Cut : List Nat → List (List Nat) → Prop
  | nil : Cut [] []
  | blank {l : List Nat} {ts : List (List Nat)} : Cut l ts → Cut (32 :: l) ts
  | piece {c : Nat} {t l : List Nat} {ts : List (List Nat)} : c ≠ 32 → (∀ x ∈ t, x ∈ cls c) → Stop c l → Cut l ts → Cut (c :: (t ++ l)) ((c :: t) :: ts)
theorem Cut.blanks {l : List Nat} {ts : List (List Nat)} (h : Cut l ts) : ∀ n : Nat, Cut (List.replicate n 32 ++ l) ts
  | 0 => h
  | n + 1 => by
    rw [List.replicate_succ]
    exact .blank (Cut.blanks h n)
theorem Cut.drop {l : List Nat} {ts : List (List Nat)} (h : Cut l ts) : Cut (l.dropWhile fun x => decide (x ∈ [32])) ts := by
  induction h with
  | nil => exact .nil
  | blank h ih =>
    rw [List.dropWhile_cons_of_pos (by decide)]
    exact ih
  | @piece c t l ts hc ht hs h ih =>
    rw [List.dropWhile_cons_of_neg (by simpa using hc)]
    exact .piece hc ht hs h
theorem run_stop {S t l : List Nat} (ht : ∀ x ∈ t, x ∈ S) (hl : ∀ h r, l = h :: r → h ∉ S) : (t ++ l).takeWhile (fun x => decide (x ∈ S)) = t := by
  induction t with
  | nil =>
    cases l with
    | nil => rfl
    | cons h r =>
      rw [List.nil_append, List.takeWhile_cons_of_neg (by simpa using hl h r rfl)]
  | cons x t ih =>
    rw [List.cons_append, List.takeWhile_cons_of_pos (by simpa using ht x (List.mem_cons_self ..)), ih fun y hy => ht y (List.mem_cons_of_mem _ hy)]
theorem stop_of {c : Nat} {l : List Nat} (h : Stop c l) : ∀ x r, l = x :: r → x ∉ cls c := fun x r e => by
  subst e
  exact h
/-- what the program says of a piece -/
def isPc : List Nat → Bool
  | [] => false
  | c :: t =>
    if c = 126 then decide (1 ≤ t.length ∧ t.length ≤ 60 ∧ t.head? ≠ some 48)
    else if c ∈ sD then decide (t.length + 1 ≤ 60 ∧ (c ≠ 48 ∨ t = []))
    else if c ∈ sS ∨ c ∈ sC then decide (t.length + 1 ≤ 12)
    else if c ∈ sM then decide (t.length + 1 ≤ 3)
    else decide (c ∈ [40, 41, 44])
theorem isPc_cons (c : Nat) (t : List Nat) : isPc (c :: t) = if c = 126 then decide (1 ≤ t.length ∧ t.length ≤ 60 ∧ t.head? ≠ some 48)
    else if c ∈ sD then decide (t.length + 1 ≤ 60 ∧ (c ≠ 48 ∨ t = []))
    else if c ∈ sS ∨ c ∈ sC then decide (t.length + 1 ≤ 12)
    else if c ∈ sM then decide (t.length + 1 ≤ 3)
    else decide (c ∈ [40, 41, 44]) := rfl
structure OkBit (l : List Nat) : Prop where
  ex : ∃ c t, l = c :: t ∧ c ≠ 32 ∧ ∀ x ∈ t, x ∈ cls c
  pc : isPc l = true
  small : ∀ x ∈ l, x < 128
  len : l.length ≤ 61
theorem sD_iff {c : Nat} : c ∈ sD ↔ 48 ≤ c ∧ c ≤ 57 := by
  unfold sD
  simp only [List.mem_cons, List.not_mem_nil, or_false]
  omega
theorem sS_iff {c : Nat} : c ∈ sS ↔ 97 ≤ c ∧ c ≤ 122 := by
  unfold sS
  simp only [List.mem_cons, List.not_mem_nil, or_false]
  omega
theorem sC_iff {c : Nat} : c ∈ sC ↔ 65 ≤ c ∧ c ≤ 90 := by
  unfold sC
  simp only [List.mem_cons, List.not_mem_nil, or_false]
  omega
theorem sM_all {c : Nat} (h : c ∈ sM) : (33 ≤ c ∧ c < 48 ∧ c ≠ 40 ∧ c ≠ 41 ∧ c ≠ 44) ∨ (58 ≤ c ∧ c ≤ 64) ∨ c = 94 ∨ c = 124 := by
  unfold sM at h
  simp only [List.mem_cons, List.not_mem_nil, or_false] at h
  omega
theorem cls_D {c : Nat} (h : c ∈ sD ∨ c = 126) : cls c = sD := if_pos h
theorem cls_W {c : Nat} (h : c ∈ sS ∨ c ∈ sC) : cls c = sS ++ sD := by
  unfold cls
  rw [if_neg, if_pos h]
  rw [sD_iff]
  rw [sS_iff, sC_iff] at h
  omega
theorem cls_M {c : Nat} (h : c ∈ sM) : cls c = sM := by
  have z := sM_all h
  unfold cls
  rw [if_neg (by rw [sD_iff]; omega), if_neg (by rw [sS_iff, sC_iff]; omega), if_pos h]
theorem cls_N {c : Nat} (h1 : c ∉ sD) (h2 : c ≠ 126) (h3 : c ∉ sS) (h4 : c ∉ sC) (h5 : c ∉ sM) : cls c = [] := by
  unfold cls
  rw [if_neg (by simp [h1, h2]), if_neg (by simp [h3, h4]), if_neg h5]
theorem cls_small {c x : Nat} (h : x ∈ cls c) : x < 128 ∧ x ≠ 32 := by
  unfold cls at h
  split at h
  · rw [sD_iff] at h
    omega
  · split at h
    · rw [List.mem_append, sS_iff, sD_iff] at h
      omega
    · split at h
      · have z := sM_all h
        omega
      · cases h
theorem blank_not {c : Nat} : 32 ∉ cls c := fun h => (cls_small h).2 rfl
/-! numbers -/
theorem numL_head : ∀ n : Nat, 0 < n → ∃ c t, numL n = c :: t ∧ c ≠ 48 := by
  intro n
  induction n using Nat.strongRecOn with
  | _ n ih =>
    intro h0
    by_cases h : n < 10
    · exact ⟨48 + n, [], numL_lt h, by omega⟩
    · obtain ⟨c, t, e, hc⟩ := ih (n / 10) (by omega) (by omega)
      exact ⟨c, t ++ [48 + n % 10], by rw [numL_step (by omega), e]; rfl, hc⟩
theorem numL_D (n : Nat) : ∀ x ∈ numL n, x ∈ sD := fun x hx => sD_iff.mpr (numL_digits n x hx)
theorem ok_num {n : Nat} (h : n < 10 ^ 60) : OkBit (numL n) := by
  have hl := numL_len (k := 60) (by decide) h
  obtain ⟨c, t, e⟩ : ∃ c t, numL n = c :: t := by
    cases e : numL n with
    | nil => exact absurd e (numL_ne n)
    | cons c t => exact ⟨c, t, rfl⟩
  have hD := numL_D n
  rw [e] at hD hl ⊢
  have hc := hD c (List.mem_cons_self ..)
  have hc' := sD_iff.mp hc
  refine ⟨⟨c, t, rfl, by omega, fun x hx => ?_⟩, ?_, fun x hx => ?_, by omega⟩
  · rw [cls_D (.inl hc)]
    exact hD x (List.mem_cons_of_mem _ hx)
  · rw [isPc_cons, if_neg (by omega), if_pos hc]
    refine decide_eq_true ⟨hl, ?_⟩
    by_cases h0 : 0 < n
    · obtain ⟨c', t', e', hn⟩ := numL_head n h0
      rw [e] at e'
      cases e'
      exact .inl hn
    · have e0 : n = 0 := by omega
      subst e0
      have z : numL 0 = [48] := numL_lt (by decide)
      rw [e] at z
      cases z
      exact .inr rfl
  · have := sD_iff.mp (hD x hx)
    omega
theorem ok_neg {n : Nat} (h0 : 0 < n) (h : n < 10 ^ 60) : OkBit (126 :: numL n) := by
  have hl := numL_len (k := 60) (by decide) h
  obtain ⟨c, t, e, hc⟩ := numL_head n h0
  have hD := numL_D n
  rw [e] at hD hl ⊢
  refine ⟨⟨126, c :: t, rfl, by decide, fun x hx => ?_⟩, ?_, fun x hx => ?_, by rw [List.length_cons]; omega⟩
  · rw [cls_D (.inr rfl)]
    exact hD x hx
  · rw [isPc_cons, if_pos rfl]
    refine decide_eq_true ⟨by rw [List.length_cons]; omega, hl, ?_⟩
    simpa using hc
  · rcases List.mem_cons.mp hx with e | hx
    · omega
    · have := sD_iff.mp (hD x hx)
      omega
theorem ok_word {c : Nat} {t : List Nat} (hc : c ∈ sS ∨ c ∈ sC) (ht : ∀ x ∈ t, x ∈ sS ++ sD) (hl : t.length + 1 ≤ 12) : OkBit (c :: t) := by
  have h' : (97 ≤ c ∧ c ≤ 122) ∨ (65 ≤ c ∧ c ≤ 90) := by rwa [sS_iff, sC_iff] at hc
  refine ⟨⟨c, t, rfl, by omega, by rw [cls_W hc]; exact ht⟩, ?_, fun x hx => ?_, by rw [List.length_cons]; omega⟩
  · rw [isPc_cons, if_neg (by omega), if_neg (by rw [sD_iff]; omega), if_pos hc]
    exact decide_eq_true hl
  · rcases List.mem_cons.mp hx with e | hx
    · omega
    · have := ht x hx
      rw [List.mem_append, sS_iff, sD_iff] at this
      omega
theorem ok_mark {c : Nat} {t : List Nat} (hc : c ∈ sM) (ht : ∀ x ∈ t, x ∈ sM) (hl : t.length + 1 ≤ 3) : OkBit (c :: t) := by
  have h' := sM_all hc
  refine ⟨⟨c, t, rfl, by omega, by rw [cls_M hc]; exact ht⟩, ?_, fun x hx => ?_, by rw [List.length_cons]; omega⟩
  · rw [isPc_cons, if_neg (by omega), if_neg (by rw [sD_iff]; omega), if_neg (by rw [sS_iff, sC_iff]; omega), if_pos hc]
    exact decide_eq_true hl
  · rcases List.mem_cons.mp hx with e | hx
    · omega
    · have := sM_all (ht x hx)
      omega
theorem ok_sign {c : Nat} (hc : c = 40 ∨ c = 41 ∨ c = 44) : OkBit [c] := by
  refine ⟨⟨c, [], rfl, by omega, fun x hx => by cases hx⟩, ?_, fun x hx => ?_, by simp⟩
  · rcases hc with e | e | e <;> subst e <;> decide
  · rw [List.mem_singleton.mp hx]
    omega
/-! a line laid bit by bit -/
/-- what may follow, so that the last bit stays one -/
structure Laid (L : List Nat) (bits : List (List Nat)) (last : Nat) : Prop where
  go : ∀ R ts, Stop last R → Cut R ts → Cut (L ++ R) (bits ++ ts)
theorem Laid.start (n : Nat) : Laid (List.replicate n 32) [] 40 := ⟨fun R ts _ h => h.blanks n⟩
theorem Laid.add {L : List Nat} {bits : List (List Nat)} {last g : Nat} {c : Nat} {t : List Nat} (h : Laid L bits last) (hb : OkBit (c :: t)) (hg : 0 < g ∨ c ∉ cls last) : Laid (L ++ List.replicate g 32 ++ (c :: t)) (bits ++ [c :: t]) c := by
  obtain ⟨c', t', e, hc, ht⟩ := hb.ex
  cases e
  refine ⟨fun R ts hs hR => ?_⟩
  have h1 : Cut ((c :: t) ++ R) ((c :: t) :: ts) := .piece hc ht hs hR
  have h2 := h1.blanks g
  have h3 := h.go (List.replicate g 32 ++ ((c :: t) ++ R)) ((c :: t) :: ts) ?_ h2
  · rw [List.append_assoc, List.append_assoc, List.append_assoc]
    exact h3
  · cases g with
    | zero =>
      rcases hg with hg | hg
      · omega
      · exact hg
    | succ g => exact blank_not
theorem Laid.done {L : List Nat} {bits : List (List Nat)} {last : Nat} (h : Laid L bits last) (n : Nat) : Cut (L ++ List.replicate n 32) bits := by
  have h2 := h.go (List.replicate n 32) [] ?_ ?_
  · rw [List.append_nil] at h2
    exact h2
  · cases n with
    | zero => exact True.intro
    | succ n => exact blank_not
  · have := Cut.nil.blanks n
    rw [List.append_nil] at this
    exact this
end Gs

open PySem PySem.Spec PyProof.Rows L2 Gs TL
local macro_rules | `(tactic| walk_at "ne") => `(tactic| first | assumption | exact Ne.symm (by assumption) | exact ne_of_none (by assumption) (by assumption) | exact (ne_of_none (by assumption) (by assumption)).symm | exact ne_of_none upd_same (by assumption) | exact (ne_of_none upd_same (by assumption)).symm )
local macro_rules | `(tactic| walk_at "hx") => `(tactic| first | assumption | exact upd_same | (apply Eq.trans (upd_ne (by walk_at "ne")); walk_at "hx"))
local macro_rules | `(tactic| walk_at "sq") => `(tactic| first | assumption | (apply SqL.of; walk_at "hx") | (apply SqT.of; walk_at "hx") | (with_reducible apply sqT_new; (next => assumption); walk_at "sq") | (with_reducible apply sqL_new; (next => assumption); walk_at "sq"))
local macro_rules | `(tactic| walk_at "sx") => `(tactic| repeat (first
  | ((with_reducible apply x_var); (next => first | rfl | exact rfl)) | with_reducible refine x_c ?_ | with_reducible refine x_op ?_ | with_reducible refine x_un ?_ | with_reducible refine x_i0 ?_ | with_reducible refine x_u ?_
  | with_reducible refine x_nil ?_ | with_reducible refine x_cons ?_ | with_reducible refine x_call ?_ | with_reducible refine x_cb ?_ | with_reducible refine x_test ?_ | with_reducible refine x_B ?_
  | with_reducible refine x_and ?_ | with_reducible refine x_or ?_ | with_reducible refine x_not ?_ | with_reducible refine x_ifE ?_ | with_reducible refine x_andV ?_ | with_reducible refine x_orV ?_ | with_reducible refine x_notV ?_
  | with_reducible refine x_ex ?_ | with_reducible refine x_seq ?_ | with_reducible refine x_next ?_ | with_reducible refine x_brk ?_ | with_reducible refine x_cont ?_ | with_reducible refine x_asg ?_ | with_reducible refine x_drop ?_ | with_reducible refine x_ret ?_ | with_reducible refine x_retN ?_
  | with_reducible refine x_ifS ?_ | with_reducible refine x_gn ?_ | with_reducible refine x_gsub ?_ | ((with_reducible apply x_aug); (next => rfl)) | with_reducible refine x_lst ?_ | with_reducible refine x_tup ?_ | with_reducible refine x_sl ?_ | with_reducible refine x_part ?_ | with_reducible refine x_exI ?_ | with_reducible refine x_nopart ?_
  | with_reducible refine x_bm ?_ | with_reducible refine x_bm0 ?_ | with_reducible refine x_iteF ?_ | with_reducible refine x_iteT ?_ | ((with_reducible apply x_eq); (next => rfl)) | ((with_reducible apply x_ne); (next => rfl))
  | ((with_reducible apply x_ixL); (next => walk_at "sq"); (next => (first | exact at0 rfl | exact at1 rfl | exact at2 rfl | exact at3 rfl | exact at4 rfl | exact at5 rfl | exact at6 rfl | exact at7 rfl | exact at8 rfl | exact at9 rfl))) | ((with_reducible apply x_ixT); (next => walk_at "sq"); (next => (first | exact at0 rfl | exact at1 rfl | exact at2 rfl | exact at3 rfl | exact at4 rfl | exact at5 rfl | exact at6 rfl | exact at7 rfl | exact at8 rfl | exact at9 rfl)))
  | ((with_reducible apply x_setL); (next => walk_at "hx"); (next => (first | exact ix0 (Nat.le_of_ble_eq_true rfl) | exact ix1 (Nat.le_of_ble_eq_true rfl) | exact ix2 (Nat.le_of_ble_eq_true rfl) | exact ix3 (Nat.le_of_ble_eq_true rfl) | exact ix4 (Nat.le_of_ble_eq_true rfl))))
  | ((with_reducible apply x_mod); (next => omega); (intro r h0 h1 h2)) | ((with_reducible apply x_div); (next => first | exact cdivW (by omega) (by omega) | assumption); (intro r h0 h1))
  | ((with_reducible apply x_i); (next => first | assumption | exact cmulW (by omega) (by omega) | exact (show _ ≠ _ by decide) | exact ⟨by decide, by decide, by omega⟩ | exact cdivW (by omega) (by omega) | exact (show _ ≠ _ by omega)))
  | with_reducible refine x_for ?_ | with_reducible refine x_rng1 ?_ | with_reducible refine x_rng2 ?_ | with_reducible refine x_ilist ?_ | with_reducible refine x_itup ?_
  | with_reducible refine x_callN ?_ | with_reducible refine x_ip ?_ | with_reducible refine x_chain ?_ | with_reducible refine x_chain3 ?_ | with_reducible refine x_ckw ?_ | with_reducible refine x_lc ?_ | with_reducible refine x_yes ?_ | with_reducible refine x_m1 ?_ | with_reducible refine x_m0 ?_ | with_reducible refine x_isStr ?_ | ((with_reducible apply x_lenKL); (next => walk_at "sq")) | ((with_reducible apply x_lenKT); (next => walk_at "sq")) | with_reducible refine x_intB ?_ | with_reducible refine x_inS ?_
  | ((with_reducible apply x_tyL); (next => walk_at "sq")) | ((with_reducible apply x_ib); (next => rfl)) | ((with_reducible apply x_if0); (next => rfl))
  | (refine ⟨sz (Nat.le_of_ble_eq_true rfl), fun a na => ?_⟩)
  | dsimp only))
local macro_rules | `(tactic| walk_at "kx") => `(tactic| first | assumption | exact Kx.refl _ | (apply Kx.updp; walk_at "kx") | (apply Kx.updl; walk_at "kx") | (apply Kx.updn; (next => assumption); walk_at "kx") | (apply Kx.trans; rotate_left 1; (next => assumption); walk_at "kx"))
local macro_rules | `(tactic| walk_at "pl") => `(tactic| first | assumption | (refine PoolAt.upd ?_ (by assumption); walk_at "pl"))

namespace Gs
open PySem PySem.Spec PyProof.Rows L2
abbrev s_law_pool : Stmt := PySem.Challenge.pw_goalstead_k06_pieces_of_a_line.main.body.getD 20 (.Pass ⟨0, 0, 0, 0⟩)
theorem sc_law_pool : FnScope ["script", "k"] ["script", "k"] (defScope s_law_pool) := ⟨rfl, rfl, rfl, by decide +kernel, rfl, by decide +kernel, by decide +kernel⟩
abbrev s_law_mixed : Stmt := PySem.Challenge.pw_goalstead_k06_pieces_of_a_line.main.body.getD 21 (.Pass ⟨0, 0, 0, 0⟩)
theorem sc_law_mixed : FnScope ["pool", "turn", "number"] ["pool", "turn"] (defScope s_law_mixed) := ⟨rfl, rfl, rfl, by decide +kernel, rfl, by decide +kernel, by decide +kernel⟩
abbrev s_law_take : Stmt := PySem.Challenge.pw_goalstead_k06_pieces_of_a_line.main.body.getD 22 (.Pass ⟨0, 0, 0, 0⟩)
theorem sc_law_take : FnScope ["pool", "many", "digit", "number", "turn"] ["pool", "many"] (defScope s_law_take) := ⟨rfl, rfl, rfl, by decide +kernel, rfl, by decide +kernel, by decide +kernel⟩
structure Txt (mg : Str → Option Value) : Prop where
  z_all : mg "all" = none
  z_int : mg "int" = none
  z_isinstance : mg "isinstance" = none
  z_len : mg "len" = none
  z_list : mg "list" = none
  z_max : mg "max" = none
  z_range : mg "range" = none
  z_str : mg "str" = none
  c_BRACKETS : ∃ t, mg "BRACKETS" = some (.int 12 t)
  c_CAPITALS : ∃ t, mg "CAPITALS" = some (.str "ABCDEFGHIJKLMNOPQRSTUVWXYZ" t)
  c_DIGITS : ∃ t, mg "DIGITS" = some (.str "0123456789" t)
  c_FIGURES : ∃ t, mg "FIGURES" = some (.int 60 t)
  c_MARKS : ∃ t, mg "MARKS" = some (.str "+-*/<>=&!?^@#:|.$" t)
  c_MARK_SIGNS : ∃ t, mg "MARK_SIGNS" = some (.int 3 t)
  c_PIECES : ∃ t, mg "PIECES" = some (.int 200 t)
  c_SMALLS : ∃ t, mg "SMALLS" = some (.str "abcdefghijklmnopqrstuvwxyz" t)
  c_WORD_SIGNS : ∃ t, mg "WORD_SIGNS" = some (.int 12 t)
section
variable {P : Program} {w : World} {K : PySem.W.Frag} {mg : Str → Option Value} {base : Heap} {f : Addr} {fd : FuncData}
theorem ok_law_mixed (F : Fun K "_law_mixed" "_law_mixed" s_law_mixed f fd) : FnOk P w K mg base CX0 1 f fd ["pool", "turn"] (spMixed K) := by
  refine F.ok sc_law_mixed (fun vs H Q E h => ?_) (fun cdv A outer s H vs Q E hr h => ?_)
  · obtain ⟨p, l, c, t, rfl, _⟩ := h
    rfl
  obtain ⟨p, l, c, t, rfl, ⟨a, n, s, ns, hp, hl, h1, h2, h3, h4, h5, h6⟩, hc, ht, ht2, q⟩ := h
  have hS : SqL K H p [.ref l, .int a, .int n, .int s] := .of hp
  refine ⟨_, (pss_cons (ps_set (i := 2) sc_law_mixed.nd rfl (Or.inl rfl) (pe_op op_modN (pe_op op_pow (pe_op op_add (pe_op op_add (pe_ix (ix_listK (K := K)) (pv 0) pe_int (fun _ _ => rfl)) (pe_op op_mulW pe_int (pe_op op_add (pe_op op_mulW pe_int (pe_ix (ix_listK (K := K)) (pv 0) pe_int (fun _ _ => rfl))) (pv 1)))) pe_int) pe_int) pe_int))
    (pss_one (ps_ret (pe_op op_fdivW (pe_op op_modN (pe_op op_mulW (pe_op op_add (pv 2) (pe_ix (ix_listK (K := K)) (pv 0) pe_int (fun _ _ => rfl))) pe_int) pe_int) pe_int)))), ?_⟩
  walk_at "sx"
  exact q _ (by omega) (by omega)
def HasMixed (P : Program) (w : World) (K : PySem.W.Frag) (mg : Str → Option Value) (base : Heap) : Prop := Has P w K mg base 1 "_law_mixed" ["pool", "turn"] (spMixed K)
theorem ok_law_take (F : Fun K "_law_take" "_law_take" s_law_take f fd) (T : Txt mg) (C_law_mixed : HasMixed P w K mg base) : FnOk P w K mg base CX0 2 f fd ["pool", "many"] (spTake K) := by
  refine F.ok sc_law_take (fun vs H Q E h => ?_) (fun cdv A outer s H vs Q E hr h => ?_)
  · obtain ⟨p, l, c, m, rfl, _⟩ := h
    rfl
  obtain ⟨p, l, c, m, rfl, P0, hc, hm, hm2, q⟩ := h
  have hpl := P0.ne
  obtain ⟨a, n, s, ns, hp, hl, h1, h2, h3, h4, h5, h6⟩ := P0.ex
  have hS : SqL K H p [.ref l, .int a, .int n, .int s] := .of hp
  refine ⟨_, (pss_cons (ps_asg (pe_op op_add (pe_ix (ix_listK (K := K)) (pv 0) pe_int (fun _ _ => rfl)) pe_int) (pg_sub (pv 0) pe_int set_list))
    (Evl.pss_cut (ps_if (PW.pt (pw_and (pt_cmpR op_eq (pe_ix (ix_listK (K := K)) (pv 0) pe_int (fun _ _ => rfl)) pe_int (nomark _)) (pw_and1 (pt_cmpR (op_neDK (K := K) hr.units) (pe_ix (ix_listK (K := K)) (pv 0) pe_int (fun _ _ => rfl)) (pe_lst pa_nil) (nomark _)))))
      (pss_cons (ps_asg (pe_bm PySem.F.plainAttrs_list PySem.F.slot_list_pop PySem.F.type_list_pop mt_popAt (pe_ix (ix_listK (K := K)) (pv 0) pe_int (fun _ _ => rfl)) (pa_cons pe_int pa_nil)) (pg_sub (pv 0) pe_int set_list))
    (pss_one (ps_if (pt_cmpR op_lt (pe_ix (ix_listK (K := K)) (pv 0) pe_int (fun _ _ => rfl)) (pe_op op_pow pe_int pe_int) (nomark _))
      (pss_cons (ps_asg (pe_op op_modN (pe_op op_add (pe_op op_mulW (pe_ix (ix_listK (K := K)) (pv 0) pe_int (fun _ _ => rfl)) pe_int) (pe_ix (ix_listK (K := K)) (pv 0) pe_int (fun _ _ => rfl))) pe_int) (pg_sub (pv 0) pe_int set_list))
    (pss_one (ps_asg pe_int (pg_sub (pv 0) pe_int set_list))))
      pss_nil)))
      pss_nil)
    (pss_cons (ps_if (pt_cmpR op_gt (pe_ix (ix_listK (K := K)) (pv 0) pe_int (fun _ _ => rfl)) pe_int (nomark _))
      (pss_cons (ps_set (i := 2) sc_law_take.nd rfl (Or.inl rfl) (pe_op op_modN (pe_ix (ix_listK (K := K)) (pv 0) pe_int (fun _ _ => rfl)) (pv 1)))
    (pss_cons (ps_asg (pe_op op_fdivW (pe_ix (ix_listK (K := K)) (pv 0) pe_int (fun _ _ => rfl)) (pv 1)) (pg_sub (pv 0) pe_int set_list))
    (pss_one (ps_ret (pv 2)))))
      pss_nil)
    (pss_cons (ps_set (i := 3) sc_law_take.nd rfl (Or.inl rfl) (pe_callH C_law_mixed hr (pa_cons (pv 0) (pa_cons pe_int pa_nil))))
    (Evl.pss_cut (ps_if (pt_cmpR op_gt (pv 1) (pe_op op_pow pe_int pe_int) (nomark _))
      (pss_one (ps_for PassesOwn.never rfl (pi_range2 (by rfl) T.z_range (pa_cons pe_int (pa_cons pe_int pa_nil))) (pg_name (i := 4) sc_law_take.nd rfl (.inl rfl))
      (pss_one (ps_set (i := 3) sc_law_take.nd rfl (Or.inl rfl) (pe_op op_add (pe_op op_mulW (pv 3) pe_int) (pe_callH C_law_mixed hr (pa_cons (pv 0) (pa_cons (pv 4) pa_nil))))))))
      pss_nil)
    (pss_one (ps_ret (pe_op op_modN (pv 3) (pv 1))))))))), ?_⟩
  walk_at "sx"
  refine x_cut (M := fun σ' H' => σ' = [some (.ref p), some (.int m), none, none, none] ∧ Kx p l H H' ∧ ∃ (a s : Int) (ns : List Int), H' p = some (.lst [.ref l, .int a, .int (n + 1), .int s]) ∧ H' l = some (.lst (ns.map V.int)) ∧ 0 ≤ a ∧ 0 ≤ s ∧ s < 2147483647 ∧ ns.length ≤ 1000) ?_ ?_
  · walk_at "sx"
    have kp : ∀ o, Kx p l H (upd H p o) := fun o b u e e1 _ => by
      rw [upd_ne e1]
      exact e
    refine x_ite (fun ca => ?_) (fun ca => ?_)
    · have ha : a = 0 := V.int.inj ca
      walk_at "sx"
      rename_i q hq
      have nlp : l ≠ p := Ne.symm hpl
      have nq1 : p ≠ q := ne_of_none (o := _) upd_same hq
      have nq2 : l ≠ q := ne_of_none (by walk_at "hx") hq
      refine x_neNil (ns := ns) (by walk_at "sq") (by walk_at "sq") ?_
      walk_at "sx"
      refine x_iteN (fun cn => ?_) (fun cn => ?_)
      · walk_at "sx"
        obtain ⟨x, r, rfl⟩ : ∃ x r, ns = x :: r := by
          cases ns with
          | nil => exact absurd rfl cn
          | cons x r => exact ⟨x, r, rfl⟩
        refine ⟨l, _, 0, 0, _, rfl, rfl, by walk_at "hx", by decide, by decide, seqIx0 (by simp), rfl, ?_⟩
        have kq : ∀ (G : Hp), Kx p l H G → Kx p l H G := fun G h => h
        walk_at "sx"
        refine x_ite (fun cx => ?_) (fun cx => ?_)
        · walk_at "sx"
          refine ⟨rfl, by walk_at "kx", 0, _, r, by walk_at "hx", by walk_at "hx", by omega, by assumption, by assumption, ?_⟩
          rw [List.length_cons] at h6
          omega
        · walk_at "sx"
          have cx' : ¬ x < 10 ^ 18 := cx
          refine ⟨rfl, by walk_at "kx", x, s, r, by walk_at "hx", by walk_at "hx", by omega, h4, h5, ?_⟩
          rw [List.length_cons] at h6
          omega
      · walk_at "sx"
        exact ⟨rfl, by walk_at "kx", a, s, ns, by walk_at "hx", by walk_at "hx", h1, h4, h5, h6⟩
    · walk_at "sx"
      exact ⟨rfl, by walk_at "kx", a, s, ns, upd_same, by walk_at "hx", h1, h4, h5, h6⟩
  · rintro σ' H' ⟨rfl, k1, a, s, ns, hp, hl, h1, h4, h5, h6⟩
    have dm : CDivW a m := wide_div (b := 300) hm (by omega) (by decide) (by decide)
    have nlp : l ≠ p := Ne.symm hpl
    have P1 : ∀ G : Hp, G p = some (.lst [.ref l, .int a, .int (n + 1), .int s]) → G l = some (.lst (ns.map V.int)) → PoolAt G p l (c + 1) := fun G g1 g2 => ⟨a, n + 1, s, ns, g1, g2, h1, by omega, by omega, h4, h5, h6⟩
    walk_at "sx"
    refine x_ite (fun ca => ?_) (fun ca => ?_)
    · walk_at "sx"
      rename_i r1 _ _ _ r2 _ hr2
      refine q _ _ (by assumption) (by assumption) ⟨r2, n + 1, s, ns, by walk_at "hx", by walk_at "hx", (hr2 h1).1, by omega, by omega, h4, h5, h6⟩ ?_
      exact k1.trans (by walk_at "kx")
    · walk_at "sx"
      refine ⟨p, l, c + 1, 0, rfl, P1 _ hp hl, hc, by omega, by omega, fun z hz1 hz2 => ?_⟩
      walk_at "sx"
      refine x_cut (M := fun σ' G => ∃ (y : Int) (t : Option V), σ' = [some (.ref p), some (.int m), none, some (.int y), t] ∧ G = H') ?_ ?_
      · walk_at "sx"
        refine x_ite (fun cm => ?_) (fun cm => ?_)
        · walk_at "sx"
          refine x_forR2 (lo := 1) (hi := 8) (fun i σ' G => ∃ (y : Int) (t : Option V), σ' = [some (.ref p), some (.int m), none, some (.int y), t] ∧ G = H' ∧ 0 ≤ y ∧ y < 4294967296 ^ (i + 1)) (by omega) ⟨z, none, rfl, rfl, hz1, by rw [show (4294967296 : Int) ^ (0 + 1) = 4294967296 from rfl]; omega⟩ ?_ ?_
          · rintro i σ' G hi ⟨y, t, rfl, rfl, hy1, hy2⟩
            have hB : (4294967296 : Int) ^ (i + 1) ≤ 4294967296 ^ 7 := by
              rcases (show i = 0 ∨ i = 1 ∨ i = 2 ∨ i = 3 ∨ i = 4 ∨ i = 5 ∨ i = 6 by omega) with rfl | rfl | rfl | rfl | rfl | rfl | rfl <;> decide
            have dy : CMulW y 268435453 := wide_mul (a := 300) (b := 30) (by omega) (by decide) (by decide) (by decide) (by decide)
            walk_at "sx"
            refine ⟨p, l, c + 1, 1 + (i : Int), rfl, P1 _ hp hl, hc, by omega, by omega, fun z' hz1' hz2' => ?_⟩
            walk_at "sx"
            refine ⟨_, _, rfl, rfl, by omega, ?_⟩
            rw [Int.pow_succ]
            generalize (4294967296 : Int) ^ (i + 1) = B at hy2 hB ⊢
            omega
          · rintro σ' G ⟨y, t, rfl, rfl, _⟩
            exact ⟨y, t, rfl, rfl⟩
        · walk_at "sx"
          exact ⟨z, none, rfl, rfl⟩
      · rintro σ' G ⟨y, t, rfl, rfl⟩
        walk_at "sx"
        exact q _ _ (by assumption) (by assumption) (P1 _ hp hl) k1
theorem ok_law_pool (F : Fun K "_law_pool" "_law_pool" s_law_pool f fd) (T : Txt mg) : FnOk P w K mg base CX0 1 f fd ["script", "k"] (spPool K) := by
  refine F.ok sc_law_pool (fun vs H Q E h => ?_) (fun cdv A outer s H vs Q E hr h => ?_)
  · obtain ⟨a, ns, k, rfl, _⟩ := h
    rfl
  obtain ⟨a, ns, k, rfl, hS, hl, hk0, hk1, q⟩ := h
  refine ⟨_, (pss_one (ps_ret (pe_lst (pa_cons (pe_op op_cat (pe_slice (sl_listK (K := K)) (pv 0) (po_some (pv 1)) po_none) (pe_slice (sl_listK (K := K)) (pv 0) po_none (po_some (pv 1)))) (pa_cons pe_int (pa_cons pe_int (pa_cons (pe_op op_mulW pe_int (pv 1)) pa_nil))))))), ?_⟩
  walk_at "sx"
  refine x_slL hS fun p1 n1 => ?_
  walk_at "sx"
  have s1 := same_upd (o := .lst (cutV (ns.map V.int) (some k) none)) n1
  refine x_slL (s1.seq hS) fun p2 n2 => ?_
  have n12 : p1 ≠ p2 := ne_of_none upd_same n2
  have s2 := same_upd (o := .lst (cutV (ns.map V.int) none (some k))) n2
  have L1 := cutV_length (ns.map V.int) (some k) none
  have L2 := cutV_length (ns.map V.int) none (some k)
  rw [List.length_map] at L1 L2
  refine ⟨p1, p2, _, _, rfl, rfl, by walk_at "hx", by walk_at "hx", sz (by omega), fun p3 n3 => ?_⟩
  have s3 := same_upd (o := .lst (cutV (ns.map V.int) (some k) none ++ cutV (ns.map V.int) none (some k))) n3
  walk_at "sx"
  rename_i p4 n4
  have s4 := same_upd (o := .lst [.ref p3, .int 0, .int 0, .int (104729 * k)]) n4
  obtain ⟨m1, e1, l1⟩ := cutV_map ns (some k) none
  obtain ⟨m2, e2, l2⟩ := cutV_map ns none (some k)
  have n34 : p3 ≠ p4 := ne_of_none upd_same n4
  have sall := s1.trans (s2.trans (s3.trans s4))
  refine q p4 p3 _ (s1.free (s2.free (s3.free n4))) (s1.free (s2.free n3)) sall ?_
  · refine ⟨0, 0, 104729 * k, m1 ++ m2, by walk_at "hx", ?_, by omega, by omega, by omega, by omega, by omega, ?_⟩
    · rw [List.map_append, ← e1, ← e2]
      walk_at "hx"
    · rw [List.length_append]
      omega
end
end Gs

namespace Gs
open PySem PySem.Spec PyProof.Rows L2 TL
abbrev s_law_number : Stmt := PySem.Challenge.pw_goalstead_k06_pieces_of_a_line.main.body.getD 23 (.Pass ⟨0, 0, 0, 0⟩)
theorem sc_law_number : FnScope ["pool", "number"] ["pool"] (defScope s_law_number) := ⟨rfl, rfl, rfl, by decide +kernel, rfl, by decide +kernel, by decide +kernel⟩
abbrev s_law_name : Stmt := PySem.Challenge.pw_goalstead_k06_pieces_of_a_line.main.body.getD 25 (.Pass ⟨0, 0, 0, 0⟩)
theorem sc_law_name : FnScope ["pool", "way", "some", "size", "head", "text", "turn"] ["pool", "way"] (defScope s_law_name) := ⟨rfl, rfl, rfl, by decide +kernel, rfl, by decide +kernel, by decide +kernel⟩
/-- a law's word, unknown, mark -/
def NameOk (way : Int) (l : List Nat) : Prop := ∃ c t, l = c :: t ∧ ((way = 0 ∧ c ∈ sS ∧ (∀ x ∈ t, x ∈ sS ++ sD) ∧ t.length + 1 ≤ 12) ∨ (way = 1 ∧ c ∈ sC ∧ (∀ x ∈ t, x ∈ sS ++ sD) ∧ t.length + 1 ≤ 12) ∨ (way = 2 ∧ c ∈ sM ∧ (∀ x ∈ t, x ∈ sM) ∧ t.length + 1 ≤ 3))
theorem NameOk.bit {way : Int} {l : List Nat} (h : NameOk way l) : OkBit l := by
  obtain ⟨c, t, rfl, h⟩ := h
  rcases h with ⟨_, hc, ht, hl⟩ | ⟨_, hc, ht, hl⟩ | ⟨_, hc, ht, hl⟩
  · exact ok_word (.inl hc) ht hl
  · exact ok_word (.inr hc) ht hl
  · exact ok_mark hc ht hl
def spNumber (K : PySem.W.Frag) : Sp := fun vs H Q _ => ∃ (p l : Addr) (c : Int), vs = [.ref p] ∧ PoolAt H p l c ∧ c + 4 ≤ 1000000000000 ∧
  ∀ (z : Int) (H' : Hp), z.natAbs < 10 ^ 60 → PoolAt H' p l (c + 4) → Kx p l H H' → Q (.int z) H'
def spName (K : PySem.W.Frag) : Sp := fun vs H Q _ => ∃ (p l : Addr) (c way : Int), vs = [.ref p, .int way] ∧ PoolAt H p l c ∧ c + 20 ≤ 1000000000000 ∧ 0 ≤ way ∧ way ≤ 2 ∧
  ∀ (z : Str) (H' : Hp), NameOk way (tl z) → PoolAt H' p l (c + 20) → Kx p l H H' → Q (.str z) H'
section
variable {P : Program} {w : World} {K : PySem.W.Frag} {mg : Str → Option Value} {base : Heap} {f : Addr} {fd : FuncData}
def HasTake (P : Program) (w : World) (K : PySem.W.Frag) (mg : Str → Option Value) (base : Heap) : Prop := Has P w K mg base 2 "_law_take" ["pool", "many"] (spTake K)
theorem ok_law_number (F : Fun K "_law_number" "_law_number" s_law_number f fd) (T : Txt mg) (C_law_take : HasTake P w K mg base) : FnOk P w K mg base CX0 3 f fd ["pool"] (spNumber K) := by
  refine F.ok sc_law_number (fun vs H Q E h => ?_) (fun cdv A outer s H vs Q E hr h => ?_)
  · obtain ⟨p, l, c, rfl, _⟩ := h
    rfl
  obtain ⟨p, l, c, rfl, P0, hc, q⟩ := h
  refine ⟨_, (pss_cons (ps_set (i := 1) sc_law_number.nd rfl (Or.inl rfl) (pe_callH C_law_take hr (pa_cons (pv 0) (pa_cons pe_int pa_nil))))
    (Evl.pss_cut (ps_if (pt_cmpR op_eq (pe_callH C_law_take hr (pa_cons (pv 0) (pa_cons pe_int pa_nil))) pe_int (nomark _))
      (pss_one (ps_set (i := 1) sc_law_number.nd rfl (Or.inl rfl) (pe_callH C_law_take hr (pa_cons (pv 0) (pa_cons (pe_op op_pow pe_int pe_int) pa_nil)))))
      pss_nil)
    (pss_one (ps_ret (pe_ix (ix_listK (K := K)) (pe_lst (pa_cons (pv 1) (pa_cons (pv 1) (pa_cons (pe_op op_sub pe_int (pv 1)) pa_nil)))) (pe_callH C_law_take hr (pa_cons (pv 0) (pa_cons pe_int pa_nil))) (fun _ _ => rfl)))))), ?_⟩
  walk_at "sx"
  refine ⟨p, l, c, 10, rfl, P0, by omega, by decide, by decide, fun n H1 n0 n1 P1 k1 => ?_⟩
  walk_at "sx"
  refine x_cut (M := fun σ' G => ∃ z : Int, σ' = [some (.ref p), some (.int z)] ∧ 0 ≤ z ∧ z < 10 ^ 60 ∧ PoolAt G p l (c + 3) ∧ Kx p l H G) ?_ ?_
  · walk_at "sx"
    refine ⟨p, l, c + 1, 4, rfl, P1, by omega, by decide, by decide, fun n2 H2 n20 n21 P2 k2 => ?_⟩
    walk_at "sx"
    refine x_ite (fun cn => ?_) (fun cn => ?_)
    · walk_at "sx"
      refine ⟨p, l, c + 1 + 1, _, rfl, P2, by omega, by decide, by decide, fun n3 H3 n30 n31 P3 k3 => ?_⟩
      walk_at "sx"
      exact ⟨n3, rfl, n30, n31, P3.mono (by omega), by walk_at "kx"⟩
    · walk_at "sx"
      exact ⟨n, rfl, n0, by omega, P2.mono (by omega), by walk_at "kx"⟩
  · rintro σ' G ⟨z, rfl, z0, z1, PG, kG⟩
    walk_at "sx"
    refine ⟨p, l, c + 3, 3, rfl, by walk_at "pl", by omega, by decide, by decide, fun n2 H2 n20 n21 P2 k2 => ?_⟩
    walk_at "sx"
    have hA := kxl PG (by assumption) k2
    have kQ : Kx p l H H2 := by walk_at "kx"
    rcases (show n2 = 0 ∨ n2 = 1 ∨ n2 = 2 by omega) with rfl | rfl | rfl
    · exact x_ixL (.of hA) (at0 rfl) (q _ _ (by omega) (P2.mono (by omega)) kQ)
    · exact x_ixL (.of hA) (at1 rfl) (q _ _ (by omega) (P2.mono (by omega)) kQ)
    · exact x_ixL (.of hA) (at2 rfl) (q _ _ (by omega) (P2.mono (by omega)) kQ)
def HeadOk (way : Int) (c : Nat) : Prop := (way = 0 ∧ c ∈ sS) ∨ (way = 1 ∧ c ∈ sC) ∨ (way = 2 ∧ c ∈ sM)
def TailOk (way : Int) (c : Nat) : Prop := if way = 2 then c ∈ sM else c ∈ sS ++ sD
theorem nameOk {way : Int} {l t chars : List Nat} {c : Nat} {n : Int} (e : l = (c :: (t ++ chars)).take 12) (h : HeadOk way c) (ht : ∀ x ∈ t, TailOk way x) (hc : ∀ x ∈ chars, TailOk way x) (h2 : way = 2 → t = [] ∧ chars.length ≤ 2) : NameOk way l := by
  have et : (c :: (t ++ chars)).take 12 = c :: (t ++ chars).take 11 := rfl
  rw [et] at e
  have hl : ((t ++ chars).take 11).length ≤ 11 := by rw [List.length_take]; omega
  have hx : ∀ x ∈ (t ++ chars).take 11, TailOk way x := fun x hx => by
    rcases List.mem_append.mp (List.mem_of_mem_take hx) with h | h
    · exact ht x h
    · exact hc x h
  refine ⟨c, _, e, ?_⟩
  rcases h with ⟨rfl, h⟩ | ⟨rfl, h⟩ | ⟨rfl, h⟩
  · exact .inl ⟨rfl, h, hx, by omega⟩
  · exact .inr (.inl ⟨rfl, h, hx, by omega⟩)
  · refine .inr (.inr ⟨rfl, h, hx, ?_⟩)
    obtain ⟨h3, h4⟩ := h2 rfl
    rw [List.length_take, List.length_append, h3, List.length_nil]
    omega
theorem len_S : ("abcdefghijklmnopqrstuvwxyz" : Str).length = 26 := by decide +kernel
theorem len_C : ("ABCDEFGHIJKLMNOPQRSTUVWXYZ" : Str).length = 26 := by decide +kernel
theorem len_M : ("+-*/<>=&!?^@#:|.$" : Str).length = 17 := by decide +kernel
theorem len_SD : ("abcdefghijklmnopqrstuvwxyz0123456789" : Str).length = 36 := by decide +kernel
theorem tl_SD : tl ("abcdefghijklmnopqrstuvwxyz0123456789" : Str) = sS ++ sD := by decide +kernel
theorem tl_len (z : Str) : (tl z).length = z.length := by show z.cps.toList.length = z.cps.size; rw [Array.length_toList]
def resW : List Str := ["op", "mode", "table", "not", "is", "in", "such", "and", "mod"]
theorem resW_ok : ∀ z ∈ resW, ∃ c t, tl z = c :: t ∧ c ∈ sS ∧ (∀ x ∈ t, x ∈ sS ++ sD) ∧ t.length ≤ 4 ∧ z.length ≤ 5 := by
  have h : (resW.all fun z => match tl z with | [] => false | c :: t => decide (c ∈ sS ∧ (∀ x ∈ t, x ∈ sS ++ sD) ∧ t.length ≤ 4 ∧ z.length ≤ 5)) = true := by decide +kernel
  intro z hz
  have h2 := List.all_eq_true.mp h z hz
  cases e : tl z with
  | nil =>
    rw [e] at h2
    cases h2
  | cons c t =>
    rw [e] at h2
    exact ⟨c, t, rfl, of_decide_eq_true h2⟩
theorem joinNil : ∀ xs : List (List Nat), joinL [] xs = xs.flatten
  | [] => rfl
  | [p] => by simp [joinL]
  | p :: q :: r => by
    show p ++ ([] ++ joinL [] (q :: r)) = p ++ (q :: r).flatten
    rw [joinNil (q :: r), List.nil_append]
theorem tl_joined (ys : List Str) : tl (Txt.join ("" : Str) ys) = (ys.map tl).flatten := by
  rw [join_eq, tl_join, show tl ("" : Str) = [] from by decide +kernel, joinNil]
theorem signs_of {P : Nat → Prop} : ∀ {ys : List Str}, (∀ y ∈ ys, ∃ c, tl y = [c] ∧ P c) → (ys.map tl).flatten.length = ys.length ∧ (∀ x ∈ (ys.map tl).flatten, P x) ∧ (ys.map (·.length)).sum = ys.length
  | [], _ => ⟨rfl, (fun x hx => by cases hx), rfl⟩
  | y :: r, h => by
    obtain ⟨c, e, hc⟩ := h y (List.mem_cons_self ..)
    obtain ⟨h1, h2, h3⟩ := signs_of (ys := r) fun z hz => h z (List.mem_cons_of_mem _ hz)
    refine ⟨?_, fun x hx => ?_, ?_⟩
    · rw [List.map_cons, List.flatten_cons, List.length_append, h1, e, List.length_cons, List.length_cons, List.length_nil]
      omega
    · rw [List.map_cons, List.flatten_cons, e] at hx
      rcases List.mem_append.mp hx with hx | hx
      · rw [List.mem_singleton.mp hx]
        exact hc
      · exact h2 x hx
    · rw [List.map_cons, List.sum_cons, h3, ← tl_len y, e, List.length_cons, List.length_cons, List.length_nil]
      omega
theorem cut_to (z : Str) (n : Nat) : tl (cutS z none (some (n : Int))) = (tl z).take n := by
  show (((tl z).drop (HT.sIx z.length 0 none)).take (HT.sIx z.length z.length (some (n : Int)) - HT.sIx z.length 0 none)) = (tl z).take n
  rw [HT.sIx_none, HT.sIx_nat, List.drop_zero, Nat.sub_zero, ← tl_len, ← List.take_eq_take_min]
theorem ok_law_name (F : Fun K "_law_name" "_law_name" s_law_name f fd) (T : Txt mg) (C_law_take : HasTake P w K mg base) : FnOk P w K mg base CX0 3 f fd ["pool", "way"] (spName K) := by
  refine F.ok sc_law_name (fun vs H Q E h => ?_) (fun cdv A outer s H vs Q E hr h => ?_)
  · obtain ⟨p, l, c, way, rfl, _⟩ := h
    rfl
  obtain ⟨p, l, c, way, rfl, P0, hc, hw0, hw2, q⟩ := h
  refine ⟨_, (Evl.pss_cut (ps_set (i := 2) sc_law_name.nd rfl (Or.inr rfl) (pe_ix (ix_listK (K := K)) (pe_lst (pa_cons pe_str (pa_cons pe_str (pa_cons pe_str pa_nil)))) (pv 1) (fun _ _ => rfl)))
    (pss_cons (ps_set (i := 3) sc_law_name.nd rfl (Or.inl rfl) (pe_callH C_law_take hr (pa_cons (pv 0) (pa_cons (pe_ix (ix_listK (K := K)) (pe_lst (pa_cons pe_int (pa_cons pe_int (pa_cons pe_int (pa_cons pe_int pa_nil))))) (pe_callH C_law_take hr (pa_cons (pv 0) (pa_cons pe_int pa_nil))) (fun _ _ => rfl)) pa_nil))))
    (pss_cons (ps_set (i := 4) sc_law_name.nd rfl (Or.inl rfl) (pe_callH C_law_take hr (pa_cons (pv 0) (pa_cons pe_int pa_nil))))
    (pss_cons (ps_set (i := 5) sc_law_name.nd rfl (Or.inl rfl) (pe_ix ix_str (pv 2) (pe_callH C_law_take hr (pa_cons (pv 0) (pa_cons (pe_callB call_len_str (by rfl) T.z_len (by decide +kernel) (pa_cons (pv 2) pa_nil)) pa_nil))) (fun _ _ => rfl)))
    (Evl.pss_cut (ps_if (PW.pt (pw_and (pt_cmpR op_eq (pv 1) pe_int (nomark _)) (pw_and1 (pt_cmpR op_lt (pv 4) pe_int (nomark _)))))
      (pss_one (ps_set (i := 5) sc_law_name.nd rfl (Or.inl rfl) (pe_ix (ix_listK (K := K)) (pe_lst (pa_cons pe_str (pa_cons pe_str (pa_cons pe_str (pa_cons pe_str (pa_cons pe_str (pa_cons pe_str (pa_cons pe_str (pa_cons pe_str (pa_cons pe_str pa_nil)))))))))) (pv 4) (fun _ _ => rfl))))
      pss_nil)
    (Evl.pss_cut (ps_if (PW.pt (pw_and (pt_cmpR op_eq (pv 1) pe_int (nomark _)) (pw_and1 (pt_cmpR op_lt (pv 4) pe_int (nomark _)))))
      (pss_one (ps_ret (pe_ix ix_str pe_str (pe_op op_modN (pv 4) pe_int) (fun _ _ => rfl))))
      pss_nil)
    (Evl.pss_cut (ps_if (pt_cmpR op_eq (pv 1) pe_int (nomark _))
      (pss_one (ps_set (i := 3) sc_law_name.nd rfl (Or.inl rfl) (pe_op op_modN (pv 3) pe_int)))
      (pss_one (ps_set (i := 2) sc_law_name.nd rfl (Or.inr rfl) pe_str)))
    (pss_one (ps_ret (pe_slice sl_str (pe_op op_add_str (pv 5) (pe_join pe_str (pe_lc (own := [("turn", 6)]) (g := gName 6) (tt := tYes) rfl sc_law_name.nd (pi_range1 (by rfl) T.z_range (pa_cons (pv 3) pa_nil)) (blkOk_by (own := [("turn", 6)]) (N := ["pool", "way", "some", "size", "head", "text", "turn"]) (sc := defScope s_law_name) (by decide +kernel)) (fun _ _ _ _ _ => pg_name (i := 6) sc_law_name.nd rfl (Or.inl rfl)) (fun _ _ _ _ _ => pts_nil) (fun _ _ _ _ _ => (pe_ix ix_str (pv 2) (pe_callH C_law_take hr (pa_cons (pv 0) (pa_cons (pe_callB call_len_str (by rfl) T.z_len (by decide +kernel) (pa_cons (pv 2) pa_nil)) pa_nil))) (fun _ _ => rfl)))))) po_none (po_some pe_int))))))))))), ?_⟩
  refine x_cut (M := fun σ' G => ∃ lit : Str, σ' = [some (.ref p), some (.int way), some (.str lit), none, none, none, none] ∧ 0 < lit.length ∧ lit.length ≤ 26 ∧ (∀ x ∈ tl lit, HeadOk way x) ∧ PoolAt G p l c ∧ Kx p l H G) ?_ ?_
  · walk_at "sx"
    rcases (show way = 0 ∨ way = 1 ∨ way = 2 by omega) with rfl | rfl | rfl
    · walk_at "sx"
      refine ⟨_, rfl, by decide +kernel, by decide +kernel, fun x hx => .inl ⟨rfl, ?_⟩, by walk_at "pl", by walk_at "kx"⟩
      rwa [tl_S] at hx
    · walk_at "sx"
      refine ⟨_, rfl, by decide +kernel, by decide +kernel, fun x hx => .inr (.inl ⟨rfl, ?_⟩), by walk_at "pl", by walk_at "kx"⟩
      rwa [tl_C] at hx
    · walk_at "sx"
      refine ⟨_, rfl, by decide +kernel, by decide +kernel, fun x hx => .inr (.inr ⟨rfl, ?_⟩), by walk_at "pl", by walk_at "kx"⟩
      rwa [tl_M] at hx
  rintro σ' G ⟨lit, rfl, lit0, lit1, hlit, PG, kG⟩
  walk_at "sx"
  refine ⟨p, l, c, 4, rfl, by walk_at "pl", by omega, by decide, by decide, fun n2 H2 n20 n21 P2 k2 => ?_⟩
  have hA := kxl PG (by assumption) k2
  have kA : Kx p l H H2 := by walk_at "kx"
  walk_at "sx"
  obtain ⟨sz4, hs4, hat4⟩ := atL (xs := [V.int 4, V.int 4, V.int 4, V.int 12]) n20 n21
  refine x_ixL (.of hA) hat4 ?_
  obtain ⟨m4, rfl, m40, m41⟩ : ∃ m : Int, sz4 = .int m ∧ 0 < m ∧ m ≤ 12 := by
    simp only [List.mem_cons, List.not_mem_nil, or_false] at hs4
    rcases hs4 with e | e | e | e <;> exact ⟨_, e, by decide, by decide⟩
  walk_at "sx"
  refine ⟨p, l, c + 1, m4, rfl, P2, by omega, m40, by omega, fun size H3 n30 n31 P3 k3 => ?_⟩
  walk_at "sx"
  refine ⟨p, l, c + 1 + 1, 24, rfl, P3, by omega, by decide, by decide, fun head H4 n40 n41 P4 k4 => ?_⟩
  walk_at "sx"
  refine x_lenS (sz (by omega)) ?_
  walk_at "sx"
  refine ⟨p, l, c + 1 + 1 + 1, _, rfl, P4, by omega, by omega, by omega, fun n5 H5 n50 n51 P5 k5 => ?_⟩
  obtain ⟨ch, hch, hat5⟩ := atL (xs := tl lit) n50 (by rw [tl_len]; exact n51)
  walk_at "sx"
  refine x_ixS (sz (by omega)) hat5 ?_
  have kB : Kx p l H H5 := by walk_at "kx"
  walk_at "sx"
  have hch' : HeadOk way ch := hlit ch hch
  refine x_cut (M := fun σ' G => ∃ (txt : Str) (cc : Nat) (tt : List Nat), σ' = [some (.ref p), some (.int way), some (.str lit), some (.int size), some (.int head), some (.str txt), none] ∧ tl txt = cc :: tt ∧ HeadOk way cc ∧ (∀ x ∈ tt, TailOk way x) ∧ tt.length ≤ 4 ∧ txt.length ≤ 5 ∧ (way = 2 → tt = []) ∧ PoolAt G p l (c + 4) ∧ Kx p l H G) ?_ ?_
  · have P6 := P5.mono (show c + 1 + 1 + 1 + 1 ≤ c + 4 by omega)
    walk_at "sx"
    refine x_ite (fun cw => ?_) (fun cw => ?_)
    · have hw : way = 0 := V.int.inj cw
      subst hw
      walk_at "sx"
      refine x_ite (fun c9 => ?_) (fun c9 => ?_)
      · walk_at "sx"
        obtain ⟨zv, hzv, hat9⟩ := atL (xs := resW.map V.str) n40 (by show head < (resW.map V.str).length; exact c9)
        refine x_ixL (xs := resW.map V.str) (.of upd_same) hat9 ?_
        obtain ⟨z, hz, rfl⟩ := List.mem_map.mp hzv
        obtain ⟨cc, tt, e1, e2, e3, e4, e5⟩ := resW_ok z hz
        walk_at "sx"
        exact ⟨z, cc, tt, rfl, e1, .inl ⟨rfl, e2⟩, (fun x hx => by unfold TailOk; rw [if_neg (by decide)]; exact e3 x hx), e4, e5, (fun h => by cases h), by walk_at "pl", by walk_at "kx"⟩
      · walk_at "sx"
        exact ⟨_, ch, [], rfl, rfl, hch', (fun x hx => by cases hx), by simp, by show 1 ≤ 5; decide, (fun _ => rfl), P6, kB⟩
    · walk_at "sx"
      exact ⟨_, ch, [], rfl, rfl, hch', (fun x hx => by cases hx), by simp, by show 1 ≤ 5; decide, (fun _ => rfl), P6, kB⟩
  rintro σ' G ⟨txt, cc, tt, rfl, et, hcc, htt, l4, l5, h2, PG, kG⟩
  have last : ∀ (Z : Str) (G' : Hp) (chars : List Nat), tl Z = (cc :: (tt ++ chars)).take 12 → (∀ x ∈ chars, TailOk way x) → (way = 2 → chars.length ≤ 2) → PoolAt G' p l (c + 20) → Kx p l H G' → Q (.str Z) G' := fun Z G' chars eZ hcs h3 PG' kG' =>
    q Z G' (nameOk (n := 0) eZ hcc htt hcs fun hw => ⟨h2 hw, h3 hw⟩) PG' kG'
  refine x_cut (M := fun σ' G' => σ' = [some (.ref p), some (.int way), some (.str lit), some (.int size), some (.int head), some (.str txt), none] ∧ G' = G) ?_ ?_
  · walk_at "sx"
    refine x_ite (fun cw => ?_) (fun cw => ?_)
    · have hw : way = 1 := V.int.inj cw
      subst hw
      walk_at "sx"
      refine x_ite (fun c12 => ?_) (fun c12 => ?_)
      · walk_at "sx"
        rename_i r r0 r1 _
        have e3 : tl ("XYZ" : Str) = [88, 89, 90] := by decide +kernel
        obtain ⟨ch3, hm3, hat3⟩ := atL (xs := tl ("XYZ" : Str)) r0 (by rw [e3]; exact r1)
        refine x_ixS (by decide +kernel) hat3 ?_
        refine q _ _ ⟨ch3, [], rfl, .inr (.inl ⟨rfl, ?_, (fun x hx => by cases hx), by decide⟩)⟩ (PG.mono (by omega)) kG
        rw [e3] at hm3
        rw [sC_iff]
        simp only [List.mem_cons, List.not_mem_nil, or_false] at hm3
        omega
      · walk_at "sx"
        exact ⟨rfl, rfl⟩
    · walk_at "sx"
      exact ⟨rfl, rfl⟩
  rintro σ' G' ⟨rfl, rfl⟩
  refine x_cut (M := fun σ' G => ∃ (some' : Str) (size' : Int), σ' = [some (.ref p), some (.int way), some (.str some'), some (.int size'), some (.int head), some (.str txt), none] ∧ (∀ x ∈ tl some', TailOk way x) ∧ 0 < some'.length ∧ some'.length ≤ 36 ∧ 0 ≤ size' ∧ size' ≤ 11 ∧ (way = 2 → size' ≤ 2) ∧ G = G') ?_ ?_
  · walk_at "sx"
    refine x_ite (fun cw => ?_) (fun cw => ?_)
    · have hw : way = 2 := V.int.inj cw
      subst hw
      walk_at "sx"
      rename_i r r0 r1 _
      refine ⟨lit, r, rfl, fun x hx => ?_, lit0, by omega, r0, by omega, fun _ => by omega, rfl⟩
      unfold TailOk
      rw [if_pos rfl]
      rcases hlit x hx with ⟨h, _⟩ | ⟨h, _⟩ | ⟨_, h⟩
      · cases h
      · cases h
      · exact h
    · walk_at "sx"
      refine ⟨_, size, rfl, fun x hx => ?_, by decide +kernel, by decide +kernel, n30, by omega, fun h => absurd (congrArg V.int h) cw, rfl⟩
      unfold TailOk
      rw [if_neg (fun h => cw (congrArg V.int h))]
      rwa [tl_SD] at hx
  rintro σ' G ⟨some', size', rfl, hs, s0, s36, z0, z11, zw, rfl⟩
  walk_at "sx"
  refine x_lcR1 (n := size') (fun D i H' => ∃ (ys : List Str), H' D = some (.lst (ys.map V.str)) ∧ ys.length = i ∧ (∀ y ∈ ys, ∃ c, tl y = [c] ∧ TailOk way c) ∧ PoolAt H' p l (c + 4 + i) ∧ Kx p l H H') (by omega) (by omega) ?_ ?_ ?_
  · intro D hD
    exact ⟨[], upd_same, rfl, (fun y hy => by cases hy), by (have := PG.mono (show c + 4 ≤ c + 4 + (0 : Nat) by omega); walk_at "pl"), by walk_at "kx"⟩
  · rintro D hD i H' hi ⟨ys, hD', hl, hys, PH, kH⟩
    walk_at "sx"
    refine ⟨rfl, ?_⟩
    walk_at "sx"
    refine x_lenS (sz (by omega)) ?_
    walk_at "sx"
    refine ⟨p, l, c + 4 + i, _, rfl, PH, by omega, by omega, by omega, fun n6 H6 n60 n61 P6 k6 => ?_⟩
    obtain ⟨c6, hc6, hat6⟩ := atL (xs := tl some') n60 (by rw [tl_len]; exact n61)
    walk_at "sx"
    refine x_ixS (sz (by omega)) hat6 ?_
    obtain ⟨dp, dl⟩ := PG.fresh hD
    have eD := k6 D _ hD' dp dl
    have nD := kG.none hD dp dl
    refine ⟨_, eD, szl (by rw [List.length_map]; omega), ys ++ [⟨#[c6]⟩], ?_, by rw [List.length_append]; simp; omega, fun y hy => ?_, (P6.mono (by omega)).updo dp dl, Kx.updf nD (kH.trans k6)⟩
    · rw [upd_same, List.map_append]
      rfl
    · rcases List.mem_append.mp hy with hy | hy
      · exact hys y hy
      · rw [List.mem_singleton.mp hy]
        exact ⟨c6, rfl, hs c6 hc6⟩
  · rintro D hD H' ⟨ys, hD', hl, hys, PH, kH⟩
    obtain ⟨s1, s2, s3⟩ := signs_of hys
    walk_at "sx"
    have ltx : txt.length = (tl txt).length := (tl_len txt).symm
    refine x_join (.of hD') (by rw [s3, hl]; show _ + _ * 0 ≤ _; omega) ?_
    have lj : (Txt.join ("" : Str) ys).length = ys.length := by rw [← tl_len, tl_joined, s1]
    refine x_addS (sz (by rw [lj]; omega)) ?_
    walk_at "sx"
    refine x_slS (sz ?_) ?_
    · rw [← tl_len, tl_append, List.length_append, tl_len, tl_len, lj]
      omega
    · refine last _ H' ((ys.map tl).flatten) ?_ s2 (fun hw => by rw [s1, hl]; have := zw hw; omega) (PH.mono (by omega)) kH
      rw [show (12 : Int) = ((12 : Nat) : Int) from rfl, cut_to, tl_append, tl_joined, et]
      rfl
end
end Gs

namespace Gs
open PySem PySem.Spec PyProof.Rows L2 TL
abbrev s_run : Stmt := PySem.Challenge.pw_goalstead_k06_pieces_of_a_line.main.body.getD 15 (.Pass ⟨0, 0, 0, 0⟩)
theorem sc_run : FnScope ["line", "at", "signs"] ["line", "at", "signs"] (defScope s_run) := ⟨rfl, rfl, rfl, by decide +kernel, rfl, by decide +kernel, by decide +kernel⟩
abbrev s_end_of_piece : Stmt := PySem.Challenge.pw_goalstead_k06_pieces_of_a_line.main.body.getD 16 (.Pass ⟨0, 0, 0, 0⟩)
theorem sc_end_of_piece : FnScope ["line", "at", "sign"] ["line", "at"] (defScope s_end_of_piece) := ⟨rfl, rfl, rfl, by decide +kernel, rfl, by decide +kernel, by decide +kernel⟩
abbrev s_is_piece : Stmt := PySem.Challenge.pw_goalstead_k06_pieces_of_a_line.main.body.getD 17 (.Pass ⟨0, 0, 0, 0⟩)
theorem sc_is_piece : FnScope ["text", "sign"] ["text"] (defScope s_is_piece) := ⟨rfl, rfl, rfl, by decide +kernel, rfl, by decide +kernel, by decide +kernel⟩
abbrev s_most_open : Stmt := PySem.Challenge.pw_goalstead_k06_pieces_of_a_line.main.body.getD 18 (.Pass ⟨0, 0, 0, 0⟩)
theorem sc_most_open : FnScope ["pieces", "most", "now", "piece"] ["pieces"] (defScope s_most_open) := ⟨rfl, rfl, rfl, by decide +kernel, rfl, by decide +kernel, by decide +kernel⟩
/-! ### what the program's own defs say of a line -/
def runL (S L : List Nat) (k : Nat) : Nat := ((L.drop k).takeWhile fun x => decide (x ∈ S)).length
theorem runL_yes {S L : List Nat} {k c : Nat} (h : L[k]? = some c) (hc : c ∈ S) : runL S L k = runL S L (k + 1) + 1 := by
  obtain ⟨hk, e⟩ := List.getElem?_eq_some_iff.mp h
  unfold runL
  rw [List.drop_eq_getElem_cons hk, e, List.takeWhile_cons_of_pos (by simpa using hc), List.length_cons]
theorem runL_no {S L : List Nat} {k c : Nat} (h : L[k]? = some c) (hc : c ∉ S) : runL S L k = 0 := by
  obtain ⟨hk, e⟩ := List.getElem?_eq_some_iff.mp h
  unfold runL
  rw [List.drop_eq_getElem_cons hk, e, List.takeWhile_cons_of_neg (by simpa using hc)]
  rfl
theorem runL_end {S L : List Nat} {k : Nat} (h : L.length ≤ k) : runL S L k = 0 := by
  unfold runL
  rw [List.drop_eq_nil_of_le h]
  rfl
theorem takeWhile_len (p : Nat → Bool) : ∀ l : List Nat, (l.takeWhile p).length ≤ l.length
  | [] => Nat.le_refl _
  | x :: r => by
    rw [List.takeWhile_cons]
    split
    · rw [List.length_cons, List.length_cons]
      exact Nat.succ_le_succ (takeWhile_len p r)
    · exact Nat.zero_le _
theorem runL_le (S L : List Nat) (k : Nat) (h : k ≤ L.length) : k + runL S L k ≤ L.length := by
  have h1 := takeWhile_len (fun x => decide (x ∈ S)) (L.drop k)
  rw [List.length_drop] at h1
  unfold runL
  omega
theorem one_eq {c : Nat} {z : Str} : (V.str ⟨#[c]⟩ = V.str z) ↔ tl z = [c] := by
  constructor
  · intro h
    rw [← V.str.inj h]
  · intro h
    rw [ext_tl (x := ⟨#[c]⟩) (y := z) h.symm]
def mo (s : Int × Int) (z : Str) : Int × Int := let n := if z = "(" then s.2 + 1 else if z = ")" then s.2 - 1 else s.2; (if n > s.1 then n else s.1, n)
def mostOpen (zs : List Str) : Int := (zs.foldl mo (0, 0)).1
def spRun (K : PySem.W.Frag) : Sp := fun vs H Q _ => ∃ (line signs : Str) (k : Nat), vs = [.str line, .int (k : Int), .str signs] ∧ k ≤ line.length ∧ line.length ≤ 100000 ∧ Q (.int ((k + runL (tl signs) (tl line) k : Nat) : Int)) H
def spEnd (K : PySem.W.Frag) : Sp := fun vs H Q _ => ∃ (line : Str) (k c : Nat), vs = [.str line, .int (k : Int)] ∧ line.length ≤ 100000 ∧ (tl line)[k]? = some c ∧ Q (.int ((k + 1 + runL (cls c) (tl line) (k + 1) : Nat) : Int)) H
def spIsPiece (K : PySem.W.Frag) : Sp := fun vs H Q _ => ∃ (z : Str), vs = [.str z] ∧ 0 < z.length ∧ z.length ≤ 100000 ∧ Q (.bl (isPc (tl z))) H
def spMostOpen (K : PySem.W.Frag) : Sp := fun vs H Q _ => ∃ (a : Addr) (zs : List Str), vs = [.ref a] ∧ SqL K H a (zs.map V.str) ∧ Q (.int (mostOpen zs)) H
section
variable {P : Program} {w : World} {K : PySem.W.Frag} {mg : Str → Option Value} {base : Heap} {f : Addr} {fd : FuncData}
theorem ok_run (F : Fun K "_run" "_run" s_run f fd) (T : Txt mg) : FnOk P w K mg base CX0 1 f fd ["line", "at", "signs"] (spRun K) := by
  refine F.ok sc_run (fun vs H Q E h => ?_) (fun cdv A outer s H vs Q E hr h => ?_)
  · obtain ⟨line, signs, k, rfl, _⟩ := h
    rfl
  obtain ⟨line, signs, k, rfl, hk, hl, q⟩ := h
  refine ⟨_, (pss_cons (ps_while PassesOwn.never (PW.pt (pw_and (pt_cmpR op_lt (pv 1) (pe_callB call_len_str (by rfl) T.z_len (by decide +kernel) (pa_cons (pv 0) pa_nil)) (nomark _)) (pw_and1 (pt_cmpR op_in_sign (pe_ix ix_str (pv 0) (pv 1) (fun _ _ => rfl)) (pv 2) (by rfl)))))
      (pss_one (ps_aug (i := 1) sc_run.nd rfl (.inl rfl) pe_int ip_add)))
    (pss_one (ps_ret (pv 1)))), ?_⟩
  walk_at "sx"
  refine x_while (fun m σ' H' => ∃ j : Nat, σ' = [some (.str line), some (.int (j : Int)), some (.str signs)] ∧ H' = H ∧ m = line.length - j ∧ j ≤ line.length ∧ j + runL (tl signs) (tl line) j = k + runL (tl signs) (tl line) k) _ ⟨k, rfl, rfl, rfl, hk, rfl⟩ ?_
  rintro m σ' H' ⟨j, rfl, rfl, rfl, hj, ej⟩
  walk_at "sx"
  refine x_lenS (sz hl) ?_
  walk_at "sx"
  refine x_ite (fun c => ?_) (fun c => ?_)
  · have hj2 : j < (tl line).length := by rw [tl_len]; omega
    have e1 : (tl line)[j]? = some (tl line)[j] := List.getElem?_eq_getElem hj2
    walk_at "sx"
    refine x_ixS (sz hl) (atI_nat e1) ?_
    walk_at "sx"
    refine x_ite (fun cs => ?_) (fun cs => ?_)
    · refine ⟨fun σ' H'' => σ' = [some (.str line), some (.int ((j + 1 : Nat) : Int)), some (.str signs)] ∧ H'' = H', fun σ2 H2 h => ?_, ?_⟩
      · obtain ⟨rfl, rfl⟩ := h
        rw [tl_len] at hj2
        have r := runL_yes (S := tl signs) e1 cs
        exact ⟨line.length - (j + 1), by omega, j + 1, rfl, rfl, rfl, by omega, by omega⟩
      · walk_at "sx"
        exact ⟨rfl, rfl⟩
    · walk_at "sx"
      rw [runL_no e1 cs] at ej
      rw [← ej] at q
      exact q
  · walk_at "sx"
    rw [runL_end (by rw [tl_len]; omega)] at ej
    rw [← ej] at q
    exact q
def HasRun (P : Program) (w : World) (K : PySem.W.Frag) (mg : Str → Option Value) (base : Heap) : Prop := Has P w K mg base 1 "_run" ["line", "at", "signs"] (spRun K)
theorem ok_end (F : Fun K "_end_of_piece" "_end_of_piece" s_end_of_piece f fd) (T : Txt mg) (C_run : HasRun P w K mg base) : FnOk P w K mg base CX0 2 f fd ["line", "at"] (spEnd K) := by
  refine F.ok sc_end_of_piece (fun vs H Q E h => ?_) (fun cdv A outer s H vs Q E hr h => ?_)
  · obtain ⟨line, k, c, rfl, _⟩ := h
    rfl
  obtain ⟨line, k, c, rfl, hl, hk, q⟩ := h
  have hk2 : k < line.length := by rw [← tl_len]; exact (List.getElem?_eq_some_iff.mp hk).1
  refine ⟨_, (pss_cons (ps_set (i := 2) sc_end_of_piece.nd rfl (Or.inl rfl) (pe_ix ix_str (pv 0) (pv 1) (fun _ _ => rfl)))
    (pss_cons (ps_if (PW.pt (pw_or (pt_cmpR op_in_sign (pv 2) (pe_globS rfl T.c_DIGITS) (by rfl)) (pw_or1 (pt_cmpR op_eq (pv 2) pe_str (nomark _)))))
      (pss_one (ps_ret (pe_callH C_run hr (pa_cons (pv 0) (pa_cons (pe_op op_add (pv 1) pe_int) (pa_cons (pe_globS rfl T.c_DIGITS) pa_nil))))))
      pss_nil)
    (pss_cons (ps_if (PW.pt (pw_or (pt_cmpR op_in_sign (pv 2) (pe_globS rfl T.c_SMALLS) (by rfl)) (pw_or1 (pt_cmpR op_in_sign (pv 2) (pe_globS rfl T.c_CAPITALS) (by rfl)))))
      (pss_one (ps_ret (pe_callH C_run hr (pa_cons (pv 0) (pa_cons (pe_op op_add (pv 1) pe_int) (pa_cons (pe_op op_add_str (pe_globS rfl T.c_SMALLS) (pe_globS rfl T.c_DIGITS)) pa_nil))))))
      pss_nil)
    (pss_cons (ps_if (pt_cmpR op_in_sign (pv 2) (pe_globS rfl T.c_MARKS) (by rfl))
      (pss_one (ps_ret (pe_callH C_run hr (pa_cons (pv 0) (pa_cons (pe_op op_add (pv 1) pe_int) (pa_cons (pe_globS rfl T.c_MARKS) pa_nil))))))
      pss_nil)
    (pss_one (ps_ret (pe_op op_add (pv 1) pe_int))))))), ?_⟩
  walk_at "sx"
  refine x_ixS (sz hl) (atI_nat hk) ?_
  walk_at "sx"
  have qq : ∀ (S : List Nat) (v : Int), cls c = S → v = ((k + 1 + runL S (tl line) (k + 1) : Nat) : Int) → Q (.int v) H := fun S v e1 e2 => by
    rw [e2, ← e1]
    exact q
  refine x_ite (fun cd => ?_) (fun cd => ?_)
  · rw [show ("0123456789" : Str).cps.toList = sD from tl_D] at cd
    walk_at "sx"
    exact ⟨line, _, k + 1, rfl, by omega, hl, qq _ _ (by rw [tl_D]; exact cls_D (.inl cd)) rfl⟩
  rw [show ("0123456789" : Str).cps.toList = sD from tl_D] at cd
  walk_at "sx"
  refine x_ite (fun ct => ?_) (fun ct => ?_)
  · have ct' : c = 126 := by
      have h := one_eq.mp ct
      rw [show tl ("~" : Str) = [126] from by decide +kernel] at h
      exact (List.cons.inj h).1.symm
    walk_at "sx"
    exact ⟨line, _, k + 1, rfl, by omega, hl, qq _ _ (by rw [tl_D]; exact cls_D (.inr ct')) rfl⟩
  have ct' : c ≠ 126 := fun h => ct (one_eq.mpr (by rw [h]; decide +kernel))
  walk_at "sx"
  refine x_ite (fun cs => ?_) (fun cs => ?_)
  · rw [show ("abcdefghijklmnopqrstuvwxyz" : Str).cps.toList = sS from tl_S] at cs
    walk_at "sx"
    refine x_addS (by decide +kernel) ?_
    walk_at "sx"
    exact ⟨line, _, k + 1, rfl, by omega, hl, qq _ _ (by rw [tl_append, tl_S, tl_D]; exact cls_W (.inl cs)) rfl⟩
  rw [show ("abcdefghijklmnopqrstuvwxyz" : Str).cps.toList = sS from tl_S] at cs
  walk_at "sx"
  refine x_ite (fun cc => ?_) (fun cc => ?_)
  · rw [show ("ABCDEFGHIJKLMNOPQRSTUVWXYZ" : Str).cps.toList = sC from tl_C] at cc
    walk_at "sx"
    refine x_addS (by decide +kernel) ?_
    walk_at "sx"
    exact ⟨line, _, k + 1, rfl, by omega, hl, qq _ _ (by rw [tl_append, tl_S, tl_D]; exact cls_W (.inr cc)) rfl⟩
  rw [show ("ABCDEFGHIJKLMNOPQRSTUVWXYZ" : Str).cps.toList = sC from tl_C] at cc
  walk_at "sx"
  refine x_ite (fun cm => ?_) (fun cm => ?_)
  · rw [show ("+-*/<>=&!?^@#:|.$" : Str).cps.toList = sM from tl_M] at cm
    walk_at "sx"
    exact ⟨line, _, k + 1, rfl, by omega, hl, qq _ _ (by rw [tl_M]; exact cls_M cm) rfl⟩
  rw [show ("+-*/<>=&!?^@#:|.$" : Str).cps.toList = sM from tl_M] at cm
  walk_at "sx"
  refine qq [] _ (cls_N cd ct' cs cc cm) ?_
  have e0 : ∀ l : List Nat, l.takeWhile (fun x => decide (x ∈ ([] : List Nat))) = [] := fun l => by
    cases l with
    | nil => rfl
    | cons x r => rw [List.takeWhile_cons_of_neg (by simp)]
  have e1 : runL [] (tl line) (k + 1) = 0 := by
    unfold runL
    rw [e0]
    rfl
  rw [e1]
  rfl
theorem ok_is_piece (F : Fun K "_is_piece" "_is_piece" s_is_piece f fd) (T : Txt mg) : FnOk P w K mg base CX0 1 f fd ["text"] (spIsPiece K) := by
  refine F.ok sc_is_piece (fun vs H Q E h => ?_) (fun cdv A outer s H vs Q E hr h => ?_)
  · obtain ⟨z, rfl, _⟩ := h
    rfl
  obtain ⟨z, rfl, h0, hl, q⟩ := h
  obtain ⟨c, t, e⟩ : ∃ c t, tl z = c :: t := by
    cases e : tl z with
    | nil =>
      rw [← tl_len, e] at h0
      cases h0
    | cons c t => exact ⟨c, t, rfl⟩
  have lz : z.length = t.length + 1 := by rw [← tl_len, e, List.length_cons]
  have e' : z.cps.toList = c :: t := e
  rw [e, isPc_cons] at q
  refine ⟨_, (pss_cons (ps_set (i := 1) sc_is_piece.nd rfl (Or.inl rfl) (pe_ix ix_str (pv 0) pe_int (fun _ _ => rfl)))
    (pss_cons (ps_if (pt_cmpR op_eq (pv 1) pe_str (nomark _))
      (pss_one (ps_ret (pe_and (pe_chain op_le op_le pe_int (pe_op op_sub (pe_callB call_len_str (by rfl) T.z_len (by decide +kernel) (pa_cons (pv 0) pa_nil)) pe_int) (pe_globI rfl T.c_FIGURES)) (pe_one (pe_cmpR op_ne (pe_ix ix_str (pv 0) pe_int (fun _ _ => rfl)) pe_str (nomark _))))))
      pss_nil)
    (pss_cons (ps_if (pt_cmpR op_in_sign (pv 1) (pe_globS rfl T.c_DIGITS) (by rfl))
      (pss_one (ps_ret (pe_and (pe_cmpR op_le (pe_callB call_len_str (by rfl) T.z_len (by decide +kernel) (pa_cons (pv 0) pa_nil)) (pe_globI rfl T.c_FIGURES) (nomark _)) (pe_one (pe_or (pe_cmpR op_ne (pv 1) pe_str (nomark _)) (pe_one (pe_cmpR op_eq (pe_callB call_len_str (by rfl) T.z_len (by decide +kernel) (pa_cons (pv 0) pa_nil)) pe_int (nomark _))))))))
      pss_nil)
    (pss_cons (ps_if (PW.pt (pw_or (pt_cmpR op_in_sign (pv 1) (pe_globS rfl T.c_SMALLS) (by rfl)) (pw_or1 (pt_cmpR op_in_sign (pv 1) (pe_globS rfl T.c_CAPITALS) (by rfl)))))
      (pss_one (ps_ret (pe_cmpR op_le (pe_callB call_len_str (by rfl) T.z_len (by decide +kernel) (pa_cons (pv 0) pa_nil)) (pe_globI rfl T.c_WORD_SIGNS) (nomark _))))
      pss_nil)
    (pss_cons (ps_if (pt_cmpR op_in_sign (pv 1) (pe_globS rfl T.c_MARKS) (by rfl))
      (pss_one (ps_ret (pe_cmpR op_le (pe_callB call_len_str (by rfl) T.z_len (by decide +kernel) (pa_cons (pv 0) pa_nil)) (pe_globI rfl T.c_MARK_SIGNS) (nomark _))))
      pss_nil)
    (pss_one (ps_ret (pe_cmpR op_in_sign (pv 1) pe_str (by rfl))))))))), ?_⟩
  walk_at "sx"
  refine x_ixS (c := c) (sz hl) (at0 (by rw [e']; rfl)) ?_
  walk_at "sx"
  refine x_ite (fun ct => ?_) (fun ct => ?_)
  · have ct' : c = 126 := by
      have h := one_eq.mp ct
      rw [show tl ("~" : Str) = [126] from by decide +kernel] at h
      exact (List.cons.inj h).1.symm
    rw [if_pos ct'] at q
    have qb : ∀ b : Bool, (b = true ↔ (1 ≤ t.length ∧ t.length ≤ 60 ∧ t.head? ≠ some 48)) → Q (.bl b) H := fun b hb => by
      rw [show b = decide (1 ≤ t.length ∧ t.length ≤ 60 ∧ t.head? ≠ some 48) by rw [Bool.eq_iff_iff, hb, decide_eq_true_iff]]
      exact q
    walk_at "sx"
    refine x_lenS (sz hl) ?_
    rw [lz]
    walk_at "sx"
    refine x_ite (fun c1 => ?_) (fun c1 => ?_)
    · walk_at "sx"
      refine x_ite (fun c2 => ?_) (fun c2 => ?_)
      · walk_at "sx"
        obtain ⟨d, r, rfl⟩ : ∃ d r, t = d :: r := by
          cases t with
          | nil =>
            rw [List.length_nil] at c1
            omega
          | cons d r => exact ⟨d, r, rfl⟩
        refine x_ixS (c := d) (sz hl) (at1 (by rw [e']; rfl)) ?_
        walk_at "sx"
        refine qb _ ?_
        rw [Bool.not_eq_true', decide_eq_false_iff_not, one_eq, show tl ("0" : Str) = [48] from by decide +kernel]
        constructor
        · intro h
          exact ⟨by omega, by omega, fun h2 => h (by rw [show d = 48 from Option.some.inj h2])⟩
        · intro h h2
          exact h.2.2 (by rw [(List.cons.inj h2).1]; rfl)
      · walk_at "sx"
        exact qb false ⟨(fun h => by cases h), (fun h => by omega)⟩
    · walk_at "sx"
      exact qb false ⟨(fun h => by cases h), (fun h => by omega)⟩
  have ct' : c ≠ 126 := fun h => ct (one_eq.mpr (by rw [h]; decide +kernel))
  rw [if_neg ct'] at q
  walk_at "sx"
  refine x_ite (fun cd => ?_) (fun cd => ?_)
  · rw [show ("0123456789" : Str).cps.toList = sD from tl_D] at cd
    rw [if_pos cd] at q
    have qb : ∀ b : Bool, (b = true ↔ (t.length + 1 ≤ 60 ∧ (c ≠ 48 ∨ t = []))) → Q (.bl b) H := fun b hb => by
      rw [show b = decide (t.length + 1 ≤ 60 ∧ (c ≠ 48 ∨ t = [])) by rw [Bool.eq_iff_iff, hb, decide_eq_true_iff]]
      exact q
    have e48 : (V.str ⟨#[c]⟩ = V.str ("0" : Str)) ↔ c = 48 := by
      rw [one_eq, show tl ("0" : Str) = [48] from by decide +kernel]
      exact ⟨fun h => (List.cons.inj h).1.symm, fun h => by rw [h]⟩
    walk_at "sx"
    refine x_lenS (sz hl) ?_
    rw [lz]
    walk_at "sx"
    refine x_ite (fun c1 => ?_) (fun c1 => ?_)
    · walk_at "sx"
      refine x_iteN (fun c2 => ?_) (fun c2 => ?_)
      · rw [e48] at c2
        exact qb true ⟨fun _ => ⟨by omega, .inl c2⟩, fun _ => rfl⟩
      · rw [e48] at c2
        walk_at "sx"
        refine x_lenS (sz hl) ?_
        rw [lz]
        walk_at "sx"
        refine qb _ ?_
        rw [decide_eq_true_iff]
        constructor
        · intro h
          have h' := V.int.inj h
          refine ⟨by omega, .inr ?_⟩
          cases t with
          | nil => rfl
          | cons d r =>
            rw [List.length_cons] at h'
            omega
        · intro h
          rcases h.2 with h2 | h2
          · exact absurd c2 h2
          · rw [h2]
            rfl
    · walk_at "sx"
      exact qb false ⟨(fun h => by cases h), (fun h => by omega)⟩
  rw [show ("0123456789" : Str).cps.toList = sD from tl_D] at cd
  rw [if_neg cd] at q
  walk_at "sx"
  have word : (c ∈ sS ∨ c ∈ sC) → Q (.bl (decide (((t.length + 1 : Nat) : Int) ≤ 12))) H := fun h => by
    rw [if_pos h] at q
    rw [show decide (((t.length + 1 : Nat) : Int) ≤ 12) = decide (t.length + 1 ≤ 12) by rw [decide_eq_decide]; omega]
    exact q
  refine x_ite (fun cs => ?_) (fun cs => ?_)
  · rw [show ("abcdefghijklmnopqrstuvwxyz" : Str).cps.toList = sS from tl_S] at cs
    walk_at "sx"
    refine x_lenS (sz hl) ?_
    rw [lz]
    walk_at "sx"
    exact word (.inl cs)
  rw [show ("abcdefghijklmnopqrstuvwxyz" : Str).cps.toList = sS from tl_S] at cs
  walk_at "sx"
  refine x_ite (fun cc => ?_) (fun cc => ?_)
  · rw [show ("ABCDEFGHIJKLMNOPQRSTUVWXYZ" : Str).cps.toList = sC from tl_C] at cc
    walk_at "sx"
    refine x_lenS (sz hl) ?_
    rw [lz]
    walk_at "sx"
    exact word (.inr cc)
  rw [show ("ABCDEFGHIJKLMNOPQRSTUVWXYZ" : Str).cps.toList = sC from tl_C] at cc
  rw [if_neg (by simp [cs, cc])] at q
  walk_at "sx"
  refine x_ite (fun cm => ?_) (fun cm => ?_)
  · rw [show ("+-*/<>=&!?^@#:|.$" : Str).cps.toList = sM from tl_M] at cm
    rw [if_pos cm] at q
    walk_at "sx"
    refine x_lenS (sz hl) ?_
    rw [lz]
    walk_at "sx"
    rw [show decide (((t.length + 1 : Nat) : Int) ≤ 3) = decide (t.length + 1 ≤ 3) by rw [decide_eq_decide]; omega]
    exact q
  rw [show ("+-*/<>=&!?^@#:|.$" : Str).cps.toList = sM from tl_M] at cm
  rw [if_neg cm] at q
  walk_at "sx"
  rw [show ("()," : Str).cps.toList = [40, 41, 44] from by decide +kernel]
  exact q
theorem ok_most_open (F : Fun K "_most_open" "_most_open" s_most_open f fd) (T : Txt mg) : FnOk P w K mg base CX0 1 f fd ["pieces"] (spMostOpen K) := by
  refine F.ok sc_most_open (fun vs H Q E h => ?_) (fun cdv A outer s H vs Q E hr h => ?_)
  · obtain ⟨a, zs, rfl, _⟩ := h
    rfl
  obtain ⟨a, zs, rfl, hS, q⟩ := h
  refine ⟨_, (pss_cons (ps_set (i := 1) sc_most_open.nd rfl (Or.inl rfl) pe_int)
    (pss_cons (ps_set (i := 2) sc_most_open.nd rfl (Or.inl rfl) pe_int)
    (pss_cons (ps_for PassesOwn.never rfl (pi_list (pv 0)) (pg_name (i := 3) sc_most_open.nd rfl (.inl rfl))
      (pss_cons (ps_if (pt_cmpR op_eq (pv 3) pe_str (nomark _))
      (pss_one (ps_aug (i := 2) sc_most_open.nd rfl (.inl rfl) pe_int ip_add))
      (pss_one (ps_if (pt_cmpR op_eq (pv 3) pe_str (nomark _))
      (pss_one (ps_aug (i := 2) sc_most_open.nd rfl (.inl rfl) pe_int ip_sub))
      pss_nil)))
    (pss_one (ps_set (i := 1) sc_most_open.nd rfl (Or.inl rfl) (pe_callB (call_max2 rfl) (by rfl) T.z_max (by decide +kernel) (pa_cons (pv 1) (pa_cons (pv 2) pa_nil)))))))
    (pss_one (ps_ret (pv 1)))))), ?_⟩
  walk_at "sx"
  refine x_forL (a := a) (xs := zs.map V.str) (fun i σ' H' => ∃ x, σ' = [some (.ref a), some (.int ((zs.take i).foldl mo (0, 0)).1), some (.int ((zs.take i).foldl mo (0, 0)).2), x] ∧ H' = H) ⟨none, rfl, rfl⟩ (fun i σ' H' _ h => ?_) (fun i x σ' H' hx h => ?_) (fun σ' H' h => ?_) hS
  · obtain ⟨x, _, rfl⟩ := h
    exact hS
  · obtain ⟨x0, rfl, rfl⟩ := h
    obtain ⟨z, hz, rfl⟩ : ∃ z, zs[i]? = some z ∧ x = .str z := by
      rw [List.getElem?_map] at hx
      cases e : zs[i]? with
      | none =>
        rw [e] at hx
        cases hx
      | some z =>
        rw [e] at hx
        exact ⟨z, rfl, (Option.some.inj hx).symm⟩
    have st : (zs.take (i + 1)).foldl mo (0, 0) = mo ((zs.take i).foldl mo (0, 0)) z := by
      rw [List.take_add_one, hz, List.foldl_append]
      rfl
    rw [st]
    generalize (zs.take i).foldl mo (0, 0) = s
    have ez : ∀ u : Str, (V.str z = V.str u) ↔ z = u := fun u => ⟨V.str.inj, congrArg V.str⟩
    walk_at "sx"
    refine x_ite (fun c1 => ?_) (fun c1 => ?_)
    · rw [ez] at c1
      walk_at "sx"
      refine x_ii ?_
      walk_at "sx"
      refine ⟨some (.str z), ?_, rfl⟩
      unfold mo
      rw [if_pos c1]
      rfl
    · rw [ez] at c1
      walk_at "sx"
      refine x_ite (fun c2 => ?_) (fun c2 => ?_)
      · rw [ez] at c2
        walk_at "sx"
        refine x_ii ?_
        walk_at "sx"
        refine ⟨some (.str z), ?_, rfl⟩
        unfold mo
        rw [if_neg c1, if_pos c2]
        rfl
      · rw [ez] at c2
        walk_at "sx"
        refine x_ii ?_
        walk_at "sx"
        refine ⟨some (.str z), ?_, rfl⟩
        unfold mo
        rw [if_neg c1, if_neg c2]
        rfl
  · obtain ⟨x, rfl, rfl⟩ := h
    rw [List.length_map, List.take_length] at *
    walk_at "sx"
    exact q
end
end Gs

namespace Gs
open PySem PySem.Spec PyProof.Rows L2 TL
abbrev s_pieces_of : Stmt := PySem.Challenge.pw_goalstead_k06_pieces_of_a_line.main.body.getD 14 (.Pass ⟨0, 0, 0, 0⟩)
theorem sc_pieces_of : FnScope ["line", "most", "pieces", "at", "end"] ["line", "most"] (defScope s_pieces_of) := ⟨rfl, rfl, rfl, by decide +kernel, rfl, by decide +kernel, by decide +kernel⟩
theorem drop_tw (p : Nat → Bool) : ∀ l : List Nat, l.drop (l.takeWhile p).length = l.dropWhile p
  | [] => rfl
  | x :: r => by
    rw [List.takeWhile_cons, List.dropWhile_cons]
    split
    · rw [List.length_cons, List.drop_succ_cons]
      exact drop_tw p r
    · rfl
theorem cut_mid {z : Str} {i j : Nat} (h1 : i ≤ j) (h2 : j ≤ z.length) : tl (cutS z (some (i : Int)) (some (j : Int))) = ((tl z).drop i).take (j - i) := by
  show (((tl z).drop (HT.sIx z.length 0 (some (i : Int)))).take (HT.sIx z.length z.length (some (j : Int)) - HT.sIx z.length 0 (some (i : Int)))) = _
  rw [HT.sIx_nat, HT.sIx_nat, Nat.min_eq_left h2, Nat.min_eq_left (Nat.le_trans h1 h2)]
theorem run_blanks {L : List Nat} {k : Nat} {ts : List (List Nat)} (h : Cut (L.drop k) ts) : Cut (L.drop (k + runL [32] L k)) ts ∧ ∀ r, L.drop (k + runL [32] L k) ≠ 32 :: r := by
  have e : L.drop (k + runL [32] L k) = (L.drop k).dropWhile fun x => decide (x ∈ [32]) := by
    rw [← List.drop_drop]
    exact drop_tw _ _
  rw [e]
  refine ⟨h.drop, fun r hr => ?_⟩
  have : ∀ l : List Nat, l.dropWhile (fun x => decide (x ∈ [32])) ≠ 32 :: r := by
    intro l
    induction l with
    | nil => exact fun z => by cases z
    | cons y l ih =>
      by_cases hy : y = 32
      · rw [List.dropWhile_cons_of_pos (by simp [hy])]
        exact ih
      · rw [List.dropWhile_cons_of_neg (by simp [hy])]
        exact fun z => hy (List.cons.inj z).1
  exact this _ hr
/-- the promise of pieces_of where it refuses nothing -/
def spPieces (K : PySem.W.Frag) : Sp := fun vs H Q _ => ∃ (line : Str) (most : Int) (zs : List Str), vs = [.str line, .int most] ∧ line.length ≤ 100000 ∧ Cut (tl line) (zs.map tl) ∧ (∀ z ∈ zs, isPc (tl z) = true) ∧ (zs.length : Int) ≤ most ∧ mostOpen zs ≤ 12 ∧
  ∀ (p : Addr) (H' : Hp), H p = none → Same H H' → H' p = some (.lst (zs.map V.str)) → Q (.ref p) H'
theorem Cut.len {l : List Nat} {ts : List (List Nat)} (h : Cut l ts) : ts.length ≤ l.length := by
  induction h with
  | nil => exact Nat.le_refl _
  | blank h ih => rw [List.length_cons]; omega
  | piece _ _ _ h ih => rw [List.length_cons, List.length_cons, List.length_append]; omega
section
variable {P : Program} {w : World} {K : PySem.W.Frag} {mg : Str → Option Value} {base : Heap} {f : Addr} {fd : FuncData}
def HasEnd (P : Program) (w : World) (K : PySem.W.Frag) (mg : Str → Option Value) (base : Heap) : Prop := Has P w K mg base 2 "_end_of_piece" ["line", "at"] (spEnd K)
def HasIsPiece (P : Program) (w : World) (K : PySem.W.Frag) (mg : Str → Option Value) (base : Heap) : Prop := Has P w K mg base 1 "_is_piece" ["text"] (spIsPiece K)
def HasMostOpen (P : Program) (w : World) (K : PySem.W.Frag) (mg : Str → Option Value) (base : Heap) : Prop := Has P w K mg base 1 "_most_open" ["pieces"] (spMostOpen K)
theorem ok_pieces_of {kws : List (Str × V)} (F : FunD K "pieces_of" "pieces_of" (defArgs s_pieces_of) (defBody s_pieces_of) (defScope s_pieces_of) [] kws f fd) (T : Txt mg) (C_run : HasRun P w K mg base) (C_end_of_piece : HasEnd P w K mg base)
    (C_is_piece : HasIsPiece P w K mg base) (C_most_open : HasMostOpen P w K mg base) : FnOk P w K mg base CX0 3 f fd ["line", "most"] (spPieces K) := by
  refine F.ok sc_pieces_of (fun vs H Q E h => ?_) (fun cdv A outer s H vs Q E hr h => ?_)
  · obtain ⟨line, most, zs, rfl, _⟩ := h
    rfl
  obtain ⟨line, most, zs, rfl, hl, hcut, hpc, hm, ho, q⟩ := h
  refine ⟨_, PSs.nox (pss_cons (ps_set (i := 2) sc_pieces_of.nd rfl (Or.inl rfl) (pe_lst pa_nil))
    (pss_cons (ps_set (i := 3) sc_pieces_of.nd rfl (Or.inl rfl) (pe_callH C_run hr (pa_cons (pv 0) (pa_cons pe_int (pa_cons pe_str pa_nil)))))
    (pss_cons (ps_while PassesOwn.never (pt_cmpR op_lt (pv 3) (pe_callB call_len_str (by rfl) T.z_len (by decide +kernel) (pa_cons (pv 0) pa_nil)) (nomark _))
      (pss_cons (ps_set (i := 4) sc_pieces_of.nd rfl (Or.inl rfl) (pe_callH C_end_of_piece hr (pa_cons (pv 0) (pa_cons (pv 3) pa_nil))))
    (pss_cons (ps_if (pt_not (pt_val (pe_callH C_is_piece hr (pa_cons (pe_slice sl_str (pv 0) (po_some (pv 3)) (po_some (pv 4))) pa_nil))))
      (pss_one ps_never)
      pss_nil)
    (pss_cons (ps_expr (pe_bm PySem.F.plainAttrs_list PySem.F.slot_list_append PySem.F.type_list_append mt_append (pv 2) (pa_cons (pe_slice sl_str (pv 0) (po_some (pv 3)) (po_some (pv 4))) pa_nil)))
    (pss_one (ps_set (i := 3) sc_pieces_of.nd rfl (Or.inl rfl) (pe_callH C_run hr (pa_cons (pv 0) (pa_cons (pv 4) (pa_cons pe_str pa_nil))))))))))
    (pss_cons (ps_if (PW.pt (pw_or (pt_cmpR op_gt (pe_callB (call_lenK (K := K)) (by rfl) T.z_len (by decide +kernel) (pa_cons (pv 2) pa_nil)) (pv 1) (nomark _)) (pw_or1 (pt_cmpR op_gt (pe_callH C_most_open hr (pa_cons (pv 2) pa_nil)) (pe_globI rfl T.c_BRACKETS) (nomark _)))))
      (pss_one ps_never)
      pss_nil)
    (pss_one (ps_ret (pv 2))))))), ?_⟩
  walk_at "sx"
  rename_i a na
  have sa := same_upd (o := .lst []) na
  have e32 : tl (" " : Str) = [32] := by decide +kernel
  have hk0 : runL [32] (tl line) 0 ≤ line.length := by
    have := runL_le [32] (tl line) 0 (Nat.zero_le _)
    rw [tl_len] at this
    omega
  refine ⟨line, _, 0, rfl, Nat.zero_le _, hl, ?_⟩
  rw [e32]
  walk_at "sx"
  refine x_while (fun m σ' H' => ∃ (k : Nat) (done todo : List Str) (y : Option V), σ' = [some (.str line), some (.int most), some (.ref a), some (.int (k : Int)), y] ∧ Same H H' ∧ H' a = some (.lst (done.map V.str)) ∧ zs = done ++ todo ∧ Cut ((tl line).drop k) (todo.map tl) ∧
    (∀ r, (tl line).drop k ≠ 32 :: r) ∧ k ≤ line.length ∧ m = line.length - k) _ ⟨_, [], zs, none, rfl, sa, upd_same, rfl, ?_, ?_, ?_, rfl⟩ ?_
  · exact (run_blanks (k := 0) hcut).1
  · exact (run_blanks (k := 0) hcut).2
  · rw [Nat.zero_add]
    exact hk0
  rintro m σ' H' ⟨k, done, todo, y, rfl, sH, eH, ez, hc, hb, hk, rfl⟩
  walk_at "sx"
  refine x_lenS (sz hl) ?_
  walk_at "sx"
  refine x_ite (fun c => ?_) (fun c => ?_)
  · have hkl : k < (tl line).length := by rw [tl_len]; omega
    obtain ⟨cd, hcd⟩ : ∃ cd, (tl line)[k]? = some cd := ⟨_, List.getElem?_eq_getElem hkl⟩
    have ed : (tl line).drop k = cd :: (tl line).drop (k + 1) := by
      obtain ⟨h1, h2⟩ := List.getElem?_eq_some_iff.mp hcd
      rw [List.drop_eq_getElem_cons h1, h2]
    rw [ed] at hc hb
    have hc32 : cd ≠ 32 := fun z => hb _ (by rw [z])
    obtain ⟨t, l, z, todo', el, et, eo, ht, hs, hcut'⟩ : ∃ t l z todo', (tl line).drop (k + 1) = t ++ l ∧ tl z = cd :: t ∧ todo = z :: todo' ∧ (∀ x ∈ t, x ∈ cls cd) ∧ Stop cd l ∧ Cut l (todo'.map tl) := by
      generalize hL : cd :: (tl line).drop (k + 1) = L0 at hc
      generalize hT : todo.map tl = T0 at hc
      cases hc with
      | nil => cases hL
      | blank h => exact absurd (List.cons.inj hL).1 hc32
      | @piece c' t l ts h1 h2 h3 h4 =>
        obtain ⟨e1, e2⟩ := List.cons.inj hL
        subst e1
        cases todo with
        | nil => cases hT
        | cons z todo' =>
          obtain ⟨e3, e4⟩ := List.cons.inj hT
          subst e4
          exact ⟨t, l, z, todo', e2, e3, rfl, h2, h3, h4⟩
    subst eo
    have er : runL (cls cd) (tl line) (k + 1) = t.length := by
      unfold runL
      rw [el, run_stop ht (stop_of hs)]
    have elen : (tl line).length = k + 1 + t.length + l.length := by
      have := congrArg List.length el
      rw [List.length_drop, List.length_append] at this
      omega
    have edl : (tl line).drop (k + 1 + t.length) = l := by
      rw [← List.drop_drop, el, List.drop_left]
    rw [tl_len] at elen
    have hkz : isPc (tl z) = true := hpc z (by rw [ez]; simp)
    have ecut : cutS line (some (k : Int)) (some ((k + 1 + t.length : Nat) : Int)) = z := by
      refine ext_tl ?_
      rw [cut_mid (by omega) (by omega), et, ed, el, show k + 1 + t.length - k = t.length + 1 by omega, List.take_succ_cons, List.take_left]
    have zl : z.length = t.length + 1 := by rw [← tl_len, et, List.length_cons]
    refine ⟨fun σ2 H2 => ∃ (k2 : Nat) (y : Option V), σ2 = [some (.str line), some (.int most), some (.ref a), some (.int (k2 : Int)), y] ∧ Same H H2 ∧ H2 a = some (.lst ((done ++ [z]).map V.str)) ∧ k2 = k + 1 + t.length + runL [32] (tl line) (k + 1 + t.length), fun σ2 H2 h => ?_, ?_⟩
    · obtain ⟨k2, y2, rfl, s2, e2, rfl⟩ := h
      have rb := run_blanks (L := tl line) (k := k + 1 + t.length) (ts := todo'.map tl) (by rw [edl]; exact hcut')
      have rle := runL_le [32] (tl line) (k + 1 + t.length) (by rw [tl_len]; omega)
      rw [tl_len] at rle
      exact ⟨_, by omega, _, done ++ [z], todo', y2, rfl, s2, e2, by rw [ez, List.append_assoc]; rfl, rb.1, rb.2, rle, rfl⟩
    · walk_at "sx"
      refine ⟨line, k, cd, rfl, hl, hcd, ?_⟩
      rw [er]
      walk_at "sx"
      refine x_slS (sz hl) ?_
      rw [ecut]
      walk_at "sx"
      refine ⟨z, rfl, by omega, by omega, ?_⟩
      rw [hkz]
      walk_at "sx"
      refine x_slS (sz hl) ?_
      rw [ecut]
      walk_at "sx"
      have hdl : done.length < 100000 := by
        have h1 := hcut.len
        rw [ez, List.length_map, List.length_append, List.length_cons, tl_len] at h1
        omega
      refine x_app eH (szl (by rw [List.length_map]; exact hdl)) ?_
      walk_at "sx"
      refine ⟨line, _, k + 1 + t.length, rfl, by omega, hl, ?_⟩
      rw [e32]
      walk_at "sx"
      refine ⟨_, _, rfl, fun b o hb2 => ?_, ?_, rfl⟩
      · rw [upd_ne (ne_of_none hb2 na)]
        exact sH b o hb2
      · rw [upd_same, List.map_append]
        rfl
  · have ek : (tl line).drop k = [] := List.drop_eq_nil_of_le (by rw [tl_len]; omega)
    rw [ek] at hc
    have et : todo = [] := by
      generalize hT : todo.map tl = T0 at hc
      cases hc
      cases todo with
      | nil => rfl
      | cons z r => cases hT
    subst et
    rw [List.append_nil] at ez
    subst ez
    walk_at "sx"
    rw [List.length_map]
    refine x_ite (fun cm => ?_) (fun cm => ?_)
    · omega
    walk_at "sx"
    refine ⟨a, zs, rfl, .of eH, ?_⟩
    walk_at "sx"
    refine x_ite (fun c12 => ?_) (fun c12 => ?_)
    · omega
    walk_at "sx"
    exact q a H' na sH eH
end
end Gs

namespace Gs
open PySem PySem.Spec PyProof.Rows L2 TL
abbrev s_law_figure : Stmt := PySem.Challenge.pw_goalstead_k06_pieces_of_a_line.main.body.getD 24 (.Pass ⟨0, 0, 0, 0⟩)
theorem sc_law_figure : FnScope ["thing"] ["thing"] (defScope s_law_figure) := ⟨rfl, rfl, rfl, by decide +kernel, rfl, by decide +kernel, by decide +kernel⟩
abbrev s_law_kind : Stmt := PySem.Challenge.pw_goalstead_k06_pieces_of_a_line.main.body.getD 26 (.Pass ⟨0, 0, 0, 0⟩)
theorem sc_law_kind : FnScope ["bit", "some", "k"] ["bit"] (defScope s_law_kind) := ⟨rfl, rfl, rfl, by decide +kernel, rfl, by decide +kernel, by decide +kernel⟩
abbrev s_law_stuck : Stmt := PySem.Challenge.pw_goalstead_k06_pieces_of_a_line.main.body.getD 27 (.Pass ⟨0, 0, 0, 0⟩)
theorem sc_law_stuck : FnScope ["left", "right", "one", "other"] ["left", "right"] (defScope s_law_stuck) := ⟨rfl, rfl, rfl, by decide +kernel, rfl, by decide +kernel, by decide +kernel⟩
abbrev s_law_line : Stmt := PySem.Challenge.pw_goalstead_k06_pieces_of_a_line.main.body.getD 28 (.Pass ⟨0, 0, 0, 0⟩)
theorem sc_law_line : FnScope ["bits", "pool", "text", "last", "bit", "gap"] ["bits", "pool"] (defScope s_law_line) := ⟨rfl, rfl, rfl, by decide +kernel, rfl, by decide +kernel, by decide +kernel⟩
abbrev s_law_texts : Stmt := PySem.Challenge.pw_goalstead_k06_pieces_of_a_line.main.body.getD 29 (.Pass ⟨0, 0, 0, 0⟩)
theorem sc_law_texts : FnScope ["found", "due", "text"] ["found", "due"] (defScope s_law_texts) := ⟨rfl, rfl, rfl, by decide +kernel, rfl, by decide +kernel, by decide +kernel⟩
abbrev s_law_piece : Stmt := PySem.Challenge.pw_goalstead_k06_pieces_of_a_line.main.body.getD 30 (.Pass ⟨0, 0, 0, 0⟩)
theorem sc_law_piece : FnScope ["pool", "held", "way", "bracket"] ["pool", "held"] (defScope s_law_piece) := ⟨rfl, rfl, rfl, by decide +kernel, rfl, by decide +kernel, by decide +kernel⟩
abbrev s_law : Stmt := PySem.Challenge.pw_goalstead_k06_pieces_of_a_line.main.body.getD 31 (.Pass ⟨0, 0, 0, 0⟩)
theorem sc_law : FnScope ["script", "pool", "bits", "held", "turn", "bit", "line", "found"] ["script"] (defScope s_law) := ⟨rfl, rfl, rfl, by decide +kernel, rfl, by decide +kernel, by decide +kernel⟩
theorem x_isi2 {K : PySem.W.Frag} {H : Hp} {Q : VK} {x : V} {t : Value} {n : String} {b : Bool} (ty : TyX K H x t) (e : PySem.W.kitOne K t (.type n) = some b) (q : Q (.bl b) H) : rIsi K [x, .ty n] H Q :=
  ⟨x, .ty n, t, .type n, b, rfl, .ty n, ty, e, q⟩
theorem strLog {i : Int} (h : i.natAbs < 10 ^ 60) : i.natAbs.log2 < 1920 := Nat.lt_trans (log_of (a := 200) (by omega) (by decide)) (by decide)
theorem tl_neg {n : Int} (h : n < 0) : tl (("~" : Str) ++ toString (0 - n)) = 126 :: numL (0 - n).toNat := by
  rw [tl_append, show tl ("~" : Str) = [126] from by decide +kernel]
  have e : (0 - n) = (((0 - n).toNat : Nat) : Int) := by omega
  show 126 :: tl (Str.ofString (toString (0 - n))) = _
  rw [e, tl_num]
  rfl
def spFigure (K : PySem.W.Frag) : Sp := fun vs H Q _ => ∃ n : Int, vs = [.int n] ∧ n.natAbs < 10 ^ 60 ∧ ∀ z : Str, OkBit (tl z) → tl z ≠ [40] → tl z ≠ [41] → Q (.str z) H
def kindOf (c : Nat) : Int := if c ∈ sD ∨ c = 126 then 0 else if c ∈ sS then 1 else if c ∈ sC then 2 else if c ∈ [40, 41, 44] then 3 else 4
def spKind (K : PySem.W.Frag) : Sp := fun vs H Q _ => ∃ (z : Str) (c : Nat) (t : List Nat), vs = [.str z] ∧ tl z = c :: t ∧ z.length ≤ 1000 ∧ ∀ H', Same H H' → Q (.int (kindOf c)) H'
def spStuck (K : PySem.W.Frag) : Sp := fun vs H Q _ => ∃ (y z : Str) (c d : Nat) (t r : List Nat), vs = [.str y, .str z] ∧ tl y = c :: t ∧ tl z = d :: r ∧ y.length ≤ 1000 ∧ z.length ≤ 1000 ∧ ∀ (b : Bool) H', Same H H' → (b = false → d ∉ cls c) → Q (.bl b) H'
theorem len_num {n : Nat} (h : n < 10 ^ 60) : (Str.ofString (toString ((n : Nat) : Int))).length ≤ 60 := by
  rw [← tl_len, tl_num]
  exact numL_len (k := 60) (by decide) h
theorem not_stuck {c d : Nat} (h : (if kindOf c > 2 ∨ kindOf d > 1 ∨ d = 126 then kindOf c = 4 ∧ kindOf d = 4 else kindOf c > 0 ∨ kindOf d = 0) → False) : d ∉ cls c := by
  intro hd
  apply h
  have z := cls_small hd
  unfold cls at hd
  by_cases h1 : c ∈ sD ∨ c = 126
  · rw [if_pos h1] at hd
    have kc : kindOf c = 0 := if_pos h1
    have kd : kindOf d = 0 := if_pos (.inl hd)
    have := sD_iff.mp hd
    rw [if_neg (by rw [kc, kd]; omega)]
    exact .inr kd
  · rw [if_neg h1] at hd
    by_cases h2 : c ∈ sS ∨ c ∈ sC
    · rw [if_pos h2] at hd
      have kc : kindOf c = 1 ∨ kindOf c = 2 := by
        unfold kindOf
        rw [if_neg h1]
        by_cases h3 : c ∈ sS
        · rw [if_pos h3]
          exact .inl rfl
        · rw [if_neg h3, if_pos (h2.resolve_left h3)]
          exact .inr rfl
      have kd : (kindOf d = 0 ∨ kindOf d = 1) ∧ d ≠ 126 := by
        rcases List.mem_append.mp hd with hd | hd
        · have h3 := sS_iff.mp hd
          refine ⟨.inr ?_, by omega⟩
          unfold kindOf
          rw [if_neg (by rw [sD_iff]; omega), if_pos hd]
        · have h3 := sD_iff.mp hd
          exact ⟨.inl (if_pos (.inl hd)), by omega⟩
      rw [if_neg (by omega)]
      omega
    · rw [if_neg h2] at hd
      by_cases h3 : c ∈ sM
      · rw [if_pos h3] at hd
        have k4 : ∀ x, x ∈ sM → kindOf x = 4 := fun x hx => by
          have h4 := sM_all hx
          unfold kindOf
          rw [if_neg (by rw [sD_iff]; omega), if_neg (by rw [sS_iff]; omega), if_neg (by rw [sC_iff]; omega), if_neg]
          simp only [List.mem_cons, List.not_mem_nil, or_false]
          omega
        have kc := k4 c h3
        have kd := k4 d hd
        rw [if_pos (by omega)]
        exact ⟨kc, kd⟩
      · rw [if_neg h3] at hd
        cases hd
def five (c : Nat) : List Str := [("0123456789~" : Str), ("abcdefghijklmnopqrstuvwxyz" : Str), ("ABCDEFGHIJKLMNOPQRSTUVWXYZ" : Str), ("()," : Str), ⟨#[c]⟩]
def fnd (c i : Nat) : Bool := decide (c ∈ tl ((five c).getD i Str.empty))
theorem kind_head (c : Nat) : ((((List.range (5 : Int).toNat).filter (fnd c)).map fun k : Nat => ((k : Nat) : Int)).map V.int)[0]? = some (.int (kindOf c)) := by
  have e : List.range (5 : Int).toNat = [0, 1, 2, 3, 4] := by decide
  have f0 : fnd c 0 = decide (c ∈ sD ∨ c = 126) := by
    show decide (c ∈ tl ("0123456789~" : Str)) = _
    rw [show tl ("0123456789~" : Str) = sD ++ [126] from by decide +kernel, decide_eq_decide, List.mem_append, List.mem_singleton]
  have f1 : fnd c 1 = decide (c ∈ sS) := by
    show decide (c ∈ tl ("abcdefghijklmnopqrstuvwxyz" : Str)) = _
    rw [tl_S]
  have f2 : fnd c 2 = decide (c ∈ sC) := by
    show decide (c ∈ tl ("ABCDEFGHIJKLMNOPQRSTUVWXYZ" : Str)) = _
    rw [tl_C]
  have f3 : fnd c 3 = decide (c ∈ [40, 41, 44]) := by
    show decide (c ∈ tl ("()," : Str)) = _
    rw [show tl ("()," : Str) = [40, 41, 44] from by decide +kernel]
  have f4 : fnd c 4 = true := by
    show decide (c ∈ [c]) = true
    exact decide_eq_true (List.mem_singleton.mpr rfl)
  rw [e]
  unfold kindOf
  by_cases h0 : c ∈ sD ∨ c = 126
  · rw [List.filter_cons_of_pos (by rw [f0]; exact decide_eq_true h0), if_pos h0]
    rfl
  rw [List.filter_cons_of_neg (by rw [f0]; simpa using h0), if_neg h0]
  by_cases h1 : c ∈ sS
  · rw [List.filter_cons_of_pos (by rw [f1]; exact decide_eq_true h1), if_pos h1]
    rfl
  rw [List.filter_cons_of_neg (by rw [f1]; simpa using h1), if_neg h1]
  by_cases h2 : c ∈ sC
  · rw [List.filter_cons_of_pos (by rw [f2]; exact decide_eq_true h2), if_pos h2]
    rfl
  rw [List.filter_cons_of_neg (by rw [f2]; simpa using h2), if_neg h2]
  by_cases h3 : c ∈ [40, 41, 44]
  · rw [List.filter_cons_of_pos (by rw [f3]; exact decide_eq_true h3), if_pos h3]
    rfl
  rw [List.filter_cons_of_neg (by rw [f3]; simpa using h3), if_neg h3, List.filter_cons_of_pos f4]
  rfl
section
variable {P : Program} {w : World} {K : PySem.W.Frag} {mg : Str → Option Value} {base : Heap} {f : Addr} {fd : FuncData}
theorem ok_law_figure (F : Fun K "_law_figure" "_law_figure" s_law_figure f fd) (T : Txt mg) : FnOk P w K mg base CX0 1 f fd ["thing"] (spFigure K) := by
  refine F.ok sc_law_figure (fun vs H Q E h => ?_) (fun cdv A outer s H vs Q E hr h => ?_)
  · obtain ⟨n, rfl, _⟩ := h
    rfl
  obtain ⟨n, rfl, hn, q⟩ := h
  refine ⟨_, (pss_cons (ps_if (pt_val (pe_callB (call_isiKK (K := K)) (by rfl) T.z_isinstance (by decide +kernel) (pa_cons (pv 0) (pa_cons (pe_bltn (v := .ty "str") (by rfl) T.z_str (by decide +kernel) rfl) pa_nil))))
      (pss_one (ps_ret (pv 0)))
      pss_nil)
    (pss_cons (ps_if (pt_cmpR op_lt (pv 0) pe_int (nomark _))
      (pss_one (ps_ret (pe_op op_add_str pe_str (pe_callTy call_str_int (by rfl) T.z_str (by decide +kernel) (pa_cons (pe_op op_sub pe_int (pv 0)) pa_nil)))))
      pss_nil)
    (pss_one (ps_ret (pe_callTy call_str_int (by rfl) T.z_str (by decide +kernel) (pa_cons (pv 0) pa_nil)))))), ?_⟩
  walk_at "sx"
  refine x_isi2 (t := .type "int") (b := false) (.base (.int n)) (kit_ty (by decide +kernel)) ?_
  walk_at "sx"
  refine x_ite (fun c => ?_) (fun c => ?_)
  · walk_at "sx"
    have e : (0 - n) = (((0 - n).toNat : Nat) : Int) := by omega
    have hb : OkBit (tl (("~" : Str) ++ toString (0 - n))) := by
      rw [tl_neg c]
      exact ok_neg (by omega) (by omega)
    refine x_strI (strLog (by omega)) ?_
    refine x_addS ?_ ?_
    · have h1 : (Str.ofString (toString (0 - n))).length ≤ 60 := by
        rw [e]
        exact len_num (by omega)
      have h2 : ("~" : Str).length = 1 := by decide +kernel
      refine sz ?_
      show ("~" : Str).length + (Str.ofString (toString (0 - n))).length ≤ _
      omega
    · refine q _ hb ?_ ?_
      · rw [tl_neg c]
        intro z
        cases z
      · rw [tl_neg c]
        intro z
        cases z
  · walk_at "sx"
    refine x_strI (strLog hn) ?_
    have e : n = ((n.toNat : Nat) : Int) := by omega
    have et : tl (Str.ofString (toString n)) = numL n.toNat := by
      rw [e, tl_num, Int.toNat_natCast]
    have hD := numL_D n.toNat
    refine q _ (by rw [et]; exact ok_num (by omega)) (fun z => ?_) (fun z => ?_)
    · rw [et] at z
      rw [z] at hD
      exact absurd (hD 40 (by simp)) (by decide)
    · rw [et] at z
      rw [z] at hD
      exact absurd (hD 41 (by simp)) (by decide)
theorem ok_law_kind (F : Fun K "_law_kind" "_law_kind" s_law_kind f fd) (T : Txt mg) : FnOk P w K mg base CX0 1 f fd ["bit"] (spKind K) := by
  refine F.ok sc_law_kind (fun vs H Q E h => ?_) (fun cdv A outer s H vs Q E hr h => ?_)
  · obtain ⟨z, c, t, rfl, _⟩ := h
    rfl
  obtain ⟨z, c, t, rfl, et, hl, q⟩ := h
  have et' : z.cps.toList = c :: t := et
  refine ⟨_, (pss_cons (ps_set (i := 1) sc_law_kind.nd rfl (Or.inr rfl) (pe_lst (pa_cons pe_str (pa_cons pe_str (pa_cons pe_str (pa_cons pe_str (pa_cons (pe_ix ix_str (pv 0) pe_int (fun _ _ => rfl)) pa_nil)))))))
    (pss_one (ps_ret (pe_ix (ix_listK (K := K)) (pe_lc (own := [("k", 2)]) (g := gName 2) rfl sc_law_kind.nd (pi_range1 (by rfl) T.z_range (pa_cons pe_int pa_nil)) (blkOk_by (own := [("k", 2)]) (N := ["bit", "some", "k"]) (sc := defScope s_law_kind) (by decide +kernel)) (fun _ _ _ _ _ => pg_name (i := 2) sc_law_kind.nd rfl (Or.inl rfl)) (fun _ _ _ _ _ => (pts_one (pt_cmpR op_in_sign (pe_ix ix_str (pv 0) pe_int (fun _ _ => rfl)) (pe_ix (ix_listK (K := K)) (pv 1) (pv 2) (fun _ _ => rfl)) (by rfl)))) (fun _ _ _ _ _ => (pv 2))) pe_int (fun _ _ => rfl))))), ?_⟩
  walk_at "sx"
  refine x_ixS (c := c) (sz (by omega)) (at0 (by rw [et']; rfl)) ?_
  walk_at "sx"
  rename_i a na
  have sa := same_upd (o := .lst [.str ("0123456789~" : Str), .str ("abcdefghijklmnopqrstuvwxyz" : Str), .str ("ABCDEFGHIJKLMNOPQRSTUVWXYZ" : Str), .str ("()," : Str), .str ⟨#[c]⟩]) na
  refine x_lcR1 (n := 5) (fun D i H' => H' D = some (.lst ((((List.range i).filter (fnd c)).map fun k : Nat => ((k : Nat) : Int)).map V.int)) ∧ Same H H' ∧ H' a = some (.lst ((five c).map V.str)) ∧ D ≠ a) (by omega) (by omega) ?_ ?_ ?_
  · intro D hD
    exact ⟨upd_same, sa.trans (same_upd hD), by rw [upd_ne (ne_of_none upd_same hD)]; exact upd_same, (ne_of_none upd_same hD).symm⟩
  · rintro D hD i H' hi ⟨eD, sH, ea, nDa⟩
    have hi5 : i < (five c).length := by show i < 5; omega
    walk_at "sx"
    refine ⟨rfl, ?_⟩
    walk_at "sx"
    refine x_ixS (c := c) (sz (by omega)) (at0 (by rw [et']; rfl)) ?_
    walk_at "sx"
    refine x_ixL (xs := (five c).map V.str) (v := .str (five c)[i]) (.of ea) (atI_nat (by rw [List.getElem?_map, List.getElem?_eq_getElem hi5]; rfl)) ?_
    walk_at "sx"
    have ef : fnd c i = decide (c ∈ tl (five c)[i]) := by
      unfold fnd
      rw [List.getD_eq_getElem?_getD, List.getElem?_eq_getElem hi5]
      rfl
    have er : ∀ b : Bool, fnd c i = b → (List.range (i + 1)).filter (fnd c) = (List.range i).filter (fnd c) ++ (if b then [i] else []) := fun b hb => by
      rw [List.range_succ, List.filter_append]
      congr 1
      cases b with
      | true => rw [List.filter_cons_of_pos hb]; rfl
      | false => rw [List.filter_cons_of_neg (by rw [hb]; decide)]; rfl
    refine x_ite (fun cc => ?_) (fun cc => ?_)
    · walk_at "sx"
      refine ⟨_, eD, szl ?_, ?_, ?_, ?_, nDa⟩
      · rw [List.length_map, List.length_map]
        have := List.length_filter_le (fnd c) (List.range i)
        rw [List.length_range] at this
        omega
      · rw [upd_same, er true (by rw [ef]; exact decide_eq_true cc), List.map_append, List.map_append]
        rfl
      · intro b o hb
        rw [upd_ne (ne_of_none hb (sa.free hD))]
        exact sH b o hb
      · rw [upd_ne nDa.symm]
        exact ea
    · walk_at "sx"
      refine ⟨?_, sH, ea, nDa⟩
      rw [eD, er false (by rw [ef]; exact decide_eq_false cc)]
      simp
  · rintro D hD H' ⟨eD, sH, ea, nDa⟩
    walk_at "sx"
    have eh : ((((List.range (5 : Int).toNat).filter (fnd c)).map fun k : Nat => ((k : Nat) : Int)).map V.int)[0]? = some (.int (kindOf c)) := kind_head c
    refine x_ixL (.of eD) (at0 eh) ?_
    exact q H' sH
def HasKind (P : Program) (w : World) (K : PySem.W.Frag) (mg : Str → Option Value) (base : Heap) : Prop := Has P w K mg base 1 "_law_kind" ["bit"] (spKind K)
theorem ok_law_stuck (F : Fun K "_law_stuck" "_law_stuck" s_law_stuck f fd) (T : Txt mg) (C_law_kind : HasKind P w K mg base) : FnOk P w K mg base CX0 2 f fd ["left", "right"] (spStuck K) := by
  refine F.ok sc_law_stuck (fun vs H Q E h => ?_) (fun cdv A outer s H vs Q E hr h => ?_)
  · obtain ⟨y, z, c, d, t, r, rfl, _⟩ := h
    rfl
  obtain ⟨y, z, c, d, t, r, rfl, ey, ez, ly, lz, q⟩ := h
  have ez' : z.cps.toList = d :: r := ez
  refine ⟨_, (pss_cons (ps_set (i := 2) sc_law_stuck.nd rfl (Or.inl rfl) (pe_callH C_law_kind hr (pa_cons (pv 0) pa_nil)))
    (pss_cons (ps_set (i := 3) sc_law_stuck.nd rfl (Or.inl rfl) (pe_callH C_law_kind hr (pa_cons (pv 1) pa_nil)))
    (pss_cons (ps_if (PW.pt (pw_or (pt_cmpR op_gt (pv 2) pe_int (nomark _)) (pw_or (pt_cmpR op_gt (pv 3) pe_int (nomark _)) (pw_or1 (pt_cmpR op_eq (pe_ix ix_str (pv 1) pe_int (fun _ _ => rfl)) pe_str (nomark _))))))
      (pss_one (ps_ret (pe_and (pe_cmpR op_eq (pv 2) pe_int (nomark _)) (pe_one (pe_cmpR op_eq (pv 3) pe_int (nomark _))))))
      pss_nil)
    (pss_one (ps_ret (pe_or (pe_cmpR op_gt (pv 2) pe_int (nomark _)) (pe_one (pe_cmpR op_eq (pv 3) pe_int (nomark _))))))))), ?_⟩
  walk_at "sx"
  refine ⟨y, c, t, rfl, ey, ly, fun H1 s1 => ?_⟩
  walk_at "sx"
  refine ⟨z, d, r, rfl, ez, lz, fun H2 s2 => ?_⟩
  have s12 := s1.trans s2
  have e126 : (V.str ⟨#[d]⟩ = V.str ("~" : Str)) ↔ d = 126 := by
    rw [one_eq, show tl ("~" : Str) = [126] from by decide +kernel]
    exact ⟨fun h => (List.cons.inj h).1.symm, fun h => by rw [h]⟩
  have ns := @not_stuck c d
  have big : (kindOf c > 2 ∨ kindOf d > 1 ∨ d = 126) → ∀ b : Bool, (b = true ↔ kindOf c = 4 ∧ kindOf d = 4) → Q (.bl b) H2 := fun h b hb => by
    refine q b H2 s12 fun e => ns fun z => ?_
    rw [if_pos h, ← hb, e] at z
    cases z
  walk_at "sx"
  have bigV : ∀ h : (kindOf c > 2 ∨ kindOf d > 1 ∨ d = 126), (kindOf c = 4 → Q (.bl (decide (V.int (kindOf d) = V.int 4))) H2) ∧ (kindOf c ≠ 4 → Q (.bl false) H2) := fun h => by
    refine ⟨fun h4 => big h _ ?_, fun h4 => big h _ ?_⟩
    · rw [decide_eq_true_iff]
      exact ⟨fun z => ⟨h4, V.int.inj z⟩, fun z => by rw [z.2]⟩
    · exact ⟨(fun z => by cases z), fun z => absurd z.1 h4⟩
  have ei : ∀ a b : Int, (V.int a = V.int b) ↔ a = b := fun a b => ⟨V.int.inj, congrArg V.int⟩
  refine x_ite (fun c1 => ?_) (fun c1 => ?_)
  · walk_at "sx"
    refine x_ite (fun c4 => ?_) (fun c4 => ?_)
    · rw [ei] at c4
      walk_at "sx"
      exact (bigV (.inl c1)).1 c4
    · rw [ei] at c4
      walk_at "sx"
      exact (bigV (.inl c1)).2 c4
  walk_at "sx"
  refine x_ite (fun c2 => ?_) (fun c2 => ?_)
  · walk_at "sx"
    refine x_ite (fun c4 => ?_) (fun c4 => ?_)
    · rw [ei] at c4
      walk_at "sx"
      exact (bigV (.inr (.inl c2))).1 c4
    · rw [ei] at c4
      walk_at "sx"
      exact (bigV (.inr (.inl c2))).2 c4
  walk_at "sx"
  refine x_ixS (c := d) (sz (by omega)) (at0 (by rw [ez']; rfl)) ?_
  walk_at "sx"
  refine x_ite (fun c3 => ?_) (fun c3 => ?_)
  · rw [e126] at c3
    walk_at "sx"
    refine x_ite (fun c4 => ?_) (fun c4 => ?_)
    · rw [ei] at c4
      walk_at "sx"
      exact (bigV (.inr (.inr c3))).1 c4
    · rw [ei] at c4
      walk_at "sx"
      exact (bigV (.inr (.inr c3))).2 c4
  rw [e126] at c3
  have small : ∀ b : Bool, (b = true ↔ kindOf c > 0 ∨ kindOf d = 0) → Q (.bl b) H2 := fun b hb => by
    refine q b H2 s12 fun e => ns fun z => ?_
    rw [if_neg (by omega), ← hb, e] at z
    cases z
  walk_at "sx"
  refine x_ite (fun c5 => ?_) (fun c5 => ?_)
  · walk_at "sx"
    exact small true ⟨fun _ => .inl c5, fun _ => rfl⟩
  · walk_at "sx"
    refine small _ ?_
    rw [decide_eq_true_iff, ei]
    exact ⟨.inr, fun z => z.resolve_left c5⟩
def HasStuck (P : Program) (w : World) (K : PySem.W.Frag) (mg : Str → Option Value) (base : Heap) : Prop := Has P w K mg base 2 "_law_stuck" ["left", "right"] (spStuck K)
def spLine (K : PySem.W.Frag) : Sp := fun vs H Q _ => ∃ (a p l : Addr) (zs : List Str) (c : Int), vs = [.ref a, .ref p] ∧ SqL K H a (zs.map V.str) ∧ a ≠ p ∧ a ≠ l ∧ (∀ z ∈ zs, OkBit (tl z)) ∧ zs.length ≤ 40 ∧ PoolAt H p l c ∧ c + 50 ≤ 1000000000000 ∧
  ∀ (z : Str) (H' : Hp), Cut (tl z) (zs.map tl) → z.length ≤ 10000 → PoolAt H' p l (c + 50) → Kx p l H H' → Q (.str z) H'
theorem Kx.sqL {K : PySem.W.Frag} {p l a : Addr} {H H' : Hp} {xs : List V} (k : Kx p l H H') (h1 : a ≠ p) (h2 : a ≠ l) (h : SqL K H a xs) : SqL K H' a xs := by
  rcases h with (h | ⟨o, h⟩) | h
  · exact .inl (.inl (k _ _ h h1 h2))
  · exact .inl (.inr ⟨o, k _ _ h h1 h2⟩)
  · exact .inr h
theorem blanks {n : Int} (h0 : 0 ≤ n) (h1 : n ≤ 10) : MulOk (" " : Str) n ∧ tl (Txt.mul (" " : Str) n) = List.replicate n.toNat 32 := by
  have e : (" " : Str) = ⟨#[32]⟩ := by decide +kernel
  refine ⟨?_, ?_⟩
  · rw [e]
    rcases (show n = 0 ∨ n = 1 ∨ n = 2 ∨ n = 3 ∨ n = 4 ∨ n = 5 ∨ n = 6 ∨ n = 7 ∨ n = 8 ∨ n = 9 ∨ n = 10 by omega) with rfl | rfl | rfl | rfl | rfl | rfl | rfl | rfl | rfl | rfl | rfl <;> exact ⟨by decide, by decide, by decide⟩
  · rw [e]
    exact mul_one_list 32 n
theorem ok_law_line (F : Fun K "_law_line" "_law_line" s_law_line f fd) (T : Txt mg) (C_law_take : HasTake P w K mg base) (C_law_stuck : HasStuck P w K mg base) : FnOk P w K mg base CX0 3 f fd ["bits", "pool"] (spLine K) := by
  refine F.ok sc_law_line (fun vs H Q E h => ?_) (fun cdv A outer s H vs Q E hr h => ?_)
  · obtain ⟨a, p, l, zs, c, rfl, _⟩ := h
    rfl
  obtain ⟨a, p, l, zs, c, rfl, hS, ap, al, hz, hz40, P0, hc, q⟩ := h
  refine ⟨_, (pss_cons (ps_set (i := 2) sc_law_line.nd rfl (Or.inl rfl) (pe_op op_strMul pe_str (pe_callH C_law_take hr (pa_cons (pv 1) (pa_cons pe_int pa_nil)))))
    (pss_cons (ps_set (i := 3) sc_law_line.nd rfl (Or.inl rfl) pe_str)
    (pss_cons (ps_for PassesOwn.never rfl (pi_list (pv 0)) (pg_name (i := 4) sc_law_line.nd rfl (.inl rfl))
      (pss_cons (ps_set (i := 5) sc_law_line.nd rfl (Or.inl rfl) (pe_callH C_law_take hr (pa_cons (pv 1) (pa_cons pe_int pa_nil))))
    (Evl.pss_cut (ps_if (PW.pt (pw_and (pt_cmpR op_eq (pv 5) pe_int (nomark _)) (pw_and1 (pt_val (pe_callH C_law_stuck hr (pa_cons (pv 3) (pa_cons (pv 4) pa_nil)))))))
      (pss_one (ps_set (i := 5) sc_law_line.nd rfl (Or.inl rfl) pe_int))
      pss_nil)
    (pss_cons (ps_set (i := 2) sc_law_line.nd rfl (Or.inl rfl) (pe_op op_add_str (pe_op op_add_str (pv 2) (pe_op op_strMul pe_str (pv 5))) (pv 4)))
    (pss_one (ps_set (i := 3) sc_law_line.nd rfl (Or.inl rfl) (pv 4)))))))
    (pss_one (ps_ret (pe_op op_add_str (pv 2) (pe_op op_strMul pe_str (pe_callH C_law_take hr (pa_cons (pv 1) (pa_cons pe_int pa_nil)))))))))), ?_⟩
  walk_at "sx"
  refine ⟨p, l, c, 3, rfl, P0, by omega, by decide, by decide, fun n H1 n0 n1 P1 k1 => ?_⟩
  walk_at "sx"
  obtain ⟨mo1, e1⟩ := blanks n0 (by omega)
  refine x_mul mo1 ?_
  walk_at "sx"
  refine x_forL (a := a) (xs := zs.map V.str) (fun i σ' H' => ∃ (txt last : Str) (cl : Nat) (tlast : List Nat) (x y : Option V), σ' = [some (.ref a), some (.ref p), some (.str txt), some (.str last), x, y] ∧ Laid (tl txt) ((zs.take i).map tl) cl ∧ tl last = cl :: tlast ∧ last.length ≤ 61 ∧
    txt.length ≤ 10 + 70 * i ∧ PoolAt H' p l (c + 1 + i) ∧ Kx p l H H') ?_ (fun i σ' H' _ h => ?_) (fun i x σ' H' hx h => ?_) (fun σ' H' h => ?_) (k1.sqL ap al hS)
  · refine ⟨_, _, 40, [], none, none, rfl, ?_, by decide +kernel, by decide +kernel, ?_, P1.mono (by omega), k1⟩
    · rw [e1]
      exact Laid.start _
    · rw [← tl_len, e1, List.length_replicate]
      omega
  · obtain ⟨_, _, _, _, _, _, _, _, _, _, _, _, kk⟩ := h
    exact kk.sqL ap al hS
  · obtain ⟨txt, last, cl, tlast, x0, y0, rfl, hlaid, elast, llast, ltxt, PH, kH⟩ := h
    obtain ⟨z, hzi, rfl⟩ : ∃ z, zs[i]? = some z ∧ x = .str z := by
      rw [List.getElem?_map] at hx
      cases e : zs[i]? with
      | none =>
        rw [e] at hx
        cases hx
      | some z =>
        rw [e] at hx
        exact ⟨z, rfl, (Option.some.inj hx).symm⟩
    have hil : i < zs.length := (List.getElem?_eq_some_iff.mp hzi).1
    have hok : OkBit (tl z) := hz z (List.mem_of_getElem? hzi)
    obtain ⟨d, r, ez, _, _⟩ := hok.ex
    have lz := hok.len
    rw [tl_len] at lz
    walk_at "sx"
    refine ⟨p, l, _, 3, rfl, PH, by omega, by decide, by decide, fun g H2 g0 g1 P2 k2 => ?_⟩
    walk_at "sx"
    refine x_cut (M := fun σ' G => ∃ g : Int, σ' = [some (.ref a), some (.ref p), some (.str txt), some (.str last), some (.str z), some (.int g)] ∧ 0 ≤ g ∧ g ≤ 3 ∧ (0 < g ∨ d ∉ cls cl) ∧ PoolAt G p l (c + 1 + i + 1) ∧ Kx p l H G) ?_ ?_
    · walk_at "sx"
      refine x_ite (fun cg => ?_) (fun cg => ?_)
      · walk_at "sx"
        refine ⟨last, z, cl, d, tlast, r, rfl, elast, ez, by omega, by omega, fun b H3 s3 hb => ?_⟩
        walk_at "sx"
        have PG := P2.same s3
        have kG : Kx p l H H3 := (kH.trans k2).trans (.of s3)
        refine x_iteB (fun eb => ?_) (fun eb => ?_)
        · walk_at "sx"
          exact ⟨1, rfl, by decide, by decide, .inl (by decide), PG, kG⟩
        · walk_at "sx"
          exact ⟨g, rfl, g0, by omega, .inr (hb eb), PG, kG⟩
      · walk_at "sx"
        have cg' : g ≠ 0 := fun h => cg (congrArg V.int h)
        exact ⟨g, rfl, g0, by omega, .inl (by omega), P2, kH.trans k2⟩
    · rintro σ' G ⟨g, rfl, g0, g3, hg, PG, kG⟩
      obtain ⟨mo2, e2⟩ := blanks g0 (by omega)
      have lg : (Txt.mul (" " : Str) g).length ≤ 3 := by
        rw [← tl_len, e2, List.length_replicate]
        omega
      walk_at "sx"
      refine x_mul mo2 ?_
      refine x_addS (sz (by omega)) ?_
      have lt2 : (txt ++ Txt.mul (" " : Str) g).length ≤ 13 + 70 * i := by
        rw [← tl_len, tl_append, List.length_append, tl_len, tl_len]
        omega
      walk_at "sx"
      refine x_addS (sz (by omega)) ?_
      walk_at "sx"
      refine ⟨_, z, d, r, some (.str z), some (.int g), rfl, ?_, ez, by omega, ?_, PG.mono (by omega), kG⟩
      · rw [tl_append, tl_append, e2, ez, List.take_add_one, hzi, List.map_append]
        have h3 := hlaid.add (g := g.toNat) (c := d) (t := r) (by rw [← ez]; exact hok) (hg.imp (fun h => by omega) id)
        rw [← ez] at h3 ⊢
        exact h3
      · rw [← tl_len, tl_append, List.length_append, tl_len, tl_len]
        omega
  · obtain ⟨txt, last, cl, tlast, x0, y0, rfl, hlaid, elast, llast, ltxt, PH, kH⟩ := h
    rw [List.length_map] at hlaid ltxt PH
    rw [List.take_length] at hlaid
    walk_at "sx"
    refine ⟨p, l, _, 3, rfl, PH, by omega, by decide, by decide, fun g H2 g0 g1 P2 k2 => ?_⟩
    obtain ⟨mo2, e2⟩ := blanks g0 (by omega)
    have lg : (Txt.mul (" " : Str) g).length ≤ 3 := by
      rw [← tl_len, e2, List.length_replicate]
      omega
    walk_at "sx"
    refine x_mul mo2 ?_
    refine x_addS (sz (by omega)) ?_
    walk_at "sx"
    refine q _ H2 ?_ ?_ (P2.mono (by omega)) (kH.trans k2)
    · rw [tl_append, e2]
      exact hlaid.done _
    · rw [← tl_len, tl_append, List.length_append, tl_len, tl_len]
      omega
def spTexts (K : PySem.W.Frag) : Sp := fun vs H Q _ => ∃ (a b : Addr) (zs : List Str), vs = [.ref a, .ref b] ∧ H a = some (.lst (zs.map V.str)) ∧ SqL K H b (zs.map V.str) ∧ zs.length ≤ 10000 ∧ (∀ z ∈ zs, okStr z = true) ∧ ∀ H', Same H H' → Q (.bl true) H'
theorem ok_law_texts (F : Fun K "_law_texts" "_law_texts" s_law_texts f fd) (T : Txt mg) : FnOk P w K mg base CX0 1 f fd ["found", "due"] (spTexts K) := by
  refine F.ok sc_law_texts (fun vs H Q E h => ?_) (fun cdv A outer s H vs Q E hr h => ?_)
  · obtain ⟨a, b, zs, rfl, _⟩ := h
    rfl
  obtain ⟨a, b, zs, rfl, ha, hb, hl, hz, q⟩ := h
  have hr' := hr
  refine ⟨_, (pss_cons (ps_if (PW.pt (pw_or (pt_not (pt_val (pe_callB (call_isiKK (K := K)) (by rfl) T.z_isinstance (by decide +kernel) (pa_cons (pv 0) (pa_cons (pe_bltn (v := .ty "list") (by rfl) T.z_list (by decide +kernel) rfl) pa_nil))))) (pw_or1 (pt_cmpR op_ne (pe_callB (call_lenK (K := K)) (by rfl) T.z_len (by decide +kernel) (pa_cons (pv 0) pa_nil)) (pe_callB (call_lenK (K := K)) (by rfl) T.z_len (by decide +kernel) (pa_cons (pv 1) pa_nil)) (nomark _)))))
      (pss_one (ps_ret pe_bl))
      pss_nil)
    (pss_one (ps_ret (pe_and (pe_callB (cr_allK (K := K) rfl) (by rfl) T.z_all (by decide +kernel) (pa_cons (pe_lc (own := [("text", 2)]) (g := gName 2) (tt := tYes) rfl sc_law_texts.nd (pi_list (pv 0)) (blkOk_by (own := [("text", 2)]) (N := ["found", "due", "text"]) (sc := defScope s_law_texts) (by decide +kernel)) (fun _ _ _ _ _ => pg_name (i := 2) sc_law_texts.nd rfl (Or.inl rfl)) (fun _ _ _ _ _ => pts_nil) (fun _ _ _ _ _ => (pe_callB (call_isiKK (K := K)) (by rfl) T.z_isinstance (by decide +kernel) (pa_cons (pv 2) (pa_cons (pe_bltn (v := .ty "str") (by rfl) T.z_str (by decide +kernel) rfl) pa_nil))))) pa_nil)) (pe_one (pe_cmpR (op_eqDK (K := K) hr.units) (pv 0) (pv 1) (nomark _))))))), ?_⟩
  walk_at "sx"
  refine x_isi2 (t := .type "list") (b := true) (.base (.lst ha)) (kit_ty (by decide +kernel)) ?_
  walk_at "sx"
  refine x_iteN (fun c => absurd rfl c) (fun _ => ?_)
  walk_at "sx"
  refine x_lcL (a := a) (xs := zs.map V.str) (fun D i H' => H' D = some (.lst ((List.replicate i true).map V.bl)) ∧ Same H H') (.of ha) ?_ ?_ ?_ ?_
  · intro D hD
    exact ⟨upd_same, same_upd hD⟩
  · rintro D hD i H' _ ⟨_, sH⟩
    exact sH.seq (.of ha)
  · rintro D hD i x H' hx ⟨eD, sH⟩
    have hil : i < zs.length := by
      have := (List.getElem?_eq_some_iff.mp hx).1
      rwa [List.length_map] at this
    obtain ⟨z, hzi, rfl⟩ : ∃ z, zs[i]? = some z ∧ x = .str z := by
      rw [List.getElem?_map] at hx
      cases e : zs[i]? with
      | none =>
        rw [e] at hx
        cases hx
      | some z =>
        rw [e] at hx
        exact ⟨z, rfl, (Option.some.inj hx).symm⟩
    walk_at "sx"
    refine ⟨rfl, ?_⟩
    walk_at "sx"
    refine x_isi2 (t := .type "str") (b := true) (.base (.str z)) (kit_ty (by decide +kernel)) ?_
    refine ⟨_, eD, szl (by rw [List.length_map, List.length_replicate]; omega), ?_, fun b o hb2 => ?_⟩
    · rw [upd_same, List.replicate_succ', List.map_append]
      rfl
    · rw [upd_ne (ne_of_none hb2 hD)]
      exact sH b o hb2
  · rintro D hD H' ⟨eD, sH⟩
    walk_at "sx"
    refine ⟨D, _, rfl, .of eD, ?_⟩
    have eall : (List.replicate (zs.map V.str).length true).all id = true := by
      rw [List.all_eq_true]
      intro x hx
      exact List.eq_of_mem_replicate hx
    rw [eall]
    walk_at "sx"
    exact x_eqStrs (zs := zs) (.of (sH _ _ ha)) (sH.seq hb) hz (q H' sH)
def spPiece (K : PySem.W.Frag) : Sp := fun vs H Q _ => ∃ (p l : Addr) (c held : Int), vs = [.ref p, .int held] ∧ PoolAt H p l c ∧ c + 40 ≤ 1000000000000 ∧
  ∀ (z : Str) (H' : Hp), OkBit (tl z) → (12 ≤ held → z ≠ "(") → PoolAt H' p l (c + 40) → Kx p l H H' → Q (.str z) H'
def HasFigure (P : Program) (w : World) (K : PySem.W.Frag) (mg : Str → Option Value) (base : Heap) : Prop := Has P w K mg base 1 "_law_figure" ["thing"] (spFigure K)
def HasNumber (P : Program) (w : World) (K : PySem.W.Frag) (mg : Str → Option Value) (base : Heap) : Prop := Has P w K mg base 3 "_law_number" ["pool"] (spNumber K)
def HasName (P : Program) (w : World) (K : PySem.W.Frag) (mg : Str → Option Value) (base : Heap) : Prop := Has P w K mg base 3 "_law_name" ["pool", "way"] (spName K)
theorem tl40 : tl ("(" : Str) = [40] := by decide +kernel
theorem tl41 : tl (")" : Str) = [41] := by decide +kernel
theorem ok_law_piece (F : Fun K "_law_piece" "_law_piece" s_law_piece f fd) (T : Txt mg) (C_law_take : HasTake P w K mg base) (C_law_figure : HasFigure P w K mg base) (C_law_number : HasNumber P w K mg base) (C_law_name : HasName P w K mg base) : FnOk P w K mg base CX0 4 f fd ["pool", "held"] (spPiece K) := by
  refine F.ok sc_law_piece (fun vs H Q E h => ?_) (fun cdv A outer s H vs Q E hr h => ?_)
  · obtain ⟨p, l, c, held, rfl, _⟩ := h
    rfl
  obtain ⟨p, l, c, held, rfl, P0, hc, q⟩ := h
  refine ⟨_, (pss_cons (ps_set (i := 2) sc_law_piece.nd rfl (Or.inl rfl) (pe_callH C_law_take hr (pa_cons (pv 0) (pa_cons pe_int pa_nil))))
    (pss_cons (ps_set (i := 3) sc_law_piece.nd rfl (Or.inl rfl) (pe_ix (ix_listK (K := K)) (pe_lst (pa_cons pe_str (pa_cons pe_str pa_nil))) (pe_callH C_law_take hr (pa_cons (pv 0) (pa_cons pe_int pa_nil))) (fun _ _ => rfl)))
    (pss_cons (ps_if (pt_cmpR op_eq (pv 2) pe_int (nomark _))
      (pss_one (ps_ret (pe_callH C_law_figure hr (pa_cons (pe_callH C_law_number hr (pa_cons (pv 0) pa_nil)) pa_nil))))
      pss_nil)
    (pss_cons (ps_if (pt_cmpR op_lt (pv 2) pe_int (nomark _))
      (pss_one (ps_ret (pe_callH C_law_name hr (pa_cons (pv 0) (pa_cons (pe_op op_sub (pv 2) pe_int) pa_nil)))))
      pss_nil)
    (pss_cons (ps_if (PW.pt (pw_and (pt_cmpR op_eq (pv 2) pe_int (nomark _)) (pw_and1 (pt_cmpR op_lt (pv 1) pe_int (nomark _)))))
      (pss_one (ps_ret (pv 3)))
      pss_nil)
    (pss_one (ps_ret (pe_ix (ix_listK (K := K)) (pe_lst (pa_cons pe_str (pa_cons pe_str pa_nil))) (pe_callTy call_int1 (by rfl) T.z_int (by decide +kernel) (pa_cons (pe_cmpR op_eq (pv 2) pe_int (nomark _)) pa_nil)) (fun _ _ => rfl))))))))), ?_⟩
  walk_at "sx"
  refine ⟨p, l, c, 6, rfl, P0, by omega, by decide, by decide, fun way H1 w0 w1 P1 k1 => ?_⟩
  walk_at "sx"
  refine ⟨p, l, c + 1, 2, rfl, by walk_at "pl", by omega, by decide, by decide, fun n H2 n0 n1 P2 k2 => ?_⟩
  have hA := kxl P1 (by assumption) k2
  have kA : Kx p l H H2 := by walk_at "kx"
  have ei : ∀ a b : Int, (V.int a = V.int b) ↔ a = b := fun a b => ⟨V.int.inj, congrArg V.int⟩
  have go : ∀ (br : Str), (br = "(" ∨ br = ")") → True := fun _ _ => trivial
  obtain ⟨bv, hbv, hatb⟩ := atL (xs := [V.str ("(" : Str), V.str (")" : Str)]) n0 n1
  obtain ⟨br, rfl, hbr⟩ : ∃ br : Str, bv = .str br ∧ (br = "(" ∨ br = ")") := by
    simp only [List.mem_cons, List.not_mem_nil, or_false] at hbv
    rcases hbv with e | e
    · exact ⟨_, e, .inl rfl⟩
    · exact ⟨_, e, .inr rfl⟩
  have okbr : OkBit (tl br) := by
    rcases hbr with rfl | rfl
    · rw [tl40]
      exact ok_sign (.inl rfl)
    · rw [tl41]
      exact ok_sign (.inr (.inl rfl))
  walk_at "sx"
  refine x_ixL (.of hA) hatb ?_
  walk_at "sx"
  refine x_ite (fun c0 => ?_) (fun c0 => ?_)
  · walk_at "sx"
    refine ⟨p, l, c + 1 + 1, rfl, P2, by omega, fun m H3 m0 P3 k3 => ?_⟩
    walk_at "sx"
    refine ⟨m, rfl, m0, fun z hz h40 h41 => ?_⟩
    exact q z H3 hz (fun _ e => h40 (by rw [e, tl40])) (P3.mono (by omega)) (kA.trans k3)
  rw [ei] at c0
  walk_at "sx"
  refine x_ite (fun c4 => ?_) (fun c4 => ?_)
  · walk_at "sx"
    refine ⟨p, l, c + 1 + 1, way - 1, rfl, P2, by omega, by omega, by omega, fun z H3 hz P3 k3 => ?_⟩
    refine q z H3 hz.bit (fun _ e => ?_) (P3.mono (by omega)) (kA.trans k3)
    obtain ⟨c, t, et, h⟩ := hz
    rw [e, tl40] at et
    obtain ⟨e1, e2⟩ := List.cons.inj et
    subst e1
    rcases h with ⟨_, h, _⟩ | ⟨_, h, _⟩ | ⟨_, h, _⟩
    · exact absurd h (by decide)
    · exact absurd h (by decide)
    · exact absurd h (by decide)
  walk_at "sx"
  refine x_ite (fun c5 => ?_) (fun c5 => ?_)
  · walk_at "sx"
    refine x_ite (fun c12 => ?_) (fun c12 => ?_)
    · walk_at "sx"
      exact q br H2 okbr (fun h => by omega) (P2.mono (by omega)) kA
    · rw [ei] at c5
      subst c5
      walk_at "sx"
      refine q _ _ (by rw [tl41]; exact ok_sign (.inr (.inl rfl))) (fun _ => by decide) ?_ (by walk_at "kx")
      have := P2.mono (show c + 1 + 1 ≤ c + 40 by omega)
      walk_at "pl"
  · walk_at "sx"
    rw [decide_eq_false c5]
    walk_at "sx"
    refine q _ _ (by rw [show tl ("," : Str) = [44] from by decide +kernel]; exact ok_sign (.inr (.inr rfl))) (fun _ => by decide) ?_ (by walk_at "kx")
    have := P2.mono (show c + 1 + 1 ≤ c + 40 by omega)
    walk_at "pl"
end
end Gs

namespace Gs
open PySem PySem.Spec PyProof.Rows L2 TL
theorem Kx.sqLs {K : PySem.W.Frag} {p l a : Addr} {H0 H H' : Hp} {xs : List V} (h : SqL K H0 a xs) (hp : H0 p = Option.none) (hl : H0 l = Option.none) (s : Same H0 H) (k : Kx p l H H') : SqL K H' a xs := by
  rcases h with (h | ⟨o, h⟩) | h
  · exact .inl (.inl (k _ _ (s _ _ h) (ne_of_none h hp) (ne_of_none h hl)))
  · exact .inl (.inr ⟨o, k _ _ (s _ _ h) (ne_of_none h hp) (ne_of_none h hl)⟩)
  · exact .inr h
def spLaw (K : PySem.W.Frag) : Sp := fun vs H Q _ => ∃ (a : Addr) (ns : List Int), vs = [.ref a] ∧ SqL K H a (ns.map V.int) ∧ ns.length ≤ 63 ∧ ∀ H', Q (.bl true) H'
section
variable {P : Program} {w : World} {K : PySem.W.Frag} {mg : Str → Option Value} {base : Heap} {f : Addr} {fd : FuncData}
def HasPool (P : Program) (w : World) (K : PySem.W.Frag) (mg : Str → Option Value) (base : Heap) : Prop := Has P w K mg base 1 "_law_pool" ["script", "k"] (spPool K)
def HasLine (P : Program) (w : World) (K : PySem.W.Frag) (mg : Str → Option Value) (base : Heap) : Prop := Has P w K mg base 3 "_law_line" ["bits", "pool"] (spLine K)
def HasTexts (P : Program) (w : World) (K : PySem.W.Frag) (mg : Str → Option Value) (base : Heap) : Prop := Has P w K mg base 1 "_law_texts" ["found", "due"] (spTexts K)
def HasPiece (P : Program) (w : World) (K : PySem.W.Frag) (mg : Str → Option Value) (base : Heap) : Prop := Has P w K mg base 4 "_law_piece" ["pool", "held"] (spPiece K)
def HasPieces (P : Program) (w : World) (K : PySem.W.Frag) (mg : Str → Option Value) (base : Heap) : Prop := HasK P w K mg base 3 "pieces_of" ["line", "most"] 1 ["most"] [.int 200] (spPieces K)
theorem ok_law (F : Fun K "law" "law" s_law f fd) (T : Txt mg) (C_law_pool : HasPool P w K mg base) (C_law_take : HasTake P w K mg base) (C_law_piece : HasPiece P w K mg base) (C_law_line : HasLine P w K mg base) (C_pieces_of : HasPieces P w K mg base) (C_law_texts : HasTexts P w K mg base) :
    FnOk P w K mg base CX0 5 f fd ["script"] (spLaw K) := by
  refine F.ok sc_law (fun vs H Q E h => ?_) (fun cdv A outer s H vs Q E hr h => ?_)
  · obtain ⟨a, ns, rfl, _⟩ := h
    rfl
  obtain ⟨a, ns, rfl, hS, hlen, q⟩ := h
  refine ⟨_, (pss_cons (ps_set (i := 1) sc_law.nd rfl (Or.inl rfl) (pe_callH C_law_pool hr (pa_cons (pv 0) (pa_cons pe_int pa_nil))))
    (pss_cons (ps_set (i := 2) sc_law.nd rfl (Or.inl rfl) (pe_lst pa_nil))
    (pss_cons (ps_set (i := 3) sc_law.nd rfl (Or.inl rfl) pe_int)
    (pss_cons (ps_for PassesOwn.never rfl (pi_range1 (by rfl) T.z_range (pa_cons (pe_callH C_law_take hr (pa_cons (pv 1) (pa_cons pe_int pa_nil))) pa_nil)) (pg_name (i := 4) sc_law.nd rfl (.inl rfl))
      (pss_cons (ps_set (i := 5) sc_law.nd rfl (Or.inl rfl) (pe_callH C_law_piece hr (pa_cons (pv 1) (pa_cons (pv 3) pa_nil))))
    (pss_cons (ps_set (i := 3) sc_law.nd rfl (Or.inl rfl) (pe_op op_sub (pe_op op_add (pv 3) (pe_callTy call_int1 (by rfl) T.z_int (by decide +kernel) (pa_cons (pe_cmpR op_eq (pv 5) pe_str (nomark _)) pa_nil))) (pe_callTy call_int1 (by rfl) T.z_int (by decide +kernel) (pa_cons (pe_cmpR op_eq (pv 5) pe_str (nomark _)) pa_nil))))
    (pss_one (ps_expr (pe_bm PySem.F.plainAttrs_list PySem.F.slot_list_append PySem.F.type_list_append mt_append (pv 2) (pa_cons (pv 5) pa_nil)))))))
    (pss_cons (ps_set (i := 6) sc_law.nd rfl (Or.inl rfl) (pe_callH C_law_line hr (pa_cons (pv 2) (pa_cons (pe_callH C_law_pool hr (pa_cons (pv 0) (pa_cons pe_int pa_nil))) pa_nil))))
    (pss_cons (ps_set (i := 7) sc_law.nd rfl (Or.inl rfl) (pe_callHD C_pieces_of hr (pa_cons (pv 6) pa_nil)))
    (pss_cons (ps_if (pt_not (pt_val (pe_callH C_law_texts hr (pa_cons (pv 7) (pa_cons (pv 2) pa_nil)))))
      (pss_one (ps_ret pe_bl))
      pss_nil)
    (pss_cons (ps_expr (pe_bm PySem.F.plainAttrs_list PySem.F.slot_list_append PySem.F.type_list_append mt_append (pv 7) (pa_cons pe_str pa_nil)))
    (pss_cons (ps_asg pe_str (pg_sub (pv 7) pe_int set_list))
    (pss_one (ps_ret (pe_callH C_law_texts hr (pa_cons (pe_callHK C_pieces_of hr (pa_cons (pv 6) pa_nil) (pk_cons (pe_callB (call_lenK (K := K)) (by rfl) T.z_len (by decide +kernel) (pa_cons (pv 2) pa_nil)) pk_nil)) (pa_cons (pv 2) pa_nil)))))))))))))), ?_⟩
  walk_at "sx"
  refine ⟨a, ns, 0, rfl, hS, hlen, by decide, by decide, fun p l H1 np nl s1 P1 => ?_⟩
  walk_at "sx"
  rename_i b nb
  obtain ⟨bp, bl⟩ := P1.fresh nb
  refine ⟨p, l, 0, 41, rfl, by walk_at "pl", by decide, by decide, by decide, fun n H2 n0 n1 P2 k2 => ?_⟩
  have eb := kxl P1 nb k2
  have kA : Kx p l H1 H2 := by walk_at "kx"
  have nbH : H b = none := s1.free nb
  walk_at "sx"
  refine x_forR1 (n := n) (fun i σ' G => ∃ (zs : List Str) (x y : Option V), σ' = [some (.ref a), some (.ref p), some (.ref b), some (.int (zs.foldl mo (0, 0)).2), x, y, none, none] ∧ G b = some (.lst (zs.map V.str)) ∧ zs.length = i ∧ (∀ z ∈ zs, OkBit (tl z)) ∧ (zs.foldl mo (0, 0)).1 ≤ 12 ∧ (zs.foldl mo (0, 0)).2 ≤ 12 ∧
    PoolAt G p l (1 + 40 * i) ∧ (∀ c o, H c = some o → G c = some o)) (by omega) (by omega) ?_ (fun i σ' G hi h => ?_) (fun σ' G h => ?_)
  · exact ⟨[], none, none, rfl, eb, rfl, (fun z hz => by cases hz), by decide, by decide, P2.mono (by omega), fun c o hc => kA c o (s1 c o hc) (ne_of_none hc np) (ne_of_none hc nl)⟩
  · obtain ⟨zs, x, y, rfl, eG, hl, hok, m1, m2, PG, kG⟩ := h
    walk_at "sx"
    refine ⟨p, l, _, _, rfl, PG, by omega, fun z H3 hz h40 P3 k3 => ?_⟩
    have eb3 := k3 b _ eG bp bl
    walk_at "sx"
    refine x_app eb3 (szl (by rw [List.length_map]; omega)) ?_
    have nb3 := (kG b)
    have em : (zs ++ [z]).foldl mo (0, 0) = mo (zs.foldl mo (0, 0)) z := by rw [List.foldl_append]; rfl
    have ez : ∀ u : Str, decide (V.str z = V.str u) = decide (z = u) := fun u => by
      rw [decide_eq_decide]
      exact ⟨V.str.inj, congrArg V.str⟩
    have e2 : (zs.foldl mo (0, 0)).2 + (if decide (V.str z = V.str ("(" : Str)) = true then 1 else 0) - (if decide (V.str z = V.str (")" : Str)) = true then 1 else 0) = ((zs ++ [z]).foldl mo (0, 0)).2 := by
      rw [em, ez, ez]
      unfold mo
      have d12 : ¬ (("(" : Str) = (")" : Str)) := by decide +kernel
      by_cases h1 : z = "("
      · rw [if_pos h1, decide_eq_true h1, if_pos rfl, decide_eq_false (by rw [h1]; exact d12)]
        simp
      · rw [if_neg h1, decide_eq_false h1]
        by_cases h2 : z = ")"
        · rw [if_pos h2, decide_eq_true h2]
          simp
        · rw [if_neg h2, decide_eq_false h2]
          simp
    have e3 : ((zs ++ [z]).foldl mo (0, 0)).2 ≤ 12 := by
      rw [em]
      unfold mo
      by_cases h1 : z = "("
      · rw [if_pos h1]
        have : ¬ 12 ≤ (zs.foldl mo (0, 0)).2 := fun h => h40 h h1
        show (zs.foldl mo (0, 0)).2 + 1 ≤ 12
        omega
      · rw [if_neg h1]
        split
        · show (zs.foldl mo (0, 0)).2 - 1 ≤ 12
          omega
        · exact m2
    have e4 : ((zs ++ [z]).foldl mo (0, 0)).1 ≤ 12 := by
      have := e3
      rw [em] at this ⊢
      have er : (mo (zs.foldl mo (0, 0)) z).1 = if (mo (zs.foldl mo (0, 0)) z).2 > (zs.foldl mo (0, 0)).1 then (mo (zs.foldl mo (0, 0)) z).2 else (zs.foldl mo (0, 0)).1 := rfl
      rw [er]
      split
      · exact this
      · exact m1
    refine ⟨zs ++ [z], some (.int i), some (.str z), ?_, ?_, ?_, ?_, e4, e3, ?_, ?_⟩
    · rw [← e2]
      rfl
    · rw [upd_same, List.map_append]
      rfl
    · rw [List.length_append, hl]
      rfl
    · intro y hy
      rcases List.mem_append.mp hy with hy | hy
      · exact hok y hy
      · rw [List.mem_singleton.mp hy]
        exact hz
    · exact (P3.mono (by omega)).updo bp bl
    · intro c o hc
      rw [upd_ne (ne_of_none hc nbH)]
      exact k3 c o (kG c o hc) (ne_of_none hc np) (ne_of_none hc nl)
  · obtain ⟨zs, x, y, rfl, eG, hl, hok, m1, m2, PG, kG⟩ := h
    have l40 : zs.length ≤ 40 := by omega
    walk_at "sx"
    refine ⟨a, ns, 1, rfl, Same.seq kG hS, hlen, by decide, by decide, fun p2 l2 H3 np2 nl2 s3 P3 => ?_⟩
    walk_at "sx"
    refine ⟨b, p2, l2, zs, 0, rfl, .of (s3 _ _ eG), ne_of_none eG np2, ne_of_none eG nl2, hok, l40, P3, by decide, fun z H4 hcut lz P4 k4 => ?_⟩
    have eb4 : H4 b = some (.lst (zs.map V.str)) := k4 _ _ (s3 _ _ eG) (ne_of_none eG np2) (ne_of_none eG nl2)
    have hpc : ∀ y ∈ zs, isPc (tl y) = true := fun y hy => (hok y hy).pc
    have hst : ∀ y ∈ zs, okStr y = true := fun y hy => okStr_small (hok y hy).small
    walk_at "sx"
    refine ⟨z, 200, zs, rfl, by omega, hcut, hpc, by omega, m1, fun fo H5 nfo s5 efo => ?_⟩
    have eb5 := s5 _ _ eb4
    walk_at "sx"
    refine ⟨fo, b, zs, rfl, efo, .of eb5, by omega, hst, fun H6 s6 => ?_⟩
    have eb6 := s6 _ _ eb5
    have ef6 := s6 _ _ efo
    have nfb : b ≠ fo := ne_of_none eb4 nfo
    walk_at "sx"
    refine x_app ef6 (szl (by rw [List.length_map]; omega)) ?_
    walk_at "sx"
    refine x_setL (j := 0) upd_same (ix0 (by rw [List.length_append]; simp)) ?_
    walk_at "sx"
    refine ⟨rfl, rfl, z, (zs.map V.str).length, zs, rfl, by omega, hcut, hpc, by rw [List.length_map]; omega, m1, fun fo2 H7 nfo2 s7 efo2 => ?_⟩
    have eb7 := s7 b _ (by rw [upd_ne nfb, upd_ne nfb]; exact eb6)
    walk_at "sx"
    exact ⟨fo2, b, zs, rfl, efo2, .of eb7, by omega, hst, fun H8 s8 => q H8⟩
end
end Gs

namespace Gs
open PySem PySem.Spec PyProof.Rows L2 TL
theorem all_mk {l : PySem.W.OpenLaw} {w : World} {K : PySem.W.Frag} {h : Heap} {mg : Str → Option Value} {fa f0 f1 f2 f3 f4 f5 f6 f7 f8 f9 f10 f11 f12 f13 f14 f15 f16 : Addr} (X : K.In h) (G : h.Ns mainGlobals mg) (hfa : mg "law" = some (.ref fa))
    {od0 an0 : Option Addr} {sl0 : Array (Option Value)} {oc0 kV0 dc0 pm0 cd0 ct0 : Value}
    (a0 : PySem.W.nsIn K mainGlobals "_run" = some (some (.ref f0))) (l0 : K.lookup f0 = some ⟨oc0, od0, .func (PySem.W.fnOf "_run" "_run" (defArgs s_run) (defBody s_run) (defScope s_run) .none kV0 dc0 pm0 an0 cd0 ct0), sl0⟩) (c0 : PySem.W.codeIn K cd0 "_run" = true) (k0 : PySem.W.keepIn K (.ref f0) = true)
    {od1 an1 : Option Addr} {sl1 : Array (Option Value)} {oc1 kV1 dc1 pm1 cd1 ct1 : Value}
    (a1 : PySem.W.nsIn K mainGlobals "_end_of_piece" = some (some (.ref f1))) (l1 : K.lookup f1 = some ⟨oc1, od1, .func (PySem.W.fnOf "_end_of_piece" "_end_of_piece" (defArgs s_end_of_piece) (defBody s_end_of_piece) (defScope s_end_of_piece) .none kV1 dc1 pm1 an1 cd1 ct1), sl1⟩) (c1 : PySem.W.codeIn K cd1 "_end_of_piece" = true) (k1 : PySem.W.keepIn K (.ref f1) = true)
    {od2 an2 : Option Addr} {sl2 : Array (Option Value)} {oc2 kV2 dc2 pm2 cd2 ct2 : Value}
    (a2 : PySem.W.nsIn K mainGlobals "_is_piece" = some (some (.ref f2))) (l2 : K.lookup f2 = some ⟨oc2, od2, .func (PySem.W.fnOf "_is_piece" "_is_piece" (defArgs s_is_piece) (defBody s_is_piece) (defScope s_is_piece) .none kV2 dc2 pm2 an2 cd2 ct2), sl2⟩) (c2 : PySem.W.codeIn K cd2 "_is_piece" = true) (k2 : PySem.W.keepIn K (.ref f2) = true)
    {od3 an3 : Option Addr} {sl3 : Array (Option Value)} {oc3 kV3 dc3 pm3 cd3 ct3 : Value}
    (a3 : PySem.W.nsIn K mainGlobals "_most_open" = some (some (.ref f3))) (l3 : K.lookup f3 = some ⟨oc3, od3, .func (PySem.W.fnOf "_most_open" "_most_open" (defArgs s_most_open) (defBody s_most_open) (defScope s_most_open) .none kV3 dc3 pm3 an3 cd3 ct3), sl3⟩) (c3 : PySem.W.codeIn K cd3 "_most_open" = true) (k3 : PySem.W.keepIn K (.ref f3) = true)
    {od4 an4 : Option Addr} {sl4 : Array (Option Value)} {oc4 dc4 pm4 cd4 ct4 : Value} {D4 : Addr} {uk4 : Value}
    (a4 : PySem.W.nsIn K mainGlobals "pieces_of" = some (some (.ref f4))) (l4 : K.lookup f4 = some ⟨oc4, od4, .func (PySem.W.fnOf "pieces_of" "pieces_of" (defArgs s_pieces_of) (defBody s_pieces_of) (defScope s_pieces_of) .none (.ref D4) dc4 pm4 an4 cd4 ct4), sl4⟩) (c4 : PySem.W.codeIn K cd4 "pieces_of" = true) (k4 : PySem.W.keepIn K (.ref f4) = true)
    (q4 : PySem.W.nsIn K D4 "most" = some (some uk4)) (r4 : RelV (.int 200) uk4)
    {od5 an5 : Option Addr} {sl5 : Array (Option Value)} {oc5 kV5 dc5 pm5 cd5 ct5 : Value}
    (a5 : PySem.W.nsIn K mainGlobals "_law_pool" = some (some (.ref f5))) (l5 : K.lookup f5 = some ⟨oc5, od5, .func (PySem.W.fnOf "_law_pool" "_law_pool" (defArgs s_law_pool) (defBody s_law_pool) (defScope s_law_pool) .none kV5 dc5 pm5 an5 cd5 ct5), sl5⟩) (c5 : PySem.W.codeIn K cd5 "_law_pool" = true) (k5 : PySem.W.keepIn K (.ref f5) = true)
    {od6 an6 : Option Addr} {sl6 : Array (Option Value)} {oc6 kV6 dc6 pm6 cd6 ct6 : Value}
    (a6 : PySem.W.nsIn K mainGlobals "_law_mixed" = some (some (.ref f6))) (l6 : K.lookup f6 = some ⟨oc6, od6, .func (PySem.W.fnOf "_law_mixed" "_law_mixed" (defArgs s_law_mixed) (defBody s_law_mixed) (defScope s_law_mixed) .none kV6 dc6 pm6 an6 cd6 ct6), sl6⟩) (c6 : PySem.W.codeIn K cd6 "_law_mixed" = true) (k6 : PySem.W.keepIn K (.ref f6) = true)
    {od7 an7 : Option Addr} {sl7 : Array (Option Value)} {oc7 kV7 dc7 pm7 cd7 ct7 : Value}
    (a7 : PySem.W.nsIn K mainGlobals "_law_take" = some (some (.ref f7))) (l7 : K.lookup f7 = some ⟨oc7, od7, .func (PySem.W.fnOf "_law_take" "_law_take" (defArgs s_law_take) (defBody s_law_take) (defScope s_law_take) .none kV7 dc7 pm7 an7 cd7 ct7), sl7⟩) (c7 : PySem.W.codeIn K cd7 "_law_take" = true) (k7 : PySem.W.keepIn K (.ref f7) = true)
    {od8 an8 : Option Addr} {sl8 : Array (Option Value)} {oc8 kV8 dc8 pm8 cd8 ct8 : Value}
    (a8 : PySem.W.nsIn K mainGlobals "_law_number" = some (some (.ref f8))) (l8 : K.lookup f8 = some ⟨oc8, od8, .func (PySem.W.fnOf "_law_number" "_law_number" (defArgs s_law_number) (defBody s_law_number) (defScope s_law_number) .none kV8 dc8 pm8 an8 cd8 ct8), sl8⟩) (c8 : PySem.W.codeIn K cd8 "_law_number" = true) (k8 : PySem.W.keepIn K (.ref f8) = true)
    {od9 an9 : Option Addr} {sl9 : Array (Option Value)} {oc9 kV9 dc9 pm9 cd9 ct9 : Value}
    (a9 : PySem.W.nsIn K mainGlobals "_law_name" = some (some (.ref f9))) (l9 : K.lookup f9 = some ⟨oc9, od9, .func (PySem.W.fnOf "_law_name" "_law_name" (defArgs s_law_name) (defBody s_law_name) (defScope s_law_name) .none kV9 dc9 pm9 an9 cd9 ct9), sl9⟩) (c9 : PySem.W.codeIn K cd9 "_law_name" = true) (k9 : PySem.W.keepIn K (.ref f9) = true)
    {od10 an10 : Option Addr} {sl10 : Array (Option Value)} {oc10 kV10 dc10 pm10 cd10 ct10 : Value}
    (a10 : PySem.W.nsIn K mainGlobals "_law_figure" = some (some (.ref f10))) (l10 : K.lookup f10 = some ⟨oc10, od10, .func (PySem.W.fnOf "_law_figure" "_law_figure" (defArgs s_law_figure) (defBody s_law_figure) (defScope s_law_figure) .none kV10 dc10 pm10 an10 cd10 ct10), sl10⟩) (c10 : PySem.W.codeIn K cd10 "_law_figure" = true) (k10 : PySem.W.keepIn K (.ref f10) = true)
    {od11 an11 : Option Addr} {sl11 : Array (Option Value)} {oc11 kV11 dc11 pm11 cd11 ct11 : Value}
    (a11 : PySem.W.nsIn K mainGlobals "_law_kind" = some (some (.ref f11))) (l11 : K.lookup f11 = some ⟨oc11, od11, .func (PySem.W.fnOf "_law_kind" "_law_kind" (defArgs s_law_kind) (defBody s_law_kind) (defScope s_law_kind) .none kV11 dc11 pm11 an11 cd11 ct11), sl11⟩) (c11 : PySem.W.codeIn K cd11 "_law_kind" = true) (k11 : PySem.W.keepIn K (.ref f11) = true)
    {od12 an12 : Option Addr} {sl12 : Array (Option Value)} {oc12 kV12 dc12 pm12 cd12 ct12 : Value}
    (a12 : PySem.W.nsIn K mainGlobals "_law_stuck" = some (some (.ref f12))) (l12 : K.lookup f12 = some ⟨oc12, od12, .func (PySem.W.fnOf "_law_stuck" "_law_stuck" (defArgs s_law_stuck) (defBody s_law_stuck) (defScope s_law_stuck) .none kV12 dc12 pm12 an12 cd12 ct12), sl12⟩) (c12 : PySem.W.codeIn K cd12 "_law_stuck" = true) (k12 : PySem.W.keepIn K (.ref f12) = true)
    {od13 an13 : Option Addr} {sl13 : Array (Option Value)} {oc13 kV13 dc13 pm13 cd13 ct13 : Value}
    (a13 : PySem.W.nsIn K mainGlobals "_law_line" = some (some (.ref f13))) (l13 : K.lookup f13 = some ⟨oc13, od13, .func (PySem.W.fnOf "_law_line" "_law_line" (defArgs s_law_line) (defBody s_law_line) (defScope s_law_line) .none kV13 dc13 pm13 an13 cd13 ct13), sl13⟩) (c13 : PySem.W.codeIn K cd13 "_law_line" = true) (k13 : PySem.W.keepIn K (.ref f13) = true)
    {od14 an14 : Option Addr} {sl14 : Array (Option Value)} {oc14 kV14 dc14 pm14 cd14 ct14 : Value}
    (a14 : PySem.W.nsIn K mainGlobals "_law_texts" = some (some (.ref f14))) (l14 : K.lookup f14 = some ⟨oc14, od14, .func (PySem.W.fnOf "_law_texts" "_law_texts" (defArgs s_law_texts) (defBody s_law_texts) (defScope s_law_texts) .none kV14 dc14 pm14 an14 cd14 ct14), sl14⟩) (c14 : PySem.W.codeIn K cd14 "_law_texts" = true) (k14 : PySem.W.keepIn K (.ref f14) = true)
    {od15 an15 : Option Addr} {sl15 : Array (Option Value)} {oc15 kV15 dc15 pm15 cd15 ct15 : Value}
    (a15 : PySem.W.nsIn K mainGlobals "_law_piece" = some (some (.ref f15))) (l15 : K.lookup f15 = some ⟨oc15, od15, .func (PySem.W.fnOf "_law_piece" "_law_piece" (defArgs s_law_piece) (defBody s_law_piece) (defScope s_law_piece) .none kV15 dc15 pm15 an15 cd15 ct15), sl15⟩) (c15 : PySem.W.codeIn K cd15 "_law_piece" = true) (k15 : PySem.W.keepIn K (.ref f15) = true)
    {od16 an16 : Option Addr} {sl16 : Array (Option Value)} {oc16 kV16 dc16 pm16 cd16 ct16 : Value}
    (a16 : PySem.W.nsIn K mainGlobals "law" = some (some (.ref f16))) (l16 : K.lookup f16 = some ⟨oc16, od16, .func (PySem.W.fnOf "law" "law" (defArgs s_law) (defBody s_law) (defScope s_law) .none kV16 dc16 pm16 an16 cd16 ct16), sl16⟩) (c16 : PySem.W.codeIn K cd16 "law" = true) (k16 : PySem.W.keepIn K (.ref f16) = true)
    (z_all : PySem.W.nsIn K mainGlobals "all" = some none)
    (z_int : PySem.W.nsIn K mainGlobals "int" = some none)
    (z_isinstance : PySem.W.nsIn K mainGlobals "isinstance" = some none)
    (z_len : PySem.W.nsIn K mainGlobals "len" = some none)
    (z_list : PySem.W.nsIn K mainGlobals "list" = some none)
    (z_max : PySem.W.nsIn K mainGlobals "max" = some none)
    (z_range : PySem.W.nsIn K mainGlobals "range" = some none)
    (z_str : PySem.W.nsIn K mainGlobals "str" = some none)
    {t_BRACKETS : Tok} (g_BRACKETS : PySem.W.nsIn K mainGlobals "BRACKETS" = some (some (.int 12 t_BRACKETS)))
    {t_CAPITALS : Tok} (g_CAPITALS : PySem.W.nsIn K mainGlobals "CAPITALS" = some (some (.str "ABCDEFGHIJKLMNOPQRSTUVWXYZ" t_CAPITALS)))
    {t_DIGITS : Tok} (g_DIGITS : PySem.W.nsIn K mainGlobals "DIGITS" = some (some (.str "0123456789" t_DIGITS)))
    {t_FIGURES : Tok} (g_FIGURES : PySem.W.nsIn K mainGlobals "FIGURES" = some (some (.int 60 t_FIGURES)))
    {t_MARKS : Tok} (g_MARKS : PySem.W.nsIn K mainGlobals "MARKS" = some (some (.str "+-*/<>=&!?^@#:|.$" t_MARKS)))
    {t_MARK_SIGNS : Tok} (g_MARK_SIGNS : PySem.W.nsIn K mainGlobals "MARK_SIGNS" = some (some (.int 3 t_MARK_SIGNS)))
    {t_PIECES : Tok} (g_PIECES : PySem.W.nsIn K mainGlobals "PIECES" = some (some (.int 200 t_PIECES)))
    {t_SMALLS : Tok} (g_SMALLS : PySem.W.nsIn K mainGlobals "SMALLS" = some (some (.str "abcdefghijklmnopqrstuvwxyz" t_SMALLS)))
    {t_WORD_SIGNS : Tok} (g_WORD_SIGNS : PySem.W.nsIn K mainGlobals "WORD_SIGNS" = some (some (.int 12 t_WORD_SIGNS))) :
    ∃ fd : FuncData, (∀ (s : Shared) (v : Value), BindsTo s fd ⟨[v], []⟩ [("script", v)]) ∧ ∀ base : Heap, K.In base → base.Ns mainGlobals mg → FnOk l.prog w K mg base CX0 5 fa fd ["script"] (spLaw K) := by
  have e := hfa.symm.trans (PySem.W.mg_of X G a16)
  cases e
  have T : Txt mg := ⟨PySem.W.mg_none_of X G z_all, PySem.W.mg_none_of X G z_int, PySem.W.mg_none_of X G z_isinstance, PySem.W.mg_none_of X G z_len, PySem.W.mg_none_of X G z_list, PySem.W.mg_none_of X G z_max, PySem.W.mg_none_of X G z_range, PySem.W.mg_none_of X G z_str, ⟨_, PySem.W.mg_of X G g_BRACKETS⟩, ⟨_, PySem.W.mg_of X G g_CAPITALS⟩, ⟨_, PySem.W.mg_of X G g_DIGITS⟩, ⟨_, PySem.W.mg_of X G g_FIGURES⟩, ⟨_, PySem.W.mg_of X G g_MARKS⟩, ⟨_, PySem.W.mg_of X G g_MARK_SIGNS⟩, ⟨_, PySem.W.mg_of X G g_PIECES⟩, ⟨_, PySem.W.mg_of X G g_SMALLS⟩, ⟨_, PySem.W.mg_of X G g_WORD_SIGNS⟩⟩
  have F0 := fun_mk (st := s_run) l0 c0 k0
  have b0 := F0.binds (ps := ["line", "at", "signs"]) fun _ _ _ _ _ _ us hl => match us, hl with | [_, _, _], _ => rfl
  have F1 := fun_mk (st := s_end_of_piece) l1 c1 k1
  have b1 := F1.binds (ps := ["line", "at"]) fun _ _ _ _ _ _ us hl => match us, hl with | [_, _], _ => rfl
  have F2 := fun_mk (st := s_is_piece) l2 c2 k2
  have b2 := F2.binds (ps := ["text"]) fun _ _ _ _ _ _ us hl => match us, hl with | [_], _ => rfl
  have F3 := fun_mk (st := s_most_open) l3 c3 k3
  have b3 := F3.binds (ps := ["pieces"]) fun _ _ _ _ _ _ us hl => match us, hl with | [_], _ => rfl
  have F4 : FunD K "pieces_of" "pieces_of" (defArgs s_pieces_of) (defBody s_pieces_of) (defScope s_pieces_of) [] [("most", .int 200)] f4 _ := ⟨⟨_, _, _, _, _, _, _, _, _, _, rfl, l4, c4, .inl ⟨rfl, rfl⟩, .inr ⟨D4, rfl, fun q hq => by
    rw [List.mem_singleton.mp hq]
    exact ⟨uk4, q4, r4⟩⟩⟩, k4⟩
  have b4 := F4.binds0 (ps := ["line", "most"]) 1 (by simp) rfl fun D doc pm an cdv ct us ks h1 h2 => by
    match us, ks, h1, h2 with
    | [_], [_], _, _ => exact ⟨_, _, _, _, _, _, rfl, rfl, rfl⟩
  have B4 := FunD_kbindsN (ps := ["line", "most"]) F4 1 ["most"] fun kV doc pm an cdv ct us ws h1 h2 => by
    match us, ws, h1, h2 with
    | [_], [_], _, _ => rfl
  have F5 := fun_mk (st := s_law_pool) l5 c5 k5
  have b5 := F5.binds (ps := ["script", "k"]) fun _ _ _ _ _ _ us hl => match us, hl with | [_, _], _ => rfl
  have F6 := fun_mk (st := s_law_mixed) l6 c6 k6
  have b6 := F6.binds (ps := ["pool", "turn"]) fun _ _ _ _ _ _ us hl => match us, hl with | [_, _], _ => rfl
  have F7 := fun_mk (st := s_law_take) l7 c7 k7
  have b7 := F7.binds (ps := ["pool", "many"]) fun _ _ _ _ _ _ us hl => match us, hl with | [_, _], _ => rfl
  have F8 := fun_mk (st := s_law_number) l8 c8 k8
  have b8 := F8.binds (ps := ["pool"]) fun _ _ _ _ _ _ us hl => match us, hl with | [_], _ => rfl
  have F9 := fun_mk (st := s_law_name) l9 c9 k9
  have b9 := F9.binds (ps := ["pool", "way"]) fun _ _ _ _ _ _ us hl => match us, hl with | [_, _], _ => rfl
  have F10 := fun_mk (st := s_law_figure) l10 c10 k10
  have b10 := F10.binds (ps := ["thing"]) fun _ _ _ _ _ _ us hl => match us, hl with | [_], _ => rfl
  have F11 := fun_mk (st := s_law_kind) l11 c11 k11
  have b11 := F11.binds (ps := ["bit"]) fun _ _ _ _ _ _ us hl => match us, hl with | [_], _ => rfl
  have F12 := fun_mk (st := s_law_stuck) l12 c12 k12
  have b12 := F12.binds (ps := ["left", "right"]) fun _ _ _ _ _ _ us hl => match us, hl with | [_, _], _ => rfl
  have F13 := fun_mk (st := s_law_line) l13 c13 k13
  have b13 := F13.binds (ps := ["bits", "pool"]) fun _ _ _ _ _ _ us hl => match us, hl with | [_, _], _ => rfl
  have F14 := fun_mk (st := s_law_texts) l14 c14 k14
  have b14 := F14.binds (ps := ["found", "due"]) fun _ _ _ _ _ _ us hl => match us, hl with | [_, _], _ => rfl
  have F15 := fun_mk (st := s_law_piece) l15 c15 k15
  have b15 := F15.binds (ps := ["pool", "held"]) fun _ _ _ _ _ _ us hl => match us, hl with | [_, _], _ => rfl
  have F16 := fun_mk (st := s_law) l16 c16 k16
  refine ⟨PySem.W.fnOf "law" "law" (defArgs s_law) (defBody s_law) (defScope s_law) .none kV16 dc16 pm16 an16 cd16 ct16, fun s v => .of_eq rfl, fun base _ _ => ?_⟩
  have C_run : HasRun l.prog w K mg base := ⟨f0, _, ok_run F0 T, b0, k0, PySem.W.mg_of X G a0⟩
  have C_end_of_piece : HasEnd l.prog w K mg base := ⟨f1, _, ok_end F1 T C_run, b1, k1, PySem.W.mg_of X G a1⟩
  have C_is_piece : HasIsPiece l.prog w K mg base := ⟨f2, _, ok_is_piece F2 T, b2, k2, PySem.W.mg_of X G a2⟩
  have C_most_open : HasMostOpen l.prog w K mg base := ⟨f3, _, ok_most_open F3 T, b3, k3, PySem.W.mg_of X G a3⟩
  have C_pieces_of : HasPieces l.prog w K mg base := ⟨f4, _, ok_pieces_of F4 T C_run C_end_of_piece C_is_piece C_most_open, b4, B4, k4, PySem.W.mg_of X G a4⟩
  have C_law_pool : HasPool l.prog w K mg base := ⟨f5, _, ok_law_pool F5 T, b5, k5, PySem.W.mg_of X G a5⟩
  have C_law_mixed : HasMixed l.prog w K mg base := ⟨f6, _, ok_law_mixed F6 , b6, k6, PySem.W.mg_of X G a6⟩
  have C_law_take : HasTake l.prog w K mg base := ⟨f7, _, ok_law_take F7 T C_law_mixed, b7, k7, PySem.W.mg_of X G a7⟩
  have C_law_number : HasNumber l.prog w K mg base := ⟨f8, _, ok_law_number F8 T C_law_take, b8, k8, PySem.W.mg_of X G a8⟩
  have C_law_name : HasName l.prog w K mg base := ⟨f9, _, ok_law_name F9 T C_law_take, b9, k9, PySem.W.mg_of X G a9⟩
  have C_law_figure : HasFigure l.prog w K mg base := ⟨f10, _, ok_law_figure F10 T, b10, k10, PySem.W.mg_of X G a10⟩
  have C_law_kind : HasKind l.prog w K mg base := ⟨f11, _, ok_law_kind F11 T, b11, k11, PySem.W.mg_of X G a11⟩
  have C_law_stuck : HasStuck l.prog w K mg base := ⟨f12, _, ok_law_stuck F12 T C_law_kind, b12, k12, PySem.W.mg_of X G a12⟩
  have C_law_line : HasLine l.prog w K mg base := ⟨f13, _, ok_law_line F13 T C_law_take C_law_stuck, b13, k13, PySem.W.mg_of X G a13⟩
  have C_law_texts : HasTexts l.prog w K mg base := ⟨f14, _, ok_law_texts F14 T, b14, k14, PySem.W.mg_of X G a14⟩
  have C_law_piece : HasPiece l.prog w K mg base := ⟨f15, _, ok_law_piece F15 T C_law_take C_law_figure C_law_number C_law_name, b15, k15, PySem.W.mg_of X G a15⟩
  exact ok_law F16 T C_law_pool C_law_take C_law_piece C_law_line C_pieces_of C_law_texts
end Gs
open PySem PySem.W PyProof.Rows
set_option maxRecDepth 100000 in
set_option maxHeartbeats 0 in
theorem PySem.Challenge.cw_goalstead_k06_pieces_of_a_line_holds : PySem.Challenge.rw_goalstead_k06_pieces_of_a_line.Holds := by
  w_on; o_law; k_head; (case hw => w_witness2)
  k_fill
  refine L2.walk_of (l := PySem.Challenge.rw_goalstead_k06_pieces_of_a_line) (n := 63) (k := 5) (x := "script") (CX := fun _ => L2.CX0) (sp := fun w => Gs.spLaw _) rfl (by decide) rfl ⟨rfl, by decide, by decide⟩ (fun w h Y => PySem.W.kIn_of Y) ?F (fun _ _ a ns hl _ hS => ⟨a, ns, rfl, hS, hl, fun _ => rfl⟩) (fun _ _ _ _ _ h => h)
  case F =>
    intro w mg fa h KX G hmg
    refine' Gs.all_mk KX G hmg (a0 := ?a0) (l0 := ?l0) (c0 := ?c0) (k0 := ?k0) (a1 := ?a1) (l1 := ?l1) (c1 := ?c1) (k1 := ?k1) (a2 := ?a2) (l2 := ?l2) (c2 := ?c2) (k2 := ?k2) (a3 := ?a3) (l3 := ?l3) (c3 := ?c3) (k3 := ?k3) (a4 := ?a4) (l4 := ?l4) (c4 := ?c4) (k4 := ?k4) (q4 := ?q4) (r4 := ?r4) (a5 := ?a5) (l5 := ?l5) (c5 := ?c5) (k5 := ?k5) (a6 := ?a6) (l6 := ?l6) (c6 := ?c6) (k6 := ?k6) (a7 := ?a7) (l7 := ?l7) (c7 := ?c7) (k7 := ?k7) (a8 := ?a8) (l8 := ?l8) (c8 := ?c8) (k8 := ?k8) (a9 := ?a9) (l9 := ?l9) (c9 := ?c9) (k9 := ?k9) (a10 := ?a10) (l10 := ?l10) (c10 := ?c10) (k10 := ?k10) (a11 := ?a11) (l11 := ?l11) (c11 := ?c11) (k11 := ?k11) (a12 := ?a12) (l12 := ?l12) (c12 := ?c12) (k12 := ?k12) (a13 := ?a13) (l13 := ?l13) (c13 := ?c13) (k13 := ?k13) (a14 := ?a14) (l14 := ?l14) (c14 := ?c14) (k14 := ?k14) (a15 := ?a15) (l15 := ?l15) (c15 := ?c15) (k15 := ?k15) (a16 := ?a16) (l16 := ?l16) (c16 := ?c16) (k16 := ?k16) (z_all := ?z_all) (z_int := ?z_int) (z_isinstance := ?z_isinstance) (z_len := ?z_len) (z_list := ?z_list) (z_max := ?z_max) (z_range := ?z_range) (z_str := ?z_str) (g_BRACKETS := ?g_BRACKETS) (g_CAPITALS := ?g_CAPITALS) (g_DIGITS := ?g_DIGITS) (g_FIGURES := ?g_FIGURES) (g_MARKS := ?g_MARKS) (g_MARK_SIGNS := ?g_MARK_SIGNS) (g_PIECES := ?g_PIECES) (g_SMALLS := ?g_SMALLS) (g_WORD_SIGNS := ?g_WORD_SIGNS)
    (case a0 => k_is)
    (case l0 => k_is)
    (case c0 => k_is)
    (case k0 => k_is)
    (case a1 => k_is)
    (case l1 => k_is)
    (case c1 => k_is)
    (case k1 => k_is)
    (case a2 => k_is)
    (case l2 => k_is)
    (case c2 => k_is)
    (case k2 => k_is)
    (case a3 => k_is)
    (case l3 => k_is)
    (case c3 => k_is)
    (case k3 => k_is)
    (case a4 => k_is)
    (case l4 => k_is)
    (case c4 => k_is)
    (case k4 => k_is)
    (case q4 => k_is)
    (case r4 => exact ⟨_, rfl⟩)
    (case a5 => k_is)
    (case l5 => k_is)
    (case c5 => k_is)
    (case k5 => k_is)
    (case a6 => k_is)
    (case l6 => k_is)
    (case c6 => k_is)
    (case k6 => k_is)
    (case a7 => k_is)
    (case l7 => k_is)
    (case c7 => k_is)
    (case k7 => k_is)
    (case a8 => k_is)
    (case l8 => k_is)
    (case c8 => k_is)
    (case k8 => k_is)
    (case a9 => k_is)
    (case l9 => k_is)
    (case c9 => k_is)
    (case k9 => k_is)
    (case a10 => k_is)
    (case l10 => k_is)
    (case c10 => k_is)
    (case k10 => k_is)
    (case a11 => k_is)
    (case l11 => k_is)
    (case c11 => k_is)
    (case k11 => k_is)
    (case a12 => k_is)
    (case l12 => k_is)
    (case c12 => k_is)
    (case k12 => k_is)
    (case a13 => k_is)
    (case l13 => k_is)
    (case c13 => k_is)
    (case k13 => k_is)
    (case a14 => k_is)
    (case l14 => k_is)
    (case c14 => k_is)
    (case k14 => k_is)
    (case a15 => k_is)
    (case l15 => k_is)
    (case c15 => k_is)
    (case k15 => k_is)
    (case a16 => k_is)
    (case l16 => k_is)
    (case c16 => k_is)
    (case k16 => k_is)
    (case z_all => k_is)
    (case z_int => k_is)
    (case z_isinstance => k_is)
    (case z_len => k_is)
    (case z_list => k_is)
    (case z_max => k_is)
    (case z_range => k_is)
    (case z_str => k_is)
    (case g_BRACKETS => k_is)
    (case g_CAPITALS => k_is)
    (case g_DIGITS => k_is)
    (case g_FIGURES => k_is)
    (case g_MARKS => k_is)
    (case g_MARK_SIGNS => k_is)
    (case g_PIECES => k_is)
    (case g_SMALLS => k_is)
    (case g_WORD_SIGNS => k_is)

