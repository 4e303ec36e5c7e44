import PyProof.Rows.All
import Wide.All
import OpenK.AllK
import Wide.FinOn
import PyProof.StrBlock2
import HandS.ForMost
import HandS.IsInst
import HandS.Wide
import HandS.Defaults
import HandS.Evl
import HandS.ForExc
import HandS.ExcInit
import HandS.ExcField
import HandS.FStr
import HandS.Small
import HandS.Conv
import HandS.StrMore
import HandS.TupAny
import HandS.Star
import HandS.SortInts
import HandS.Deep
import KE.GoesMore
import KE.GoesEnum
import HandS.ExcIs
import KE.RegKIsAll
import HandS.SortKw
import HandS.Zip
import HandS.SetKeys
import HandS.TryOnly
import PySem.Challenge.RW_goalstead_k39_resolved
set_option Elab.async false
set_option linter.all false
set_option maxRecDepth 100000
namespace Gs
open PySem PySem.Spec PyProof.Rows L2

/-! ### rules of our own -/
section
variable {X : Cx} {x : Str} {p pos : Pos} {e : Expr} {es : List Expr} {t : TA}
theorem pe_globI {n : Int} (hg : Gl X x) (hm : ∃ t, X.mg x = some (.int n t)) (hd : (x == ("__debug__" : Str)) = false := by decide) : PE X (.Name x pos) (tC (.int n)) := by
  obtain ⟨t, h⟩ := hm
  exact pe_glob hg h ⟨t, rfl⟩ hd
theorem pe_globS {z : Str} (hg : Gl X x) (hm : ∃ t, X.mg x = some (.str z t)) (hd : (x == ("__debug__" : Str)) = false := by decide) : PE X (.Name x pos) (tC (.str z)) := by
  obtain ⟨t, h⟩ := hm
  exact pe_glob hg h ⟨t, rfl⟩ hd
/-- a def of the text that keeps the promise sp, found by its name -/
structure Has (P : Program) (w : World) (K : PySem.W.Frag) (mg : Str → Option Value) (base : Heap) (k : Nat) (x : Str) (ps : List Str) (sp : Sp) : Prop where
  ex : ∃ (f : Addr) (fd : FuncData), FnOk P w K mg base CX0 k f fd ps sp ∧ Binds K fd ps [] ∧ PySem.W.keepIn K (.ref f) = true ∧ mg x = some (.ref f)
theorem pe_callH {k j : Nat} {ps : List Str} {sp : Sp} (C : Has X.prog X.w X.K X.mg X.base k x ps sp) (hr : Room j X.A) (ha : PA X (e :: es) t) (hk : k ≤ j := by decide) (hg : Gl X x := by rfl) (hdb : (x == ("__debug__" : Str)) = false := by decide)
    (he : starEach (e :: es) X.env = (false, eval e X.env) :: starEach es X.env := by rfl) (hpl : (backTo pos (starEach es X.env)).any (·.1) = false := by rfl) :
    PE X (.Call (.Name x p) (e :: es) [] pos) (tCall sp [] E0 t) := by
  obtain ⟨f, fd, F, b, kp, m⟩ := C.ex
  exact pe_call F (hr.mono hk) hg m kp b .nil pass0 ha hdb he hpl
theorem pe_callH0 {k j : Nat} {ps : List Str} {sp : Sp} (C : Has X.prog X.w X.K X.mg X.base k x ps sp) (hr : Room j X.A) (hk : k ≤ j := by decide) (hg : Gl X x := by rfl) (hdb : (x == ("__debug__" : Str)) = false := by decide) :
    PE X (.Call (.Name x p) [] [] pos) (tCall sp [] E0 tNil) := by
  obtain ⟨f, fd, F, b, kp, m⟩ := C.ex
  exact pe_call0 F (hr.mono hk) hg m kp b .nil pass0 hdb
def rStrMul : R2 := fun x y H Q => ∃ z n, x = .str z ∧ y = .int n ∧ MulOk z n ∧ Q (.str (Txt.mul z n)) H
theorem op_strMul : OpR X (binaryOp .Mult) rStrMul := by
  intro pins s σ H x y v u Q I rx ry h
  obtain ⟨z, n, rfl, rfl, hok, q⟩ := h
  obtain ⟨t, rfl⟩ := rx
  obtain ⟨t', rfl⟩ := ry
  exact PySem.SB.mul hok fun t2 k => ⟨.str _, H, I.tok k, ⟨_, rfl⟩, q⟩
end

/-! ### steps of a reading -/
section
variable {σ : L2.St} {H : Hp} {v x y : V} {Q : VK} {i : Nat} {ta tb te : TE} {tr : TA} {r : R2} {D : Ends} {t1 t2 : TS} {g : TG} {tt tu : TT} {R : Bool → Hp → Prop} {QA : List V → Hp → Prop}
theorem x_var (h : σ[i]? = some (some v)) (q : Q v H) : tVar i σ H Q := ⟨v, h, q⟩
theorem x_c (q : Q v H) : tC v σ H Q := q
theorem x_op (q : ta σ H fun x H1 => tb σ H1 fun y H2 => r x y H2 Q) : tOp r ta tb σ H Q := q
theorem x_un {ru : V → Hp → VK → Prop} (q : ta σ H fun x H1 => ru x H1 Q) : tUn ru ta σ H Q := q
theorem x_i0 {f : Int → Int → V} {a b : Int} (q : Q (f a b) H) : rI0 f (.int a) (.int b) H Q := ⟨a, b, rfl, rfl, q⟩
theorem x_i {C : Int → Int → Prop} {f : Int → Int → V} {a b : Int} (c : C a b) (q : Q (f a b) H) : rI C f (.int a) (.int b) H Q := ⟨a, b, rfl, rfl, c, q⟩
theorem x_u {f : Int → V} {a : Int} (q : Q (f a) H) : rU f (.int a) H Q := ⟨a, rfl, q⟩
theorem x_eq (hs : scal x y = true) (q : Q (.bl (decide (x = y))) H) : rEq x y H Q := ⟨hs, q⟩
theorem x_ne (hs : scal x y = true) (q : Q (.bl (!decide (x = y))) H) : rNe x y H Q := ⟨hs, q⟩
theorem x_nil (q : QA [] H) : tNil σ H QA := q
theorem x_cons (q : ta σ H fun x H1 => tr σ H1 fun xs H2 => QA (x :: xs) H2) : tCons ta tr σ H QA := q
theorem x_call {sp : Sp} {dvs : List V} {E : XK} (q : tr σ H fun vs H1 => sp (vs ++ dvs) H1 Q E) : tCall sp dvs E tr σ H Q := q
theorem x_cb {rc : List V → Hp → VK → Prop} (q : tr σ H fun vs H1 => rc vs H1 Q) : tCB rc tr σ H Q := q
theorem x_test (q : te σ H fun x H1 => ∃ k, x = .bl k ∧ R k H1) : tTest te σ H R := q
theorem x_B (q : te σ H fun x H1 => ∃ k, x = .bl k ∧ R k H1) : tB te σ H R := q
theorem x_isb {b : Bool} (q : R b H) : ∃ k, V.bl b = .bl k ∧ R k H := ⟨b, rfl, q⟩
theorem x_and (q : tt σ H fun c H1 => if c = true then tu σ H1 R else R false H1) : tAnd tt tu σ H R := q
theorem x_or (q : tt σ H fun c H1 => if c = true then R true H1 else tu σ H1 R) : tOr tt tu σ H R := q
theorem x_not (q : tt σ H fun c H1 => R (!c) H1) : tNot tt σ H R := q
theorem x_ifE (q : tt σ H fun c H1 => if c = true then ta σ H1 Q else tb σ H1 Q) : tIf tt ta tb σ H Q := q
theorem x_andV (q : ta σ H fun x H1 => ∃ c, x = .bl c ∧ if c = true then tb σ H1 Q else Q (.bl false) H1) : tAndV ta tb σ H Q := q
theorem x_orV (q : ta σ H fun x H1 => ∃ c, x = .bl c ∧ if c = true then Q (.bl true) H1 else tb σ H1 Q) : tOrV ta tb σ H Q := q
theorem x_notV (q : ta σ H fun x H1 => ∃ c, x = .bl c ∧ Q (.bl (!c)) H1) : tNotV ta σ H Q := q
theorem x_isbI {b : Bool} {A B : Bool → Hp → Prop} (q : if b = true then A b H else B b H) : ∃ k, V.bl b = .bl k ∧ if k = true then A k H else B k H := ⟨b, rfl, q⟩
theorem x_ex {b : Bool} {A : Bool → Prop} (q : A b) : ∃ k, V.bl b = .bl k ∧ A k := ⟨b, rfl, q⟩
theorem x_cut {M : L2.St → Hp → Prop} (q : t1 { D with nx := M } σ H) (k : ∀ σ' H', M σ' H' → t2 D σ' H') : Evl.tCut t1 t2 D σ H := ⟨M, q, k⟩
theorem x_seq (q : t1 { D with nx := t2 D } σ H) : tSeq t1 t2 D σ H := q
theorem x_next (q : D.nx σ H) : tNext D σ H := q
theorem x_brk (q : D.bk σ H) : tBreak D σ H := q
theorem x_cont (q : D.ct σ H) : tCont D σ H := q
theorem x_asg (q : te σ H fun x H1 => g x σ H1 D.nx) : tAsg te g D σ H := q
theorem x_drop (q : te σ H fun _ H1 => D.nx σ H1) : tDrop te D σ H := q
theorem x_ret (q : te σ H D.rt) : tRet te D σ H := q
theorem x_retN (q : D.rt .non H) : tRetN D σ H := q
theorem x_ifS (q : tt σ H fun b H1 => if b = true then t1 D σ H1 else t2 D σ H1) : tIfS tt t1 t2 D σ H := q
theorem x_gn {k : L2.St → Hp → Prop} (q : k (σ.set i (some v)) H) : gName i v σ H k := q
theorem x_gsub {to ti : TE} {st : TSet} {k : L2.St → Hp → Prop} (q : to σ H fun o H1 => ti σ H1 fun i H2 => st o i v H2 fun H3 => k σ H3) : gSub to ti st v σ H k := q
theorem x_aug {ip : TIp} (h : σ[i]? = some (some x)) (q : te σ H fun y H1 => ip x y H1 fun z H2 => D.nx (σ.set i (some z)) H2) : tAug i te ip D σ H := ⟨x, h, q⟩
theorem x_ixL {K : PySem.W.Frag} {p : Addr} {xs : List V} {a : Int} (h : SqL K H p xs) (ha : atI xs a = some v) (q : Q v H) : rIxL K (.ref p) (.int a) H Q := ⟨p, xs, a, v, rfl, rfl, h, ha, q⟩
theorem x_ixT {K : PySem.W.Frag} {p : Addr} {xs : List V} {a : Int} (h : SqT K H p xs) (ha : atI xs a = some v) (q : Q v H) : rIxT K (.ref p) (.int a) H Q := ⟨p, xs, a, v, rfl, rfl, h, ha, q⟩
theorem x_ixS {z : Str} {a : Int} {c : Nat} (h : z.length ≤ sizeLine) (ha : atI z.cps.toList a = some c) (q : Q (.str ⟨#[c]⟩) H) : rIxS (.str z) (.int a) H Q := ⟨z, a, c, rfl, rfl, h, ha, q⟩
theorem x_setL {p : Addr} {xs : List V} {a : Int} {j : Nat} {k : Hp → Prop} (h : H p = some (.lst xs)) (hi : ixN xs.length a = some j) (q : k (upd H p (.lst (xs.set j v)))) : rSetL (.ref p) (.int a) v H k := ⟨p, xs, a, j, rfl, rfl, h, hi, q⟩
theorem x_lst (q : tr σ H fun xs H1 => xs.length ≤ sizeLine ∧ ∀ p, H1 p = none → Q (.ref p) (upd H1 p (.lst xs))) : tLst tr σ H Q := q
theorem x_tup (q : tr σ H fun xs H1 => xs.length ≤ sizeLine ∧ ∀ p, H1 p = none → Q (.ref p) (upd H1 p (.tup xs))) : tTup tr σ H Q := q
theorem x_sl {rs : V → Option Int → Option Int → Hp → VK → Prop} {tl th : TO} (q : te σ H fun x H1 => tl σ H1 fun l H2 => th σ H2 fun u H3 => rs x l u H3 Q) : tSl rs te tl th σ H Q := q
theorem x_part {k : Option Int → Hp → Prop} (q : te σ H fun x H1 => ∃ i, x = .int i ∧ k (some i) H1) : tPart te σ H k := q
theorem x_isi {a : Int} {k : Option Int → Hp → Prop} (q : k (some a) H) : ∃ i, V.int a = .int i ∧ k (some i) H := ⟨a, rfl, q⟩
theorem x_exI {a : Int} {A : Int → Prop} (q : A a) : ∃ i, V.int a = .int i ∧ A i := ⟨a, rfl, q⟩
theorem x_slL {K : PySem.W.Frag} {a : Addr} {xs : List V} {lo hi : Option Int} (h : SqL K H a xs) (q : ∀ p, H p = none → Q (.ref p) (upd H p (.lst (cutV xs lo hi)))) : rSlL K (.ref a) lo hi H Q := ⟨a, xs, rfl, h, q⟩
theorem x_slS {z : Str} {lo hi : Option Int} (h : z.length ≤ sizeLine) (q : Q (.str (cutS z lo hi)) H) : rSlS (.str z) lo hi H Q := ⟨z, rfl, h, q⟩
theorem x_nopart {k : Option Int → Hp → Prop} (q : k none H) : tNoPart σ H k := q
theorem x_bm {K : PySem.W.Frag} {T : String} {rm : V → List V → Hp → VK → Prop} {to : TE} (q : to σ H fun x H1 => tyV K T x H1 ∧ tr σ H1 fun xs H2 => rm x xs H2 Q) : tBM K T rm to tr σ H Q := q
theorem x_bm0 {K : PySem.W.Frag} {T : String} {rm : V → List V → Hp → VK → Prop} {to : TE} (q : to σ H fun x H1 => tyV K T x H1 ∧ rm x [] H1 Q) : tBM0 K T rm to σ H Q := q
theorem x_addS {a b : Str} {A : Str → Str → Prop} (h : a.length + b.length ≤ sizeLine) (q : A a b) : ∃ i j, V.str a = .str i ∧ V.str b = .str j ∧ i.length + j.length ≤ sizeLine ∧ A i j := ⟨a, b, rfl, rfl, h, q⟩
/-- a decided test -/
theorem x_ite {c : Prop} [Decidable c] {A B : Prop} (h1 : c → A) (h2 : ¬ c → B) : if decide c = true then A else B := by
  by_cases h : c
  · rw [if_pos (decide_eq_true h)]
    exact h1 h
  · rw [if_neg (by rw [decide_eq_false h]; decide)]
    exact h2 h
theorem x_iteN {c : Prop} [Decidable c] {A B : Prop} (h1 : ¬ c → A) (h2 : c → B) : if (!decide c) = true then A else B := by
  by_cases h : c
  · rw [if_neg (by rw [decide_eq_true h]; decide)]
    exact h2 h
  · rw [if_pos (by rw [decide_eq_false h]; rfl)]
    exact h1 h
theorem x_iteB {b : Bool} {A B : Prop} (h1 : b = true → A) (h2 : b = false → B) : if b = true then A else B := by
  cases b with
  | true => exact h1 rfl
  | false => exact h2 rfl
theorem x_iteF {A B : Prop} (h : B) : if false = true then A else B := h
theorem x_iteT {A B : Prop} (h : A) : if true = true then A else B := h
end
theorem intEq {a b : Int} : decide (V.int a = V.int b) = decide (a = b) := by
  by_cases h : a = b
  · rw [h]; simp
  · rw [decide_eq_false h, decide_eq_false]
    exact fun z => h (V.int.inj z)
end Gs
namespace Gs
open PySem PySem.Spec PyProof.Rows L2
theorem cmulW {i j : Int} (h1 : i.natAbs < 2 ^ 200) (h2 : j.natAbs < 2 ^ 200) : CMulW i j := wide_mul h1 h2 (by decide) (by decide) (by decide)
theorem cdivW {i j : Int} (h1 : 0 < j) (h2 : j.natAbs < 2 ^ 200) : CDivW i j := wide_div h1 h2 (by decide) (by decide)
theorem fmod0 {a b : Int} (h : 0 < b) : 0 ≤ a.fmod b := by rw [Int.fmod_eq_emod_of_nonneg a (by omega)]; exact Int.emod_nonneg a (by omega)
theorem fmodlt {a b : Int} (h : 0 < b) : a.fmod b < b := by rw [Int.fmod_eq_emod_of_nonneg a (by omega)]; exact Int.emod_lt_of_pos a h
theorem sz {n : Nat} (h : n ≤ 100000) : n ≤ sizeLine := Nat.le_trans h (by decide)
theorem szl {n : Nat} (h : n < 100000) : n < sizeLine := Nat.lt_of_lt_of_le h (by decide)
end Gs
namespace Gs
open PySem PySem.Spec PyProof.Rows L2
theorem at0 {α : Type} {xs : List α} {v : α} (h : xs[0]? = some v) : atI xs 0 = some v := atI_nat (j := 0) h
theorem at1 {α : Type} {xs : List α} {v : α} (h : xs[1]? = some v) : atI xs 1 = some v := atI_nat (j := 1) h
theorem at2 {α : Type} {xs : List α} {v : α} (h : xs[2]? = some v) : atI xs 2 = some v := atI_nat (j := 2) h
theorem at3 {α : Type} {xs : List α} {v : α} (h : xs[3]? = some v) : atI xs 3 = some v := atI_nat (j := 3) h
theorem at4 {α : Type} {xs : List α} {v : α} (h : xs[4]? = some v) : atI xs 4 = some v := atI_nat (j := 4) h
theorem at5 {α : Type} {xs : List α} {v : α} (h : xs[5]? = some v) : atI xs 5 = some v := atI_nat (j := 5) h
theorem at6 {α : Type} {xs : List α} {v : α} (h : xs[6]? = some v) : atI xs 6 = some v := atI_nat (j := 6) h
theorem at7 {α : Type} {xs : List α} {v : α} (h : xs[7]? = some v) : atI xs 7 = some v := atI_nat (j := 7) h
theorem at8 {α : Type} {xs : List α} {v : α} (h : xs[8]? = some v) : atI xs 8 = some v := atI_nat (j := 8) h
theorem at9 {α : Type} {xs : List α} {v : α} (h : xs[9]? = some v) : atI xs 9 = some v := atI_nat (j := 9) h
theorem ixN_of {n : Nat} {j : Nat} (h : j < n) : ixN n (j : Int) = some j := by
  unfold ixN
  rw [if_pos (by omega), if_pos (by omega)]
  simp
theorem ix0 {n : Nat} (h : 0 < n) : ixN n 0 = some 0 := ixN_of (j := 0) h
theorem ix1 {n : Nat} (h : 1 < n) : ixN n 1 = some 1 := ixN_of (j := 1) h
theorem ix2 {n : Nat} (h : 2 < n) : ixN n 2 = some 2 := ixN_of (j := 2) h
theorem ix3 {n : Nat} (h : 3 < n) : ixN n 3 = some 3 := ixN_of (j := 3) h
theorem ix4 {n : Nat} (h : 4 < n) : ixN n 4 = some 4 := ixN_of (j := 4) h
end Gs
namespace Gs
open PySem PySem.Spec PyProof.Rows L2
section
variable {H : Hp} {Q : VK} {a b : Int}
theorem x_mod (hb : 0 < b) (q : ∀ r : Int, 0 ≤ r → r < b → r = a.fmod b → Q (.int r) H) : rI (fun _ j => j ≠ 0) (fun i j => V.int (i.fmod j)) (.int a) (.int b) H Q :=
  ⟨a, b, rfl, rfl, by omega, q _ (fmod0 hb) (fmodlt hb) rfl⟩
theorem x_div (hb : CDivW a b) (q : ∀ r : Int, r = a / b → (0 ≤ a → 0 ≤ r ∧ r ≤ a) → Q (.int r) H) : rI CDivW (fun i j => V.int (i / j)) (.int a) (.int b) H Q :=
  ⟨a, b, rfl, rfl, hb, q _ rfl fun ha => ⟨Int.ediv_nonneg ha (Int.le_of_lt hb.1), Int.ediv_le_self b ha⟩⟩
end
end Gs
namespace Gs
open PySem PySem.Spec PyProof.Rows L2
section
variable {K : PySem.W.Frag} {H : Hp} {Q : VK}
theorem dpInts : ∀ ns : List Int, DpAll K H (ns.map V.int) (ns.map PyData.int)
  | [] => .nil
  | n :: r => .cons (.int n) (dpInts r)
theorem x_neNil {l q : Addr} {ns : List Int} (h : SqL K H l (ns.map V.int)) (h2 : SqL K H q []) (k : Q (.bl (!decide (ns = []))) H) : rNeD K (.ref l) (.ref q) H Q := by
  refine ⟨.list (ns.map PyData.int), .list [], .lst h (dpInts ns), .lst h2 .nil, PySem.W.ke_shaped_ints ns, PySem.W.ke_shaped_ints [], ?_⟩
  have e : PyData.eqv (.list (ns.map PyData.int)) (.list []) = decide (ns = []) := by
    cases ns with
    | nil => rfl
    | cons n r => rfl
  rw [e]
  exact k
theorem seqIx0 {n : Nat} (h : 0 < n) : seqIndex? 0 n = some 0 := (ixN_seq (ix0 h)).1
end
end Gs
namespace Gs
open PySem PySem.Spec PyProof.Rows L2
section
variable {σ : L2.St} {H : Hp} {wi : TI} {g : TG} {tb : TS} {D : Ends} {ta : TA} {te : TE} {R : It → Hp → Prop} {K : PySem.W.Frag} {Q : VK}
theorem x_for (q : wi σ H fun J H1 => ∃ W : Nat → Nat → L2.St → Hp → Prop, (∃ m, W 0 m σ H1) ∧ ∀ i m σ H, W i m σ H →
  (J.stop i H ∧ D.nx σ H) ∨ (J.go i H ∧ ∃ N : L2.St → Hp → Prop, (∀ σ' H', N σ' H' → ∃ m', m' < m ∧ W (i + 1) m' σ' H') ∧ ∀ x H', J.yld i H x H' → g x σ H' fun σ2 H2 => tb { D with nx := N, ct := N, bk := D.nx } σ2 H2)) : tFor wi g tb D σ H := q
theorem x_rng1 (q : ta σ H fun vs H1 => ∃ j : Int, vs = [.int j] ∧ -(2 ^ 62) ≤ j ∧ j < 2 ^ 62 ∧ R (Itr 0 j.toNat) H1) : iRng1 ta σ H R := q
theorem x_rng2 (q : ta σ H fun vs H1 => ∃ i j : Int, vs = [.int i, .int j] ∧ (-(2 ^ 62) ≤ i ∧ i < 2 ^ 62 ∧ -(2 ^ 62) ≤ j ∧ j < 2 ^ 62) ∧ R (Itr i (j - i).toNat) H1) : iRng2 ta σ H R := q
theorem x_ilist (q : te σ H fun x H1 => ∃ a, x = .ref a ∧ (∃ xs, SqL K H1 a xs) ∧ R (Itl K a) H1) : iList K te σ H R := q
theorem x_itup (q : te σ H fun x H1 => ∃ a, x = .ref a ∧ (∃ xs, SqT K H1 a xs) ∧ R (Itt K a) H1) : iTup K te σ H R := q
/-- for x in range(n) -/
theorem x_forR1 {n : Int} {X : L2.St → Hp → Prop} {rt : VK} (Pv : Nat → L2.St → Hp → Prop) (hn : n < 2 ^ 62) (hn0 : -(2 ^ 62) ≤ n) (h0 : Pv 0 σ H)
    (hs : ∀ (i : Nat) σ H, (i : Int) < n → Pv i σ H → g (.int (i : Int)) σ H fun σ2 H2 => tb { nx := Pv (i + 1), rt := rt, bk := X, ct := Pv (i + 1) } σ2 H2) (hd : ∀ σ H, Pv n.toNat σ H → X σ H) :
    ∃ j : Int, [V.int n] = [.int j] ∧ -(2 ^ 62) ≤ j ∧ j < 2 ^ 62 ∧ ∃ W : Nat → Nat → L2.St → Hp → Prop, (∃ m, W 0 m σ H) ∧ ∀ i m σ H, W i m σ H →
      ((Itr 0 j.toNat).stop i H ∧ X σ H) ∨ ((Itr 0 j.toNat).go i H ∧ ∃ N : L2.St → Hp → Prop, (∀ σ' H', N σ' H' → ∃ m', m' < m ∧ W (i + 1) m' σ' H') ∧ ∀ x H', (Itr 0 j.toNat).yld i H x H' → g x σ H' fun σ2 H2 => tb { nx := N, rt := rt, bk := X, ct := N } σ2 H2) :=
  ⟨n, rfl, hn0, hn, for_range (D := { nx := X, rt := rt }) (lo := 0) (n := n.toNat) Pv h0 (fun i σ' H' hi p => by
    have e : (0 : Int) + (i : Int) = (i : Int) := Int.zero_add _
    rw [e]
    exact hs i σ' H' (by omega) p) hd⟩
theorem x_forR2 {lo hi : Int} {X : L2.St → Hp → Prop} {rt : VK} (Pv : Nat → L2.St → Hp → Prop) (hn : -(2 ^ 62) ≤ lo ∧ lo < 2 ^ 62 ∧ -(2 ^ 62) ≤ hi ∧ hi < 2 ^ 62) (h0 : Pv 0 σ H)
    (hs : ∀ (i : Nat) σ H, lo + (i : Int) < hi → Pv i σ H → g (.int (lo + (i : Int))) σ H fun σ2 H2 => tb { nx := Pv (i + 1), rt := rt, bk := X, ct := Pv (i + 1) } σ2 H2) (hd : ∀ σ H, Pv (hi - lo).toNat σ H → X σ H) :
    ∃ i j : Int, [V.int lo, V.int hi] = [.int i, .int j] ∧ (-(2 ^ 62) ≤ i ∧ i < 2 ^ 62 ∧ -(2 ^ 62) ≤ j ∧ j < 2 ^ 62) ∧ ∃ W : Nat → Nat → L2.St → Hp → Prop, (∃ m, W 0 m σ H) ∧ ∀ i' m σ H, W i' m σ H →
      ((Itr i (j - i).toNat).stop i' H ∧ X σ H) ∨ ((Itr i (j - i).toNat).go i' H ∧ ∃ N : L2.St → Hp → Prop, (∀ σ' H', N σ' H' → ∃ m', m' < m ∧ W (i' + 1) m' σ' H') ∧ ∀ x H', (Itr i (j - i).toNat).yld i' H x H' → g x σ H' fun σ2 H2 => tb { nx := N, rt := rt, bk := X, ct := N } σ2 H2) :=
  ⟨lo, hi, rfl, hn, for_range (D := { nx := X, rt := rt }) (lo := lo) (n := (hi - lo).toNat) Pv h0 (fun i σ' H' hi' p => hs i σ' H' (by omega) p) hd⟩
/-- for x in a list, a tuple -/
theorem x_forL {a : Addr} {xs : List V} {X : L2.St → Hp → Prop} {rt : VK} (Pv : Nat → L2.St → Hp → Prop) (h0 : Pv 0 σ H) (hl : ∀ i σ H, i ≤ xs.length → Pv i σ H → SqL K H a xs)
    (hs : ∀ i x σ H, xs[i]? = some x → Pv i σ H → g x σ H fun σ2 H2 => tb { nx := Pv (i + 1), rt := rt, bk := X, ct := Pv (i + 1) } σ2 H2) (hd : ∀ σ H, Pv xs.length σ H → X σ H) (hS : SqL K H a xs) :
    ∃ b, V.ref a = .ref b ∧ (∃ xs, SqL K H b xs) ∧ ∃ W : Nat → Nat → L2.St → Hp → Prop, (∃ m, W 0 m σ H) ∧ ∀ i m σ H, W i m σ H →
      ((Itl K b).stop i H ∧ X σ H) ∨ ((Itl K b).go i H ∧ ∃ N : L2.St → Hp → Prop, (∀ σ' H', N σ' H' → ∃ m', m' < m ∧ W (i + 1) m' σ' H') ∧ ∀ x H', (Itl K b).yld i H x H' → g x σ H' fun σ2 H2 => tb { nx := N, rt := rt, bk := X, ct := N } σ2 H2) :=
  ⟨a, rfl, ⟨xs, hS⟩, for_list (D := { nx := X, rt := rt }) Pv h0 hl hs hd⟩
theorem x_forT {a : Addr} {xs : List V} {X : L2.St → Hp → Prop} {rt : VK} (Pv : Nat → L2.St → Hp → Prop) (h0 : Pv 0 σ H) (hl : ∀ i σ H, i ≤ xs.length → Pv i σ H → SqT K H a xs)
    (hs : ∀ i x σ H, xs[i]? = some x → Pv i σ H → g x σ H fun σ2 H2 => tb { nx := Pv (i + 1), rt := rt, bk := X, ct := Pv (i + 1) } σ2 H2) (hd : ∀ σ H, Pv xs.length σ H → X σ H) (hS : SqT K H a xs) :
    ∃ b, V.ref a = .ref b ∧ (∃ xs, SqT K H b xs) ∧ ∃ W : Nat → Nat → L2.St → Hp → Prop, (∃ m, W 0 m σ H) ∧ ∀ i m σ H, W i m σ H →
      ((Itt K b).stop i H ∧ X σ H) ∨ ((Itt K b).go i H ∧ ∃ N : L2.St → Hp → Prop, (∀ σ' H', N σ' H' → ∃ m', m' < m ∧ W (i + 1) m' σ' H') ∧ ∀ x H', (Itt K b).yld i H x H' → g x σ H' fun σ2 H2 => tb { nx := N, rt := rt, bk := X, ct := N } σ2 H2) :=
  ⟨a, rfl, ⟨xs, hS⟩, for_tup (D := { nx := X, rt := rt }) Pv h0 hl hs hd⟩
end
end Gs
namespace Gs
open PySem PySem.Spec PyProof.Rows L2
section
variable {σ : L2.St} {H : Hp} {wi : TI} {g : TG} {tt : TT} {ta : TA} {to te : TE} {K : PySem.W.Frag} {Q : VK} {vs : List Nat} {x y : V}
theorem x_lc (q : wi σ H fun J H1 => ∀ D, H1 D = none → ∃ W : Nat → Nat → Hp → Prop, (∃ m, W 0 m (upd H1 D (.lst []))) ∧ ∀ i m H, W i m H →
  (J.stop i H ∧ Q (.ref D) H) ∨ (J.go i H ∧ ∃ Nx : Hp → Prop, (∀ H', Nx H' → ∃ m', m' < m ∧ W (i + 1) m' H') ∧ ∀ x H', J.yld i H x H' → g x (wipe σ vs) H' fun σ2 H2 => wipe σ2 vs = wipe σ vs ∧ tt σ2 H2 fun b H3 =>
    if b = true then te σ2 H3 fun y H4 => ∃ acc, H4 D = some (.lst acc) ∧ acc.length < sizeLine ∧ Nx (upd H4 D (.lst (acc ++ [y]))) else Nx H3)) : tLc wi g tt te vs σ H Q := q
theorem x_yes {R : Bool → Hp → Prop} (q : R true H) : tYes σ H R := q
theorem x_lcR1 {n : Int} {Qd : Addr → Hp → Prop} (Pv : Addr → Nat → Hp → Prop) (hn0 : -(2 ^ 62) ≤ n) (hn : n < 2 ^ 62) (h0 : ∀ D, H D = none → Pv D 0 (upd H D (.lst [])))
    (hs : ∀ D, H D = none → ∀ (i : Nat) H', (i : Int) < n → Pv D i H' → g (.int (i : Int)) (wipe σ vs) H' fun σ2 H2 => wipe σ2 vs = wipe σ vs ∧ tt σ2 H2 fun b H3 =>
      if b = true then te σ2 H3 fun y H4 => ∃ acc, H4 D = some (.lst acc) ∧ acc.length < sizeLine ∧ Pv D (i + 1) (upd H4 D (.lst (acc ++ [y]))) else Pv D (i + 1) H3) (hd : ∀ D, H D = none → ∀ H', Pv D n.toNat H' → Qd D H') :
    ∃ j : Int, [V.int n] = [.int j] ∧ -(2 ^ 62) ≤ j ∧ j < 2 ^ 62 ∧ ∀ D, H D = none → ∃ W : Nat → Nat → Hp → Prop, (∃ m, W 0 m (upd H D (.lst []))) ∧ ∀ i m H, W i m H →
      ((Itr 0 j.toNat).stop i H ∧ Qd D H) ∨ ((Itr 0 j.toNat).go i H ∧ ∃ Nx : Hp → Prop, (∀ H', Nx H' → ∃ m', m' < m ∧ W (i + 1) m' H') ∧ ∀ x H', (Itr 0 j.toNat).yld i H x H' → g x (wipe σ vs) H' fun σ2 H2 => wipe σ2 vs = wipe σ vs ∧ tt σ2 H2 fun b H3 =>
        if b = true then te σ2 H3 fun y H4 => ∃ acc, H4 D = some (.lst acc) ∧ acc.length < sizeLine ∧ Nx (upd H4 D (.lst (acc ++ [y]))) else Nx H3) :=
  ⟨n, rfl, hn0, hn, fun D hD => lc_range (lo := 0) (n := n.toNat) (Pv D) (h0 D hD) (fun i H' hi p => by
    have e : (0 : Int) + (i : Int) = (i : Int) := Int.zero_add _
    rw [e]
    exact hs D hD i H' (by omega) p) (hd D hD)⟩
theorem x_lcL {Qd : Addr → Hp → Prop} {a : Addr} {xs : List V} (Pv : Addr → Nat → Hp → Prop) (hS : SqL K H a xs) (h0 : ∀ D, H D = none → Pv D 0 (upd H D (.lst []))) (hl : ∀ D, H D = none → ∀ i H', i ≤ xs.length → Pv D i H' → SqL K H' a xs)
    (hs : ∀ D, H D = none → ∀ i x H', xs[i]? = some x → Pv D i H' → g x (wipe σ vs) H' fun σ2 H2 => wipe σ2 vs = wipe σ vs ∧ tt σ2 H2 fun b H3 =>
      if b = true then te σ2 H3 fun y H4 => ∃ acc, H4 D = some (.lst acc) ∧ acc.length < sizeLine ∧ Pv D (i + 1) (upd H4 D (.lst (acc ++ [y]))) else Pv D (i + 1) H3) (hd : ∀ D, H D = none → ∀ H', Pv D xs.length H' → Qd D H') :
    ∃ b, V.ref a = .ref b ∧ (∃ xs, SqL K H b xs) ∧ ∀ D, H D = none → ∃ W : Nat → Nat → Hp → Prop, (∃ m, W 0 m (upd H D (.lst []))) ∧ ∀ i m H, W i m H →
      ((Itl K b).stop i H ∧ Qd D H) ∨ ((Itl K b).go i H ∧ ∃ Nx : Hp → Prop, (∀ H', Nx H' → ∃ m', m' < m ∧ W (i + 1) m' H') ∧ ∀ x H', (Itl K b).yld i H x H' → g x (wipe σ vs) H' fun σ2 H2 => wipe σ2 vs = wipe σ vs ∧ tt σ2 H2 fun b H3 =>
        if b = true then te σ2 H3 fun y H4 => ∃ acc, H4 D = some (.lst acc) ∧ acc.length < sizeLine ∧ Nx (upd H4 D (.lst (acc ++ [y]))) else Nx H3) :=
  ⟨a, rfl, ⟨xs, hS⟩, fun D hD => lc_list (xs := xs) (Pv D) (h0 D hD) (hl D hD) (hs D hD) (hd D hD)⟩
theorem x_m1 {r : V → List V → Hp → VK → Prop} (q : to σ H fun x H1 => (∃ a, x = .str a) ∧ te σ H1 fun y H2 => r x [y] H2 Q) : tM1 r to te σ H Q := q
theorem x_m0 {r : V → List V → Hp → VK → Prop} (q : to σ H fun x H1 => (∃ a, x = .str a) ∧ r x [] H1 Q) : tM0 r to σ H Q := q
theorem x_isStr {a : Str} {A : Prop} (q : A) : (∃ b, V.str a = .str b) ∧ A := ⟨⟨a, rfl⟩, q⟩
theorem x_join {a : Str} {p : Addr} {ys : List Str} {A : Str → List Str → Prop} (h : SqL K H p (ys.map V.str)) (hz : (ys.map (·.length)).sum + ys.length * a.length ≤ 16777216) (q : A a ys) :
    ∃ a' p', ∃ ys : List Str, V.str a = .str a' ∧ [V.ref p] = [.ref p'] ∧ (SqL K H p' (ys.map V.str) ∨ SqT K H p' (ys.map V.str)) ∧ (ys.map (·.length)).sum + ys.length * a'.length ≤ 16777216 ∧ A a' ys :=
  ⟨a, p, ys, rfl, rfl, .inl h, hz, q⟩
theorem x_lenS {z : Str} {A : Str → Prop} (h : z.length ≤ sizeLine) (q : A z) : ∃ z', [V.str z] = [.str z'] ∧ z'.length ≤ sizeLine ∧ A z' := ⟨z, rfl, h, q⟩
theorem x_lenL {p : Addr} {xs : List V} {A : List V → Prop} (h : SqL K H p xs) (q : A xs) : ∃ p' ys, [V.ref p] = [.ref p'] ∧ (SqL K H p' ys ∨ SqT K H p' ys) ∧ A ys := ⟨p, xs, rfl, .inl h, q⟩
theorem x_lenT {p : Addr} {xs : List V} {A : List V → Prop} (h : SqT K H p xs) (q : A xs) : ∃ p' ys, [V.ref p] = [.ref p'] ∧ (SqL K H p' ys ∨ SqT K H p' ys) ∧ A ys := ⟨p, xs, rfl, .inr h, q⟩
theorem x_strI {i : Int} {A : Int → Prop} (h : i.natAbs.log2 < 1920) (q : A i) : ∃ j, [V.int i] = [.int j] ∧ j.natAbs.log2 < 1920 ∧ A j := ⟨i, rfl, h, q⟩
theorem x_intB {b : Bool} {A : Int → Prop} {B : Bool → Prop} (q : B b) : (∃ i, [V.bl b] = [.int i] ∧ A i) ∨ ∃ k, [V.bl b] = [.bl k] ∧ B k := .inr ⟨b, rfl, q⟩
theorem x_inS {c : Nat} {z : Str} {A : Nat → Str → Prop} (q : A c z) : ∃ (c' : Nat) (z' : Str), V.str ⟨#[c]⟩ = .str ⟨#[c']⟩ ∧ V.str z = .str z' ∧ A c' z' := ⟨c, z, rfl, rfl, q⟩
theorem x_mul {z : Str} {n : Int} (h : MulOk z n) (q : Q (.str (Txt.mul z n)) H) : rStrMul (.str z) (.int n) H Q := ⟨z, n, rfl, rfl, h, q⟩
theorem x_app {l : Addr} {xs : List V} (h : H l = some (.lst xs)) (hz : xs.length < sizeLine) (q : Q .non (upd H l (.lst (xs ++ [y])))) : rAppend (.ref l) [y] H Q := ⟨l, xs, y, rfl, rfl, h, hz, q⟩
theorem x_tyL {l : Addr} {xs : List V} {A : Prop} (h : SqL K H l xs) (q : A) : tyV K "list" (.ref l) H ∧ A := ⟨.inl ⟨rfl, _, h⟩, q⟩
theorem x_ib {b : Bool} {A B : Prop} (hb : b = true) (h : A) : if b = true then A else B := by rw [if_pos hb]; exact h
theorem x_if0 {b : Bool} {A B : Prop} (hb : b = false) (h : B) : if b = true then A else B := by rw [hb]; exact h
theorem x_while {c : TT} {tb : TS} {X : L2.St → Hp → Prop} {rt : VK} {bk ct : L2.St → Hp → Prop} (W : Nat → L2.St → Hp → Prop) (m0 : Nat) (h0 : W m0 σ H)
    (hs : ∀ m σ H, W m σ H → c σ H fun b H1 => if b = true then ∃ N : L2.St → Hp → Prop, (∀ σ' H', N σ' H' → ∃ m', m' < m ∧ W m' σ' H') ∧ tb { nx := N, rt := rt, bk := X, ct := N } σ H1 else X σ H1) : tWhile c tb { nx := X, rt := rt, bk := bk, ct := ct } σ H := ⟨W, ⟨m0, h0⟩, hs⟩
end
end Gs
namespace Gs
open PySem PySem.Spec PyProof.Rows L2
theorem x_chain {σ : L2.St} {H : Hp} {Q : VK} {r r' : R2} {ta tb tc : TE} (q : ta σ H fun x H1 => tb σ H1 fun y H2 => r x y H2 fun z H3 => ∃ k, z = .bl k ∧ if k = true then tc σ H3 fun w' H4 => r' y w' H4 Q else Q (.bl false) H3) : tChain r r' ta tb tc σ H Q := q
end Gs
namespace Gs
open PySem PySem.Spec PyProof.Rows L2
theorem x_ip {H : Hp} {Q : VK} {f : Int → Int → Int} {a b : Int} (q : Q (.int (f a b)) H) : ipI f (.int a) (.int b) H Q := ⟨a, b, rfl, rfl, q⟩
theorem x_ii {a b : Int} {A : Int → Int → Prop} (q : A a b) : ∃ i j, [V.int a, V.int b] = [V.int i, V.int j] ∧ A i j := ⟨a, b, rfl, q⟩
theorem x_1i {a : Int} {A : Int → Prop} (q : A a) : ∃ i, [V.int a] = [V.int i] ∧ A i := ⟨a, rfl, q⟩
end Gs
namespace Gs
open PySem PySem.Spec PyProof.Rows L2
section
variable {K : PySem.W.Frag} {x qual : Str} {params : Arguments} {body : List Stmt} {scope : Scope} {kws : List (Str × V)} {f : Addr} {fd : FuncData} {ps : List Str}
theorem FunD_kbindsN (F : FunD K x qual params body scope [] kws f fd) (n : Nat) (ks : List Str)
    (h : ∀ (kV doc pm : Value) (an : Option Addr) (cdv ct : Value) (us ws : List Value), us.length = n → ws.length = ks.length → bindArgs (PySem.W.fnOf x qual params body scope .none kV doc pm an cdv ct) ⟨us, ks.zip ws⟩ = pure (ps.zip (us ++ ws))) :
    KBn K fd ps n ks (fun us ws => us ++ ws) (fun vs zs => vs ++ zs) := by
  obtain ⟨oc, od, dV, kV, doc, pm, an, cdv, ct, osl, rfl, lk, hcd, hD, hK⟩ := F.ex
  rcases hD with ⟨_, rfl⟩ | ⟨e, _⟩
  · exact ⟨fun s us ws _ l1 l2 => .of_eq (h kV doc pm an cdv ct us ws l1 l2), fun r1 r2 => r1.append r2⟩
  · exact absurd rfl e
end
/-- a def with keyword-only parameters: n others; dvs what stands for the keywords where they lack -/
structure HasK (P : Program) (w : World) (K : PySem.W.Frag) (mg : Str → Option Value) (base : Heap) (k : Nat) (x : Str) (ps : List Str) (n : Nat) (ks : List Str) (dvs : List V) (sp : Sp) : Prop where
  ex : ∃ (f : Addr) (fd : FuncData), FnOk P w K mg base CX0 k f fd ps sp ∧ (∃ ds, Vals dvs ds ∧ Binds K fd ps ds) ∧ KBn K fd ps n ks (fun us ws => us ++ ws) (fun vs zs => vs ++ zs) ∧ PySem.W.keepIn K (.ref f) = true ∧ mg x = some (.ref f)
section
variable {X : Cx} {x : Str} {p pos : Pos} {e : Expr} {es : List Expr} {t tk : TA} {kws : List Keyword}
theorem pe_callHD {k j n : Nat} {ps ks : List Str} {dvs : List V} {sp : Sp} (C : HasK X.prog X.w X.K X.mg X.base k x ps n ks dvs sp) (hr : Room j X.A) (ha : PA X (e :: es) t) (hk : k ≤ j := by decide) (hg : Gl X x := by rfl) (hdb : (x == ("__debug__" : Str)) = false := by decide)
    (he : starEach (e :: es) X.env = (false, eval e X.env) :: starEach es X.env := by rfl) (hpl : (backTo pos (starEach es X.env)).any (·.1) = false := by rfl) :
    PE X (.Call (.Name x p) (e :: es) [] pos) (tCall sp dvs E0 t) := by
  obtain ⟨f, fd, F, ⟨ds, hv, b⟩, _, kp, m⟩ := C.ex
  exact pe_call F (hr.mono hk) hg m kp b hv pass0 ha hdb he hpl
theorem pe_callHK {k j n : Nat} {ps ks : List Str} {dvs : List V} {sp : Sp} (C : HasK X.prog X.w X.K X.mg X.base k x ps n ks dvs sp) (hr : Room j X.A) (ha : PA X (e :: es) t) (hkw : PK X kws tk) (hk : k ≤ j := by decide) (hg : Gl X x := by rfl)
    (hall : (backToKw pos (keywordEach kws X.env)).all (·.1.isSome) = true := by rfl) (hks : (backToKw pos (keywordEach kws X.env)).filterMap (·.1) = ks := by rfl)
    (hdb : (x == ("__debug__" : Str)) = false := by decide) (he : starEach (e :: es) X.env = (false, eval e X.env) :: starEach es X.env := by rfl)
    (hpl : ((backTo pos (starEach (e :: es) X.env)).any (·.1) || (backToKw pos (keywordEach kws X.env)).any (·.1.isNone)) = false := by rfl) :
    PE X (.Call (.Name x p) (e :: es) kws pos) (tCallN n ks.length sp (fun vs zs => vs ++ zs) E0 t tk) := by
  obtain ⟨f, fd, F, _, b, kp, m⟩ := C.ex
  exact pe_callN F (hr.mono hk) hg m kp b pass0 ha hkw hall hks hdb he hpl
end
theorem x_callN {σ : L2.St} {H : Hp} {Q : VK} {n m : Nat} {sp : Sp} {g : List V → List V → List V} {E : XK} {t tk : TA} (q : t σ H fun vs H1 => tk σ H1 fun zs H2 => vs.length = n ∧ zs.length = m ∧ sp (g vs zs) H2 Q E) : tCallN n m sp g E t tk σ H Q := q
end Gs
namespace Gs
open PySem PySem.Spec PyProof.Rows L2
section
variable {X : Cx} {K : PySem.W.Frag}
theorem ix_listK (h : X.K = K := by rfl) : IxR X (rIxL K) := h ▸ ix_list
theorem ix_tupK (h : X.K = K := by rfl) : IxR X (rIxT K) := h ▸ ix_tup
theorem op_inK (h : X.K = K := by rfl) : OpR X (compareOp .In) (rIn K false) := h ▸ op_in_seq
theorem op_notInK (h : X.K = K := by rfl) : OpR X (compareOp .NotIn) (rIn K true) := h ▸ op_notIn_seq
theorem sl_listK (h : X.K = K := by rfl) : SlR X (rSlL K) := h ▸ sl_list
theorem sl_tupK (h : X.K = K := by rfl) : SlR X (rSlT K) := h ▸ sl_tup
theorem op_eqDK (hu : X.A.units + 64 < cLine) (h : X.K = K := by rfl) : OpR X (compareOp .Eq) (rEqD K) := h ▸ op_eqD hu
theorem op_neDK (hu : X.A.units + 64 < cLine) (h : X.K = K := by rfl) : OpR X (compareOp .NotEq) (rNeD K) := h ▸ op_neD hu
def rLenK (K : PySem.W.Frag) : List V → Hp → VK → Prop := fun xs H Q => ∃ p ys, xs = [.ref p] ∧ (SqL K H p ys ∨ SqT K H p ys) ∧ Q (.int ys.length) H
theorem call_lenK (h : X.K = K := by rfl) : CallR X (.builtin "len") (rLenK K) := h ▸ call_len_seq
theorem call_isiKK (h : X.K = K := by rfl) : CallR X (.builtin "isinstance") (rIsi K) := h ▸ call_isi
end
theorem x_lenKL {K : PySem.W.Frag} {H : Hp} {Q : VK} {p : Addr} {xs : List V} (h : SqL K H p xs) (q : Q (.int xs.length) H) : rLenK K [.ref p] H Q := ⟨p, xs, rfl, .inl h, q⟩
theorem x_lenKT {K : PySem.W.Frag} {H : Hp} {Q : VK} {p : Addr} {xs : List V} (h : SqT K H p xs) (q : Q (.int xs.length) H) : rLenK K [.ref p] H Q := ⟨p, xs, rfl, .inr h, q⟩
end Gs
namespace Gs
open PySem PySem.Spec PyProof.Rows L2
section
variable {X : Cx} {K : PySem.W.Frag} {H : Hp} {Q : VK}
theorem cr_allK (hc : X.calm = true) (h : X.K = K := by rfl) : CallR X (.builtin "all") (rAll K) := h ▸ cr_all hc
theorem cr_anyK (hc : X.calm = true) (h : X.K = K := by rfl) : CallR X (.builtin "any") (rAny K) := h ▸ cr_any hc
theorem dpStrs : ∀ zs : List Str, DpAll K H (zs.map V.str) (zs.map PyData.str)
  | [] => .nil
  | z :: r => .cons (.str z) (dpStrs r)
def okStr (z : Str) : Bool := z.cps.all (· < 0x110000)
theorem shapedStrs {zs : List Str} (h : ∀ z ∈ zs, okStr z = true) : SeqAt.shaped (.list (zs.map PyData.str)) = true := by
  have h1 : PyData.canLayAll0 (zs.map PyData.str) = true := by
    induction zs with
    | nil => rfl
    | cons z r ih =>
      rw [List.map_cons]
      simp only [PyData.canLayAll0, PyData.canLay0, Bool.and_eq_true]
      exact ⟨h z (List.mem_cons_self ..), ih fun y hy => h y (List.mem_cons_of_mem _ hy)⟩
  have h2 : PyData.depthAll (zs.map PyData.str) = 0 := by
    clear h h1
    induction zs with
    | nil => rfl
    | cons z r ih => simp [PyData.depthAll, PyData.depth, ih]
  simp [SeqAt.shaped, PyData.canLay0, PyData.depth, h1, h2]
theorem x_eqStrs {a b : Addr} {zs : List Str} (ha : SqL K H a (zs.map V.str)) (hb : SqL K H b (zs.map V.str)) (h : ∀ z ∈ zs, okStr z = true) (q : Q (.bl true) H) : rEqD K (.ref a) (.ref b) H Q := by
  have hs := shapedStrs h
  refine ⟨_, _, .lst ha (dpStrs zs), .lst hb (dpStrs zs), hs, hs, ?_⟩
  rw [SeqAt.eqv_refl _ (SeqAt.canLay_of_shaped hs)]
  exact q
theorem okStr_small {z : Str} (h : ∀ x ∈ z.cps.toList, x < 128) : okStr z = true := by
  unfold okStr
  rw [Array.all_eq_true']
  intro x hx
  have := h x (by simpa using hx)
  simp
  omega
end
end Gs
namespace Gs
open PySem PySem.Spec PyProof.Rows L2
theorem atL {α : Type} {xs : List α} {i : Int} (h0 : 0 ≤ i) (h : i < (xs.length : Int)) : ∃ v, v ∈ xs ∧ atI xs i = some v := by
  have hk : i.toNat < xs.length := by omega
  have e : i = ((i.toNat : Nat) : Int) := by omega
  refine ⟨xs[i.toNat], List.getElem_mem hk, ?_⟩
  exact (congrArg (atI xs) e).trans (atI_nat (List.getElem?_eq_getElem hk))
end Gs

namespace Gs
open PySem PySem.Spec PyProof.Rows L2
/-! ### the pool of a law: its list at p, the script's rest at l; c : at most so many takes so far -/
structure PoolAt (H : Hp) (p l : Addr) (c : Int) : Prop where
  ex : ∃ (a n s : Int) (ns : List Int), H p = some (.lst [.ref l, .int a, .int n, .int s]) ∧ H l = some (.lst (ns.map V.int)) ∧ 0 ≤ a ∧ 0 ≤ n ∧ n ≤ c ∧ 0 ≤ s ∧ s < 2147483647 ∧ ns.length ≤ 1000
/-- all but p and l is as it was -/
def Kx (p l : Addr) (H H' : Hp) : Prop := ∀ b o, H b = some o → b ≠ p → b ≠ l → H' b = some o
theorem Kx.refl {p l : Addr} (H : Hp) : Kx p l H H := fun _ _ h _ _ => h
theorem Kx.trans {p l : Addr} {H H1 H2 : Hp} (a : Kx p l H H1) (b : Kx p l H1 H2) : Kx p l H H2 := fun c o h h1 h2 => b c o (a c o h h1 h2) h1 h2
theorem Kx.of {p l : Addr} {H H1 : Hp} (a : Same H H1) : Kx p l H H1 := fun c o h _ _ => a c o h
theorem Kx.updp {p l : Addr} {H H1 : Hp} {o : HO} (a : Kx p l H H1) : Kx p l H (upd H1 p o) := fun c u h h1 h2 => by
  rw [upd_ne h1]
  exact a c u h h1 h2
theorem Kx.updl {p l : Addr} {H H1 : Hp} {o : HO} (a : Kx p l H H1) : Kx p l H (upd H1 l o) := fun c u h h1 h2 => by
  rw [upd_ne h2]
  exact a c u h h1 h2
theorem Kx.updn {p l q : Addr} {H H1 : Hp} {o : HO} (hq : H1 q = none) (a : Kx p l H H1) : Kx p l H (upd H1 q o) := fun c u h h1 h2 => by
  rw [upd_ne (ne_of_none (a c u h h1 h2) hq)]
  exact a c u h h1 h2
theorem PoolAt.ne {H : Hp} {p l : Addr} {c : Int} (P : PoolAt H p l c) : p ≠ l := by
  obtain ⟨a, n, s, ns, hp, hl, _⟩ := P.ex
  refine ne_of hp hl fun z => ?_
  have z1 := HO.lst.inj z
  cases ns with
  | nil => cases z1
  | cons x r => simp at z1
theorem PoolAt.mono {H : Hp} {p l : Addr} {c d : Int} (P : PoolAt H p l c) (h : c ≤ d) : PoolAt H p l d := by
  obtain ⟨a, n, s, ns, hp, hl, h1, h2, h3, h4⟩ := P.ex
  exact ⟨a, n, s, ns, hp, hl, h1, h2, by omega, h4⟩
theorem PoolAt.same {H H' : Hp} {p l : Addr} {c : Int} (P : PoolAt H p l c) (h : Same H H') : PoolAt H' p l c := by
  obtain ⟨a, n, s, ns, hp, hl, h1⟩ := P.ex
  exact ⟨a, n, s, ns, h _ _ hp, h _ _ hl, h1⟩
theorem PoolAt.upd {H : Hp} {p l q : Addr} {c : Int} {o : HO} (P : PoolAt H p l c) (h : H q = none) : PoolAt (upd H q o) p l c :=
  P.same fun b u e => by
    rw [upd_ne (ne_of_none e h)]
    exact e
theorem PoolAt.hp {H : Hp} {p l : Addr} {c : Int} (P : PoolAt H p l c) : ∃ o, H p = some o := by
  obtain ⟨a, n, s, ns, hp, hl, h1⟩ := P.ex
  exact ⟨_, hp⟩
theorem same_upd {H : Hp} {p : Addr} {o : HO} (h : H p = none) : Same H (upd H p o) := fun b x e => by
  rw [upd_ne (ne_of_none e h)]
  exact e
theorem Kx.tup {p l a : Addr} {c : Int} {H H' : Hp} {xs : List V} (k : Kx p l H H') (P : PoolAt H p l c) (h : H a = some (.tup xs)) : H' a = some (.tup xs) := by
  obtain ⟨a', n, s, ns, hp, hl, h1⟩ := P.ex
  exact k a _ h (ne_of h hp (by intro z; cases z)) (ne_of h hl (by intro z; cases z))
theorem Kx.sqT {K : PySem.W.Frag} {p l a : Addr} {c : Int} {H H' : Hp} {xs : List V} (k : Kx p l H H') (P : PoolAt H p l c) (h : SqT K H a xs) : SqT K H' a xs := by
  obtain ⟨a', n, s, ns, hp, hl, h1⟩ := P.ex
  rcases h with (h | ⟨o, h⟩) | h
  · exact .inl (.inl (k.tup P h))
  · exact .inl (.inr ⟨o, k a _ h (ne_of h hp (by intro z; cases z)) (ne_of h hl (by intro z; cases z))⟩)
  · exact .inr h
theorem cutV_map (ns : List Int) (lo hi : Option Int) : ∃ ms : List Int, cutV (ns.map V.int) lo hi = ms.map V.int ∧ ms.length ≤ ns.length := by
  refine ⟨(ns.drop (HT.sIx ns.length 0 lo)).take (HT.sIx ns.length ns.length hi - HT.sIx ns.length 0 lo), ?_, ?_⟩
  · unfold cutV
    rw [List.length_map, List.map_take, List.map_drop]
  · rw [List.length_take, List.length_drop]
    omega
theorem kxl {p l a : Addr} {c : Int} {G H : Hp} {o : HO} (P : PoolAt G p l c) (na : G a = none) (k : Kx p l (upd G a o) H) : H a = some o := by
  obtain ⟨a', n, s, ns, hp, hl, h1⟩ := P.ex
  exact k a _ upd_same (ne_of_none hp na).symm (ne_of_none hl na).symm
theorem PoolAt.fresh {H : Hp} {p l a : Addr} {c : Int} (P : PoolAt H p l c) (h : H a = none) : a ≠ p ∧ a ≠ l := by
  obtain ⟨a', n, s, ns, hp, hl, h1⟩ := P.ex
  exact ⟨(ne_of_none hp h).symm, (ne_of_none hl h).symm⟩
theorem PoolAt.updo {H : Hp} {p l q : Addr} {c : Int} {o : HO} (P : PoolAt H p l c) (h1 : q ≠ p) (h2 : q ≠ l) : PoolAt (L2.upd H q o) p l c := by
  obtain ⟨a, n, s, ns, hp, hl, h⟩ := P.ex
  exact ⟨a, n, s, ns, by rw [upd_ne h1.symm]; exact hp, by rw [upd_ne h2.symm]; exact hl, h⟩
theorem Kx.updf {p l q : Addr} {H H1 : Hp} {o : HO} (hq : H q = none) (a : Kx p l H H1) : Kx p l H (L2.upd H1 q o) := fun c u h h1 h2 => by
  rw [upd_ne (ne_of_none h hq)]
  exact a c u h h1 h2
theorem Kx.none {p l D : Addr} {H G : Hp} (k : Kx p l H G) (h : G D = Option.none) (h1 : D ≠ p) (h2 : D ≠ l) : H D = Option.none := by
  cases e : H D with
  | none => rfl
  | some o =>
    rw [k D o e h1 h2] at h
    cases h
/-- how much a promise of a def with a pool asks -/
def Big : Int := 1000000000000
theorem mixedBound {s n t : Int} (h1 : 0 ≤ s) (h2 : s < 2147483647) (h3 : 0 ≤ n) (h4 : n ≤ 1000000000000) (h5 : 0 ≤ t) (h6 : t ≤ 100) : (s + 7919 * (8 * n + t) + 104729).natAbs < 2 ^ 64 := by omega
def spMixed (K : PySem.W.Frag) : Sp := fun vs H Q _ => ∃ (p l : Addr) (c t : Int), vs = [.ref p, .int t] ∧ PoolAt H p l c ∧ c ≤ 1000000000000 ∧ 0 ≤ t ∧ t ≤ 100 ∧ ∀ z : Int, 0 ≤ z → z < 2147483629 → Q (.int z) H
def spTake (K : PySem.W.Frag) : Sp := fun vs H Q _ => ∃ (p l : Addr) (c m : Int), vs = [.ref p, .int m] ∧ PoolAt H p l c ∧ c + 1 ≤ 1000000000000 ∧ 0 < m ∧ m ≤ 10 ^ 80 ∧
  ∀ (z : Int) (H' : Hp), 0 ≤ z → z < m → PoolAt H' p l (c + 1) → Kx p l H H' → Q (.int z) H'
def spPool (K : PySem.W.Frag) : Sp := fun vs H Q _ => ∃ (a : Addr) (ns : List Int) (k : Int), vs = [.ref a, .int k] ∧ SqL K H a (ns.map V.int) ∧ ns.length ≤ 63 ∧ 0 ≤ k ∧ k ≤ 100 ∧
  ∀ (p l : Addr) (H' : Hp), H p = none → H l = none → Same H H' → PoolAt H' p l 0 → Q (.ref p) H'
theorem log_of {i : Int} {a : Nat} (ha : i.natAbs < 2 ^ a) (h0 : 0 < a) : i.natAbs.log2 < a := PySem.Flt.log2_lt_of h0 ha
end Gs

namespace Gs
open PySem PySem.Spec PyProof.Rows L2 TL
/-! ### the pieces of a line, as lists of codes -/
def sD : List Nat := [48, 49, 50, 51, 52, 53, 54, 55, 56, 57]
def sS : List Nat := [97, 98, 99, 100, 101, 102, 103, 104, 105, 106, 107, 108, 109, 110, 111, 112, 113, 114, 115, 116, 117, 118, 119, 120, 121, 122]
def sC : List Nat := [65, 66, 67, 68, 69, 70, 71, 72, 73, 74, 75, 76, 77, 78, 79, 80, 81, 82, 83, 84, 85, 86, 87, 88, 89, 90]
def sM : List Nat := [43, 45, 42, 47, 60, 62, 61, 38, 33, 63, 94, 64, 35, 58, 124, 46, 36]
theorem tl_D : tl ("0123456789" : Str) = sD := by decide +kernel
theorem tl_S : tl ("abcdefghijklmnopqrstuvwxyz" : Str) = sS := by decide +kernel
theorem tl_C : tl ("ABCDEFGHIJKLMNOPQRSTUVWXYZ" : Str) = sC := by decide +kernel
theorem tl_M : tl ("+-*/<>=&!?^@#:|.$" : Str) = sM := by decide +kernel
/-- by what a piece goes on that begins so -/
def cls (c : Nat) : List Nat := if c ∈ sD ∨ c = 126 then sD else if c ∈ sS ∨ c ∈ sC then sS ++ sD else if c ∈ sM then sM else []
def Stop (c : Nat) : List Nat → Prop
  | [] => True
  | h :: _ => h ∉ cls c
inductive Cut : List Nat → List (List Nat) → Prop
  | nil : Cut [] []
  | blank {l : List Nat} {ts : List (List Nat)} : Cut l ts → Cut (32 :: l) ts
  | piece {c : Nat} {t l : List Nat} {ts : List (List Nat)} : c ≠ 32 → (∀ x ∈ t, x ∈ cls c) → Stop c l → Cut l ts → Cut (c :: (t ++ l)) ((c :: t) :: ts)
theorem Cut.blanks {l : List Nat} {ts : List (List Nat)} (h : Cut l ts) : ∀ n : Nat, Cut (List.replicate n 32 ++ l) ts
  | 0 => h
  | n + 1 => by
    rw [List.replicate_succ]
    exact .blank (Cut.blanks h n)
theorem Cut.drop {l : List Nat} {ts : List (List Nat)} (h : Cut l ts) : Cut (l.dropWhile fun x => decide (x ∈ [32])) ts := by
  induction h with
  | nil => exact .nil
  | blank h ih =>
    rw [List.dropWhile_cons_of_pos (by decide)]
    exact ih
  | @piece c t l ts hc ht hs h ih =>
    rw [List.dropWhile_cons_of_neg (by simpa using hc)]
    exact .piece hc ht hs h
theorem run_stop {S t l : List Nat} (ht : ∀ x ∈ t, x ∈ S) (hl : ∀ h r, l = h :: r → h ∉ S) : (t ++ l).takeWhile (fun x => decide (x ∈ S)) = t := by
  induction t with
  | nil =>
    cases l with
    | nil => rfl
    | cons h r =>
      rw [List.nil_append, List.takeWhile_cons_of_neg (by simpa using hl h r rfl)]
  | cons x t ih =>
    rw [List.cons_append, List.takeWhile_cons_of_pos (by simpa using ht x (List.mem_cons_self ..)), ih fun y hy => ht y (List.mem_cons_of_mem _ hy)]
theorem stop_of {c : Nat} {l : List Nat} (h : Stop c l) : ∀ x r, l = x :: r → x ∉ cls c := fun x r e => by
  subst e
  exact h
/-- what the program says of a piece -/
def isPc : List Nat → Bool
  | [] => false
  | c :: t =>
    if c = 126 then decide (1 ≤ t.length ∧ t.length ≤ 60 ∧ t.head? ≠ some 48)
    else if c ∈ sD then decide (t.length + 1 ≤ 60 ∧ (c ≠ 48 ∨ t = []))
    else if c ∈ sS ∨ c ∈ sC then decide (t.length + 1 ≤ 12)
    else if c ∈ sM then decide (t.length + 1 ≤ 3)
    else decide (c ∈ [40, 41, 44])
theorem isPc_cons (c : Nat) (t : List Nat) : isPc (c :: t) = if c = 126 then decide (1 ≤ t.length ∧ t.length ≤ 60 ∧ t.head? ≠ some 48)
    else if c ∈ sD then decide (t.length + 1 ≤ 60 ∧ (c ≠ 48 ∨ t = []))
    else if c ∈ sS ∨ c ∈ sC then decide (t.length + 1 ≤ 12)
    else if c ∈ sM then decide (t.length + 1 ≤ 3)
    else decide (c ∈ [40, 41, 44]) := rfl
structure OkBit (l : List Nat) : Prop where
  ex : ∃ c t, l = c :: t ∧ c ≠ 32 ∧ ∀ x ∈ t, x ∈ cls c
  pc : isPc l = true
  small : ∀ x ∈ l, x < 128
  len : l.length ≤ 61
theorem sD_iff {c : Nat} : c ∈ sD ↔ 48 ≤ c ∧ c ≤ 57 := by
  unfold sD
  simp only [List.mem_cons, List.not_mem_nil, or_false]
  omega
theorem sS_iff {c : Nat} : c ∈ sS ↔ 97 ≤ c ∧ c ≤ 122 := by
  unfold sS
  simp only [List.mem_cons, List.not_mem_nil, or_false]
  omega
theorem sC_iff {c : Nat} : c ∈ sC ↔ 65 ≤ c ∧ c ≤ 90 := by
  unfold sC
  simp only [List.mem_cons, List.not_mem_nil, or_false]
  omega
theorem sM_all {c : Nat} (h : c ∈ sM) : (33 ≤ c ∧ c < 48 ∧ c ≠ 40 ∧ c ≠ 41 ∧ c ≠ 44) ∨ (58 ≤ c ∧ c ≤ 64) ∨ c = 94 ∨ c = 124 := by
  unfold sM at h
  simp only [List.mem_cons, List.not_mem_nil, or_false] at h
  omega
theorem cls_D {c : Nat} (h : c ∈ sD ∨ c = 126) : cls c = sD := if_pos h
theorem cls_W {c : Nat} (h : c ∈ sS ∨ c ∈ sC) : cls c = sS ++ sD := by
  unfold cls
  rw [if_neg, if_pos h]
  rw [sD_iff]
  rw [sS_iff, sC_iff] at h
  omega
theorem cls_M {c : Nat} (h : c ∈ sM) : cls c = sM := by
  have z := sM_all h
  unfold cls
  rw [if_neg (by rw [sD_iff]; omega), if_neg (by rw [sS_iff, sC_iff]; omega), if_pos h]
theorem cls_N {c : Nat} (h1 : c ∉ sD) (h2 : c ≠ 126) (h3 : c ∉ sS) (h4 : c ∉ sC) (h5 : c ∉ sM) : cls c = [] := by
  unfold cls
  rw [if_neg (by simp [h1, h2]), if_neg (by simp [h3, h4]), if_neg h5]
theorem cls_small {c x : Nat} (h : x ∈ cls c) : x < 128 ∧ x ≠ 32 := by
  unfold cls at h
  split at h
  · rw [sD_iff] at h
    omega
  · split at h
    · rw [List.mem_append, sS_iff, sD_iff] at h
      omega
    · split at h
      · have z := sM_all h
        omega
      · cases h
theorem blank_not {c : Nat} : 32 ∉ cls c := fun h => (cls_small h).2 rfl
/-! numbers -/
theorem numL_head : ∀ n : Nat, 0 < n → ∃ c t, numL n = c :: t ∧ c ≠ 48 := by
  intro n
  induction n using Nat.strongRecOn with
  | _ n ih =>
    intro h0
    by_cases h : n < 10
    · exact ⟨48 + n, [], numL_lt h, by omega⟩
    · obtain ⟨c, t, e, hc⟩ := ih (n / 10) (by omega) (by omega)
      exact ⟨c, t ++ [48 + n % 10], by rw [numL_step (by omega), e]; rfl, hc⟩
theorem numL_D (n : Nat) : ∀ x ∈ numL n, x ∈ sD := fun x hx => sD_iff.mpr (numL_digits n x hx)
theorem ok_num {n : Nat} (h : n < 10 ^ 60) : OkBit (numL n) := by
  have hl := numL_len (k := 60) (by decide) h
  obtain ⟨c, t, e⟩ : ∃ c t, numL n = c :: t := by
    cases e : numL n with
    | nil => exact absurd e (numL_ne n)
    | cons c t => exact ⟨c, t, rfl⟩
  have hD := numL_D n
  rw [e] at hD hl ⊢
  have hc := hD c (List.mem_cons_self ..)
  have hc' := sD_iff.mp hc
  refine ⟨⟨c, t, rfl, by omega, fun x hx => ?_⟩, ?_, fun x hx => ?_, by omega⟩
  · rw [cls_D (.inl hc)]
    exact hD x (List.mem_cons_of_mem _ hx)
  · rw [isPc_cons, if_neg (by omega), if_pos hc]
    refine decide_eq_true ⟨hl, ?_⟩
    by_cases h0 : 0 < n
    · obtain ⟨c', t', e', hn⟩ := numL_head n h0
      rw [e] at e'
      cases e'
      exact .inl hn
    · have e0 : n = 0 := by omega
      subst e0
      have z : numL 0 = [48] := numL_lt (by decide)
      rw [e] at z
      cases z
      exact .inr rfl
  · have := sD_iff.mp (hD x hx)
    omega
theorem ok_neg {n : Nat} (h0 : 0 < n) (h : n < 10 ^ 60) : OkBit (126 :: numL n) := by
  have hl := numL_len (k := 60) (by decide) h
  obtain ⟨c, t, e, hc⟩ := numL_head n h0
  have hD := numL_D n
  rw [e] at hD hl ⊢
  refine ⟨⟨126, c :: t, rfl, by decide, fun x hx => ?_⟩, ?_, fun x hx => ?_, by rw [List.length_cons]; omega⟩
  · rw [cls_D (.inr rfl)]
    exact hD x hx
  · rw [isPc_cons, if_pos rfl]
    refine decide_eq_true ⟨by rw [List.length_cons]; omega, hl, ?_⟩
    simpa using hc
  · rcases List.mem_cons.mp hx with e | hx
    · omega
    · have := sD_iff.mp (hD x hx)
      omega
theorem ok_word {c : Nat} {t : List Nat} (hc : c ∈ sS ∨ c ∈ sC) (ht : ∀ x ∈ t, x ∈ sS ++ sD) (hl : t.length + 1 ≤ 12) : OkBit (c :: t) := by
  have h' : (97 ≤ c ∧ c ≤ 122) ∨ (65 ≤ c ∧ c ≤ 90) := by rwa [sS_iff, sC_iff] at hc
  refine ⟨⟨c, t, rfl, by omega, by rw [cls_W hc]; exact ht⟩, ?_, fun x hx => ?_, by rw [List.length_cons]; omega⟩
  · rw [isPc_cons, if_neg (by omega), if_neg (by rw [sD_iff]; omega), if_pos hc]
    exact decide_eq_true hl
  · rcases List.mem_cons.mp hx with e | hx
    · omega
    · have := ht x hx
      rw [List.mem_append, sS_iff, sD_iff] at this
      omega
theorem ok_mark {c : Nat} {t : List Nat} (hc : c ∈ sM) (ht : ∀ x ∈ t, x ∈ sM) (hl : t.length + 1 ≤ 3) : OkBit (c :: t) := by
  have h' := sM_all hc
  refine ⟨⟨c, t, rfl, by omega, by rw [cls_M hc]; exact ht⟩, ?_, fun x hx => ?_, by rw [List.length_cons]; omega⟩
  · rw [isPc_cons, if_neg (by omega), if_neg (by rw [sD_iff]; omega), if_neg (by rw [sS_iff, sC_iff]; omega), if_pos hc]
    exact decide_eq_true hl
  · rcases List.mem_cons.mp hx with e | hx
    · omega
    · have := sM_all (ht x hx)
      omega
theorem ok_sign {c : Nat} (hc : c = 40 ∨ c = 41 ∨ c = 44) : OkBit [c] := by
  refine ⟨⟨c, [], rfl, by omega, fun x hx => by cases hx⟩, ?_, fun x hx => ?_, by simp⟩
  · rcases hc with e | e | e <;> subst e <;> decide
  · rw [List.mem_singleton.mp hx]
    omega
/-! a line laid bit by bit -/
/-- what may follow, so that the last bit stays one -/
structure Laid (L : List Nat) (bits : List (List Nat)) (last : Nat) : Prop where
  go : ∀ R ts, Stop last R → Cut R ts → Cut (L ++ R) (bits ++ ts)
theorem Laid.start (n : Nat) : Laid (List.replicate n 32) [] 40 := ⟨fun R ts _ h => h.blanks n⟩
theorem Laid.add {L : List Nat} {bits : List (List Nat)} {last g : Nat} {c : Nat} {t : List Nat} (h : Laid L bits last) (hb : OkBit (c :: t)) (hg : 0 < g ∨ c ∉ cls last) : Laid (L ++ List.replicate g 32 ++ (c :: t)) (bits ++ [c :: t]) c := by
  obtain ⟨c', t', e, hc, ht⟩ := hb.ex
  cases e
  refine ⟨fun R ts hs hR => ?_⟩
  have h1 : Cut ((c :: t) ++ R) ((c :: t) :: ts) := .piece hc ht hs hR
  have h2 := h1.blanks g
  have h3 := h.go (List.replicate g 32 ++ ((c :: t) ++ R)) ((c :: t) :: ts) ?_ h2
  · rw [List.append_assoc, List.append_assoc, List.append_assoc]
    exact h3
  · cases g with
    | zero =>
      rcases hg with hg | hg
      · omega
      · exact hg
    | succ g => exact blank_not
theorem Laid.done {L : List Nat} {bits : List (List Nat)} {last : Nat} (h : Laid L bits last) (n : Nat) : Cut (L ++ List.replicate n 32) bits := by
  have h2 := h.go (List.replicate n 32) [] ?_ ?_
  · rw [List.append_nil] at h2
    exact h2
  · cases n with
    | zero => exact True.intro
    | succ n => exact blank_not
  · have := Cut.nil.blanks n
    rw [List.append_nil] at this
    exact this
end Gs

namespace Gs
open PySem PySem.Spec PyProof.Rows L2
/-- the statements of a class -/
def clsBody : Stmt → List Stmt
  | .ClassDef _ _ _ b _ _ _ _ _ _ _ => b
  | _ => []
/-! ### own classes of errors: GoalError's kinds -/
section
variable {X : Cx} {e : PySem.Expr} {es : List PySem.Expr} {ta : TA} {p p1 p2 pos pos2 : Pos} {pl : Sem Bool} {B : Addr} {cx : Str}
/-- Base.__init__(self, ..), Base a class of the text that has no __init__ of its own, over ValueError -/
theorem pe_cinit (hg : Gl X cx) (hm : X.mg cx = some (.ref B))
    (sp : PySem.W.specialIn X.K (.ref B) "__getattribute__" = some (some (.builtin "type.__getattribute__")))
    (rd : PySem.W.readsIn X.K B (.type "type") = true)
    (fc : PySem.W.findCls X.K (.ref B) (.type "type") "__init__" = some (.val (.builtin "ValueError.__init__")))
    (ha : PA X (e :: es) ta) (hd : (cx == ("__debug__" : Str)) = false := by decide)
    (h1 : eval (((Expr.Name cx p1).Attribute "__init__" p2).Call (e :: es) [] pos) X.env =
                (eval (Expr.Name cx p1) X.env >>= fun ov => standAt p2.atName >>= fun _ => holding [ov] (getMethod ov "__init__" pl) >>= fun xx =>
                    callWith pos xx.1 xx.2 (backTo pos (starEach (e :: es) X.env)) (backToKw pos (keywordEach [] X.env))) := by rfl)
    (he : starEach (e :: es) X.env = (false, eval e X.env) :: starEach es X.env := by rfl)
    (hpl : ((backTo pos (starEach es X.env)).any fun (x : Bool × Sem Value) => x.fst) = false := by rfl) :
    PE X (((Expr.Name cx p1).Attribute "__init__" p2).Call (e :: es) [] pos) (tVeI X.K ta) := by
  refine ⟨fun pins s σ H Q I h => ?_⟩
  refine PySem.W.methodCall_KW (pl := pl) ?_ h1
  refine ld_glob I hg hm ?_ hd
  obtain ⟨m, F⟩ := I.fr
  have kin : X.K.In s.heap := I.ok.mod.kin.keeps F.keep
  refine PySem.W.method_cls kin sp (PySem.W.cls_value kin rd fc rfl ?_)
  refine callWith_method1 ?_ he hpl
  refine thn (ha.run pos pins _ σ H _ (I.tok _) h) ?_
  rintro us s1 ⟨vs, H1, I1, hv, a, C, ws, rfl, hl, oc, ho, q⟩
  cases hv with
  | cons r hr =>
  obtain rfl := r
  have l : ws.length = _ := hr.length
  exact oinit_ok oc I1 ho (by rw [← l, sizeLine_eq]; omega) fun s' I2 => ⟨.non, _, I2, rfl, q⟩
end
/-- what the text's written part says of the class GoalError, at B -/
structure BaseC (K : PySem.W.Frag) (mg : Str → Option Value) (B : Addr) : Prop where
  mB : mg "GoalError" = some (.ref B)
  sp : PySem.W.specialIn K (.ref B) "__getattribute__" = some (some (.builtin "type.__getattribute__"))
  rd : PySem.W.readsIn K B (.type "type") = true
  fc : PySem.W.findCls K (.ref B) (.type "type") "__init__" = some (.val (.builtin "ValueError.__init__"))
/-- the promise of an __init__ of one whole number -/
def spErr1 (K : PySem.W.Frag) (C : Addr) (fld : Str) : Sp := fun vs H Q _ => ∃ (a : Addr) (n : Nat), vs = [.ref a, .int (n : Int)] ∧ n < 10 ^ 50 ∧ H a = some (exo a C none) ∧
  ∀ dx, H dx = none → dx ≠ a → Q .non (upd (upd H dx (exd dx [(fld, .int (n : Int))])) a (exo a C (some dx)))
/-- the class of errors x, at C, whose __init__ takes one whole number and keeps it as fld -/
structure HasErr (P : Program) (w : World) (K : PySem.W.Frag) (mg : Str → Option Value) (base : Heap) (x fld : Str) (C : Addr) : Prop where
  oex : OexC K C
  mC : mg x = some (.ref C)
  xf : XfC K C
  noF : PySem.W.findIn K (.ref C) fld = some none
  ex : PySem.W.exmOne K (.ref C) (.ref C) = some true
  ini : ∃ (fI : Addr) (fd : FuncData), PySem.W.findIn K (.ref C) "__init__" = some (some (.ref fI)) ∧ PySem.W.typeIn K (.ref fI) = some (.type "function") ∧ FnOk P w K mg base CX0 1 fI fd ["self", fld] (spErr1 K C fld) ∧ Binds K fd ["self", fld] []
section
variable {X : Cx} {e : PySem.Expr} {es : List PySem.Expr} {ta t : TA} {p p1 p2 pos pos2 : Pos} {C : Addr} {x fld : Str} {W : WX} {j : Nat}
/-- raise x(e) -/
theorem ps_raiseE (E : HasErr X.prog X.w X.K X.mg X.base x fld C) (hc : X.calm = true) (tk : Takes X W) (hr : Room j X.A) (ha : PA X [e] ta) (hk : 2 ≤ j := by decide) (hg : Gl X x := by rfl) (hd : (x == ("__debug__" : Str)) = false := by decide)
    (he : starEach (e :: []) X.env = (false, eval e X.env) :: starEach [] X.env := by rfl) (hpl : (backTo pos (starEach [] X.env)).any (·.1) = false := by rfl) :
    PS X (.Raise (some (.Call (.Name x p) [e] [] pos)) none pos2) (fun _ σ H => tMkO C (spErr1 X.K C fld) [] ta σ H fun cls d H' => W cls d σ H') := by
  obtain ⟨fI, fd, i1, i2, F, b⟩ := E.ini
  exact ps_raise hc tk (pmk_oex E.oex i1 i2 F (hr.mono hk) b .nil pass0 hg E.mC ha hd he hpl)
end
section
variable {K : PySem.W.Frag} {C : Addr} {fld : Str} {σ : L2.St} {H : Hp} {ta : TA} {sp : Sp} {dvs : List V}
theorem x_mkO {Q : XK} (q : ta σ H fun vs H1 => vs.length ≤ 1000 ∧ ∀ a, H1 a = none → sp (.ref a :: (vs ++ dvs)) (upd H1 a (exo a C none)) (fun v H2 => v = .non ∧ ∃ (d : Addr) (fs : List (Str × V)), H2 a = some (exo a C (some d)) ∧ H2 d = some (exd d fs) ∧ H1 d = none ∧ Q (.ref C) (some d) (upd (del H2 a) d (.xd fs))) (fun _ _ _ => False)) :
    tMkO C sp dvs ta σ H Q := q
theorem upd_err {H : Hp} {a d : Addr} {o1 o2 o3 o4 : HO} (ha : H a = none) (hne : d ≠ a) : upd (del (upd (upd (upd H a o1) d o2) a o3) a) d o4 = upd H d o4 := by
  funext b
  unfold upd del
  by_cases h1 : b = d
  · simp [h1]
  · by_cases h2 : b = a
    · subst h2
      simp [h1, ha]
    · simp [h1, h2]
/-- the error is made: what is left to show -/
theorem x_mkE {n : Nat} {Q : XK} (hn : n < 10 ^ 50) (q : ∀ d, H d = none → Q (.ref C) (some d) (upd H d (.xd [(fld, .int (n : Int))]))) :
    [V.int (n : Int)].length ≤ 1000 ∧ ∀ a, H a = none → spErr1 K C fld (.ref a :: ([V.int (n : Int)] ++ [])) (upd H a (exo a C none)) (fun v H2 => v = .non ∧ ∃ (d : Addr) (fs : List (Str × V)), H2 a = some (exo a C (some d)) ∧ H2 d = some (exd d fs) ∧ H d = none ∧ Q (.ref C) (some d) (upd (del H2 a) d (.xd fs))) (fun _ _ _ => False) := by
  refine ⟨(by show 1 ≤ 1000; decide), fun a ha => ⟨a, n, rfl, hn, upd_same, fun dx hdx hne => ⟨rfl, dx, [(fld, .int (n : Int))], upd_same, ?_, ?_, ?_⟩⟩⟩
  · rw [upd_ne hne]
    exact upd_same
  · rw [upd_ne hne] at hdx
    exact hdx
  · rw [upd_ne hne] at hdx
    rw [upd_err ha hne]
    exact q dx hdx
/-- for i, x in enumerate(a list) -/
theorem x_enum {R : It → Hp → Prop} (q : ta σ H fun vs H1 => ∃ a xs, vs = [.ref a] ∧ SqL K H1 a xs ∧ R (Ite K a) H1) : iEnum K ta σ H R := q
theorem x_forE {g : TG} {tb : TS} {a : Addr} {xs : List V} {X : L2.St → Hp → Prop} {rt : VK} (Pv : Nat → L2.St → Hp → Prop) (hS : SqL K H a xs) (h0 : Pv 0 σ H) (hl : ∀ i σ H, i ≤ xs.length → Pv i σ H → SqL K H a xs)
    (hs : ∀ i x σ H T, xs[i]? = some x → Pv i σ H → H T = none → g (.ref T) σ (upd H T (.tup [.int (i : Int), x])) fun σ2 H2 => tb { nx := Pv (i + 1), rt := rt, bk := X, ct := Pv (i + 1) } σ2 H2) (hd : ∀ σ H, Pv xs.length σ H → X σ H) :
    ∃ b ys, [V.ref a] = [V.ref b] ∧ SqL K H b ys ∧ ∃ W : Nat → Nat → L2.St → Hp → Prop, (∃ m, W 0 m σ H) ∧ ∀ i m σ H, W i m σ H →
      ((Ite K b).stop i H ∧ X σ H) ∨ ((Ite K b).go i H ∧ ∃ N : L2.St → Hp → Prop, (∀ σ' H', N σ' H' → ∃ m', m' < m ∧ W (i + 1) m' σ' H') ∧ ∀ x H', (Ite K b).yld i H x H' → g x σ H' fun σ2 H2 => tb { nx := N, rt := rt, bk := X, ct := N } σ2 H2) := by
  refine ⟨a, xs, rfl, hS, fun i m σ H => i + m = xs.length ∧ Pv i σ H, ⟨xs.length, Nat.zero_add _, h0⟩, ?_⟩
  rintro i m σ H ⟨hm, p⟩
  have hL := hl i σ H (by omega) p
  by_cases c : i < xs.length
  · refine .inr ⟨⟨xs, xs[i], hL, List.getElem?_eq_getElem c⟩, Pv (i + 1), fun σ' H' p' => ⟨m - 1, by omega, by omega, p'⟩, ?_⟩
    rintro x H' ⟨T, y, rfl, hT, rfl, hy⟩
    exact hs i y σ H T (hy xs hL) p hT
  · have e : i = xs.length := by omega
    subst e
    exact .inl ⟨⟨xs, hL, Nat.le_refl _⟩, hd σ H p⟩
end
theorem Same.sqT {K : PySem.W.Frag} {H H' : Hp} {a : Addr} {xs : List V} (k : Same H H') (h : SqT K H a xs) : SqT K H' a xs := by
  rcases h with (h | ⟨o, h⟩) | h
  · exact .inl (.inl (k a _ h))
  · exact .inl (.inr ⟨o, k a _ h⟩)
  · exact .inr h
/-! ### trees of numbers, texts and tuples -/
inductive Tv where
  | i : Int → Tv
  | s : Str → Tv
  | t : List Tv → Tv
/-- x is the tree, less than so deep -/
def TvAt (K : PySem.W.Frag) (H : Hp) : Nat → V → Tv → Prop
  | 0, _, _ => False
  | _ + 1, x, .i n => x = .int n
  | _ + 1, x, .s z => x = .str z
  | k + 1, x, .t ts => ∃ (a : Addr) (vs : List V), x = .ref a ∧ SqT K H a vs ∧ vs.length ≤ 1000 ∧ vs.length = ts.length ∧ ∀ (i : Nat) (y : V) (u : Tv), vs[i]? = some y → ts[i]? = some u → TvAt K H k y u
theorem TvAt.same {K : PySem.W.Frag} {H H' : Hp} (h : Same H H') : ∀ {k : Nat} {x : V} {u : Tv}, TvAt K H k x u → TvAt K H' k x u
  | 0, _, _, z => z
  | _ + 1, _, .i _, z => z
  | _ + 1, _, .s _, z => z
  | _ + 1, _, .t _, ⟨a, vs, e, s, z, l, f⟩ => ⟨a, vs, e, Same.sqT h s, z, l, fun i y u h1 h2 => (f i y u h1 h2).same h⟩
theorem TvAt.up {K : PySem.W.Frag} {H : Hp} : ∀ {k : Nat} {x : V} {u : Tv}, TvAt K H k x u → TvAt K H (k + 1) x u
  | _ + 1, _, .i _, z => z
  | _ + 1, _, .s _, z => z
  | _ + 1, _, .t _, ⟨a, vs, e, s, z, l, f⟩ => ⟨a, vs, e, s, z, l, fun i y u h1 h2 => (f i y u h1 h2).up⟩
theorem TvAt.kx {K : PySem.W.Frag} {p l : Addr} {c : Int} {H H' : Hp} (h : Kx p l H H') (P : PoolAt H p l c) : ∀ {k : Nat} {x : V} {u : Tv}, TvAt K H k x u → TvAt K H' k x u
  | 0, _, _, z => z
  | _ + 1, _, .i _, z => z
  | _ + 1, _, .s _, z => z
  | _ + 1, _, .t _, ⟨a, vs, e, s, z, l, f⟩ => ⟨a, vs, e, h.sqT P s, z, l, fun i y u h1 h2 => (f i y u h1 h2).kx h P⟩
/-- the type of what a tree is -/
theorem ty_tup {K : PySem.W.Frag} {H : Hp} {a : Addr} {vs : List V} (h : SqT K H a vs) : TyX K H (.ref a) (.type "tuple") := by
  rcases h with (h | ⟨o, h⟩) | ⟨o, its, n, h, h1, _⟩
  · exact .base (.tup h)
  · exact .fTuple h
  · exact .kTuple h h1
end Gs
namespace Gs
open PySem PySem.Spec PyProof.Rows L2
/-- a def of the text that may raise -/
structure HasE (P : Program) (w : World) (K : PySem.W.Frag) (mg : Str → Option Value) (base : Heap) (k : Nat) (x : Str) (ps : List Str) (sp : Sp) : Prop where
  ex : ∃ (f : Addr) (fd : FuncData), FnOk P w K mg base (L2.CX P w) k f fd ps sp ∧ Binds K fd ps [] ∧ PySem.W.keepIn K (.ref f) = true ∧ mg x = some (.ref f)
section
variable {X : Cx} {x : Str} {p pos : Pos} {e : PySem.Expr} {es : List PySem.Expr} {t : TA}
theorem pe_callE {k j : Nat} {ps : List Str} {sp : Sp} {W : WX} (C : HasE X.prog X.w X.K X.mg X.base k x ps sp) (hr : Room j X.A) (tk : Takes X W) (ha : PA X (e :: es) t) (hk : k ≤ j := by decide) (hg : Gl X x := by rfl) (hdb : (x == ("__debug__" : Str)) = false := by decide)
    (he : starEach (e :: es) X.env = (false, eval e X.env) :: starEach es X.env := by rfl) (hpl : (backTo pos (starEach es X.env)).any (·.1) = false := by rfl) :
    PE X (.Call (.Name x p) (e :: es) [] pos) (tCallS sp (WE W) t) := by
  obtain ⟨f, fd, F, b, kp, m⟩ := C.ex
  exact pe_callS F (hr.mono hk) hg m kp b (fun σ => passAt tk σ) ha hdb he hpl
end
theorem x_callS {σ : L2.St} {H : Hp} {Q : VK} {sp : Sp} {E : L2.St → XK} {t : TA} (q : t σ H fun vs H1 => sp vs H1 Q (E σ)) : tCallS sp E t σ H Q := q
/-! ### operators: rows of a level, a side, a name -/
structure Op where
  l : Int
  s : Str
  n : Str
@[reducible] def rowV (o : Op) : List V := [.int o.l, .str o.s, .str o.n]
def RowsAt (K : PySem.W.Frag) (H : Hp) (vs : List V) (ops : List Op) : Prop := vs.length = ops.length ∧ ∀ (i : Nat) (v : V) (o : Op), vs[i]? = some v → ops[i]? = some o → ∃ a, v = .ref a ∧ SqT K H a (rowV o)
theorem RowsAt.nil {K : PySem.W.Frag} {H : Hp} : RowsAt K H [] [] := ⟨rfl, fun i v o h => by cases h⟩
theorem RowsAt.cons {K : PySem.W.Frag} {H : Hp} {a : Addr} {o : Op} {vs : List V} {ops : List Op} (h : SqT K H a (rowV o)) (r : RowsAt K H vs ops) : RowsAt K H (.ref a :: vs) (o :: ops) := by
  refine ⟨by rw [List.length_cons, List.length_cons, r.1], fun i v u h1 h2 => ?_⟩
  cases i with
  | zero =>
    cases h1
    cases h2
    exact ⟨a, rfl, h⟩
  | succ i => exact r.2 i v u h1 h2
theorem RowsAt.append {K : PySem.W.Frag} {H : Hp} {vs ws : List V} {ops ops' : List Op} (r : RowsAt K H vs ops) (r' : RowsAt K H ws ops') : RowsAt K H (vs ++ ws) (ops ++ ops') := by
  refine ⟨by rw [List.length_append, List.length_append, r.1, r'.1], fun i v u h1 h2 => ?_⟩
  by_cases c : i < vs.length
  · rw [List.getElem?_append_left c] at h1
    rw [List.getElem?_append_left (by rw [← r.1]; exact c)] at h2
    exact r.2 i v u h1 h2
  · rw [List.getElem?_append_right (by omega)] at h1
    rw [List.getElem?_append_right (by rw [← r.1]; omega), ← r.1] at h2
    exact r'.2 _ v u h1 h2
theorem RowsAt.mono {K : PySem.W.Frag} {H H' : Hp} {vs : List V} {ops : List Op} (r : RowsAt K H vs ops) (k : ∀ a xs, SqT K H a xs → SqT K H' a xs) : RowsAt K H' vs ops := by
  refine ⟨r.1, fun i v o h1 h2 => ?_⟩
  obtain ⟨a, e, h⟩ := r.2 i v o h1 h2
  exact ⟨a, e, k a _ h⟩
theorem RowsAt.same {K : PySem.W.Frag} {H H' : Hp} {vs : List V} {ops : List Op} (r : RowsAt K H vs ops) (k : Same H H') : RowsAt K H' vs ops := r.mono fun _ _ h => Same.sqT k h
theorem RowsAt.kx {K : PySem.W.Frag} {p l : Addr} {c : Int} {H H' : Hp} {vs : List V} {ops : List Op} (r : RowsAt K H vs ops) (k : Kx p l H H') (P : PoolAt H p l c) : RowsAt K H' vs ops := r.mono fun _ _ h => k.sqT P h
theorem RowsAt.at {K : PySem.W.Frag} {H : Hp} {vs : List V} {ops : List Op} (r : RowsAt K H vs ops) {i : Nat} {v : V} (h : vs[i]? = some v) : ∃ a o, v = .ref a ∧ ops[i]? = some o ∧ SqT K H a (rowV o) := by
  have hi : i < vs.length := by
    rw [List.getElem?_eq_some_iff] at h
    exact h.1
  have h2 : ops[i]? = some (ops[i]'(by rw [← r.1]; exact hi)) := List.getElem?_eq_getElem _
  obtain ⟨a, e, s⟩ := r.2 i v _ h h2
  exact ⟨a, _, e, h2, s⟩
theorem RowsAt.take {K : PySem.W.Frag} {H : Hp} {vs : List V} {ops : List Op} (r : RowsAt K H vs ops) (k : Nat) : RowsAt K H (vs.take k) (ops.take k) := by
  refine ⟨by rw [List.length_take, List.length_take, r.1], fun i v o h1 h2 => ?_⟩
  by_cases c : i < k
  · rw [List.getElem?_take_of_lt c] at h1 h2
    exact r.2 i v o h1 h2
  · rw [List.getElem?_take_eq_none (by omega)] at h1
    cases h1
theorem row_tv {K : PySem.W.Frag} {H : Hp} {a : Addr} {o : Op} (h : SqT K H a (rowV o)) : TvAt K H 2 (.ref a) (.t [.i o.l, .s o.s, .s o.n]) := by
  refine ⟨a, _, rfl, h, (by show 3 ≤ 1000; decide), rfl, fun i y u h1 h2 => ?_⟩
  match i, h1, h2 with
  | 0, h1, h2 =>
    cases h1
    cases h2
    exact rfl
  | 1, h1, h2 =>
    cases h1
    cases h2
    exact rfl
  | 2, h1, h2 =>
    cases h1
    cases h2
    exact rfl
  | i + 3, h1, h2 => cases h1
/-- a list of trees -/
def TvsAt (K : PySem.W.Frag) (H : Hp) (k : Nat) (vs : List V) (ts : List Tv) : Prop := vs.length = ts.length ∧ ∀ (i : Nat) (y : V) (u : Tv), vs[i]? = some y → ts[i]? = some u → TvAt K H k y u
def opTv (o : Op) : Tv := .t [.i o.l, .s o.s, .s o.n]
theorem RowsAt.tvs {K : PySem.W.Frag} {H : Hp} {vs : List V} {ops : List Op} (r : RowsAt K H vs ops) : TvsAt K H 2 vs (ops.map opTv) := by
  refine ⟨by rw [List.length_map, r.1], fun i y u h1 h2 => ?_⟩
  obtain ⟨a, o, rfl, h3, h4⟩ := r.at h1
  rw [List.getElem?_map, h3] at h2
  cases h2
  exact row_tv h4
def keptL : List Str := ["op", "mode", "table", "not", "is", "in", "such", "and", "=", "<", "=<", "==", "=/=", "..", "<-"]
def ownL : List Op := [⟨9, "none", "such"⟩, ⟨8, "right", "and"⟩, ⟨7, "none", "in"⟩, ⟨7, "ahead", "not"⟩, ⟨6, "none", "="⟩, ⟨6, "none", "is"⟩, ⟨6, "none", "<"⟩, ⟨6, "none", "=<"⟩, ⟨6, "none", "=="⟩, ⟨6, "none", "=/="⟩, ⟨6, "none", ".."⟩, ⟨4, "left", "+"⟩, ⟨4, "left", "-"⟩, ⟨3, "left", "*"⟩, ⟨3, "left", "//"⟩, ⟨3, "left", "mod"⟩]
def hits (o e : Op) : Bool := decide (decide (o.s = ("ahead" : Str)) = decide (e.s = ("ahead" : Str))) && (decide (o.n = e.n) || (decide (o.l = e.l) && !decide (o.s = e.s)))
def barred (o : Op) (es : List Op) : Bool := decide (o.n ∈ keptL) || es.any (hits o)
def clash (ops : List Op) (k : Nat) : Bool := match ops[k]? with
  | none => false
  | some o => decide (12 ≤ k) || barred o (ownL ++ ops.take k)
def NoneAt (ops : List Op) : Prop := ∀ j, j < ops.length → clash ops j = false
def FirstAt (ops : List Op) (k : Nat) : Prop := k < ops.length ∧ clash ops k = true ∧ ∀ j, j < k → clash ops j = false
theorem strEq {a b : Str} : decide (V.str a = V.str b) = decide (a = b) := by
  rw [decide_eq_decide]
  exact ⟨V.str.inj, congrArg V.str⟩
theorem inV_strs {z : Str} {zs : List Str} : inV (.str z) (zs.map V.str) = decide (z ∈ zs) := by
  unfold inV
  rw [List.any_map]
  by_cases h : z ∈ zs
  · rw [decide_eq_true h, List.any_eq_true]
    refine ⟨z, h, ?_⟩
    show eqV (.str z) (.str z) = true
    simp [eqV]
  · rw [decide_eq_false h, List.any_eq_false]
    intro y hy e
    have e' : eqV (.str y) (.str z) = true := e
    simp [eqV] at e'
    exact h (e' ▸ hy)
end Gs
namespace Gs
open PySem PySem.Spec PyProof.Rows L2
section
variable {K : PySem.W.Frag} {σ : L2.St} {H : Hp} {Q : VK} {l b a : Addr} {xs zs : List V} {v : V} {r : List V} {t : TG} {u : TGs} {n : Nat} {k : L2.St → Hp → Prop}
theorem x_cat (hl : H l = some (.lst xs)) (hb : H b = some (.lst zs)) (hz : xs.length + zs.length ≤ sizeLine) (q : ∀ p, H p = none → Q (.ref p) (upd H p (.lst (xs ++ zs)))) : rCat (.ref l) (.ref b) H Q := ⟨l, b, xs, zs, rfl, rfl, hl, hb, hz, q⟩
theorem x_gtup (h : SqT K H a xs) (hn : xs.length = n) (q : u xs σ H k) : gTup K n u (.ref a) σ H k := ⟨a, xs, rfl, h, hn, q⟩
theorem x_gcons (q : t v σ H fun σ' H' => u r σ' H' k) : gCons t u (v :: r) σ H k := ⟨v, r, rfl, q⟩
theorem x_gnil (q : k σ H) : gNil [] σ H k := ⟨rfl, q⟩
theorem x_isT {x : V} {t : Value} {n : String} {c : Bool} (ty : TyX K H x t) (e : PySem.W.kitOne K t (.type n) = some c) (q : Q (.bl c) H) : rIsi K [x, .ty n] H Q :=
  ⟨x, .ty n, t, .type n, c, rfl, .ty n, ty, e, q⟩
theorem all_rep (n : Nat) : (List.replicate n true).all id = true := by
  rw [List.all_eq_true]
  intro x hx
  exact List.eq_of_mem_replicate hx
end
end Gs
namespace Gs
open PySem PySem.Spec PyProof.Rows L2
theorem take_more {α : Type} : ∀ {l : List α} {i : Nat} {x : α}, l[i]? = some x → l.take (i + 1) = l.take i ++ [x]
  | [], i, x, h => by simp at h
  | a :: l, 0, x, h => by
    have e : a = x := Option.some.inj h
    subst e
    rfl
  | a :: l, i + 1, x, h => by
    have ih := take_more (l := l) (i := i) (x := x) h
    rw [List.take_succ_cons, List.take_succ_cons, ih]
    rfl
theorem any_more {α : Type} {l : List α} {i : Nat} {x : α} {f : α → Bool} (h : l[i]? = some x) : (l.take (i + 1)).any f = ((l.take i).any f || f x) := by
  rw [take_more h, List.any_append]
  simp
theorem any_at {α : Type} {l : List α} {i : Nat} {x : α} {f : α → Bool} (h : l[i]? = some x) (hf : f x = true) : l.any f = true :=
  List.any_eq_true.mpr ⟨x, List.mem_of_getElem? h, hf⟩
theorem sqT_lst {K : PySem.W.Frag} {G : Hp} {D a : Addr} {ys xs : List V} {o : HO} (h : G D = some (.lst ys)) (s : SqT K G a xs) : SqT K (upd G D o) a xs := by
  rcases s with (s | ⟨u, s⟩) | s
  · refine .inl (.inl ?_)
    rw [upd_ne (ne_of s h (by intro z; cases z))]
    exact s
  · refine .inl (.inr ⟨u, ?_⟩)
    rw [upd_ne (ne_of s h (by intro z; cases z))]
    exact s
  · exact .inr s
theorem RowsAt.lst {K : PySem.W.Frag} {G : Hp} {D : Addr} {ys vs : List V} {o : HO} {ops : List Op} (r : RowsAt K G vs ops) (h : G D = some (.lst ys)) : RowsAt K (upd G D o) vs ops := r.mono fun _ _ s => sqT_lst h s
theorem same_updf {H G : Hp} {D : Addr} {o : HO} (s : Same H G) (h : H D = none) : Same H (upd G D o) := fun b u e => by
  rw [upd_ne (ne_of_none e h)]
  exact s b u e
theorem bl_ne {a b : Bool} (h : a ≠ b) : V.bl a ≠ V.bl b := fun z => h (V.bl.inj z)
theorem hits_no {o e : Op} (h : decide (o.s = ("ahead" : Str)) ≠ decide (e.s = ("ahead" : Str))) : hits o e = false := by
  unfold hits
  rw [decide_eq_false h, Bool.false_and]
theorem hits_n {o e : Op} (h : decide (o.s = ("ahead" : Str)) = decide (e.s = ("ahead" : Str))) (c : o.n = e.n) : hits o e = true := by
  unfold hits
  rw [decide_eq_true h, decide_eq_true c]
  rfl
theorem hits_l {o e : Op} (h : decide (o.s = ("ahead" : Str)) = decide (e.s = ("ahead" : Str))) (c : o.l = e.l) (d : o.s ≠ e.s) : hits o e = true := by
  unfold hits
  rw [decide_eq_true h, decide_eq_true c, decide_eq_false d]
  simp
theorem hits_0 {o e : Op} (c : o.n ≠ e.n) (d : ¬ (o.l = e.l ∧ o.s ≠ e.s)) : hits o e = false := by
  unfold hits
  rw [decide_eq_false c]
  by_cases h1 : o.l = e.l
  · have h2 : o.s = e.s := Classical.byContradiction fun z => d ⟨h1, z⟩
    rw [decide_eq_true h2]
    simp
  · rw [decide_eq_false h1]
    simp
theorem barred_hit {o : Op} {ops : List Op} {i : Nat} {e : Op} (h : ops[i]? = some e) (z : hits o e = true) : barred o ops = true := by
  unfold barred
  rw [any_at h z, Bool.or_true]
end Gs
namespace Gs
open PySem PySem.Spec PyProof.Rows L2
theorem same_updg {H G : Hp} {D : Addr} {o : HO} (s : Same H G) (h : G D = none) : Same H (upd G D o) := same_updf s (s.free h)
theorem same_refl (H : Hp) : Same H H := fun _ _ h => h
end Gs
namespace Gs
open PySem PySem.Spec PyProof.Rows L2
theorem ne_of_nn {H : Hp} {a b : Addr} (h2 : H b = none) (h1 : H a ≠ none) : a ≠ b := fun z => h1 (z ▸ h2)
theorem nn_same {H : Hp} {a : Addr} {o : HO} : upd H a o a ≠ none := by
  rw [upd_same]
  intro z
  cases z
theorem nn_of {H : Hp} {a : Addr} {o : HO} (h : H a = some o) : H a ≠ none := by
  rw [h]
  intro z
  cases z
theorem nn_upd {H : Hp} {a b : Addr} {o : HO} (h : H a ≠ none) : upd H b o a ≠ none := by
  by_cases c : a = b
  · rw [c]
    exact nn_same
  · rw [upd_ne c]
    exact h
end Gs
namespace Gs
open PySem PySem.Spec PyProof.Rows L2 TL
section
variable {K : PySem.W.Frag} {σ : L2.St} {H : Hp} {Q : VK} {ta : TA} {te to : TE} {t : TE} {ts : List TE} {acc : Str} {QS : Str → Hp → Prop} {D : Ends} {f : Str}
theorem x_veI (q : ta σ H fun vs H1 => ∃ (a C : Addr) (ws : List V), vs = .ref a :: ws ∧ ws.length ≤ 1000 ∧ OexC K C ∧ H1 a = some (exo a C none) ∧ Q .non H1) : tVeI K ta σ H Q := q
theorem x_jcons (q : t σ H fun x H1 => ∃ y : Str, x = .str y ∧ (acc ++ y).length ≤ sizeLine ∧ tJs ts (acc ++ y) σ H1 QS) : tJs (t :: ts) acc σ H QS := q
theorem x_jnil (q : QS acc H) : tJs [] acc σ H QS := q
theorem x_fmt (q : te σ H fun x H1 => (∃ y : Str, x = .str y ∧ y.length ≤ sizeLine ∧ Q (.str y) H1) ∨ ∃ i : Int, x = .int i ∧ i.natAbs.log2 < 1920 ∧ Q (.str (toString i)) H1) : tFmt te σ H Q := q
theorem x_ost (q : te σ H fun y H1 => to σ H1 fun x H2 => ∃ a C : Addr, x = .ref a ∧ OexC K C ∧ PySem.W.findIn K (.ref C) f = some none ∧ ((H2 a = some (exo a C none) ∧ ∀ dx, H2 dx = none → dx ≠ a → D.nx σ (upd (upd H2 dx (exd dx [(f, y)])) a (exo a C (some dx)))) ∨ ∃ (dx : Addr) (fs : List (Str × V)), H2 a = some (exo a C (some dx)) ∧ H2 dx = some (exd dx fs) ∧ fs.length ≤ 900 ∧ D.nx σ (upd H2 dx (exd dx ((f, y) :: fs))))) : tOst K f to te D σ H := q
theorem natStr_len {n : Nat} (h : n < 10 ^ 60) : (Str.ofString (toString ((n : Nat) : Int))).length ≤ 60 := by
  show (Str.ofString (toString ((n : Nat) : Int))).cps.size ≤ 60
  rw [← Array.length_toList]
  show (TL.tl (Str.ofString (toString ((n : Nat) : Int)))).length ≤ 60
  rw [TL.tl_num]
  exact numL_len (k := 60) (by decide) h
theorem str_append_len (a b : Str) : (a ++ b).length = a.length + b.length := by
  show (a ++ b).cps.size = a.cps.size + b.cps.size
  rw [← Array.length_toList, ← Array.length_toList, ← Array.length_toList, ← List.length_append]
  exact congrArg List.length (TL.tl_append a b)
end
end Gs
namespace Gs
open PySem PySem.Spec PyProof.Rows L2
/-- a class of errors is caught by its own name -/
theorem exm_own {K : PySem.W.Frag} {S : Addr} (h1 : PySem.W.subIn K (.ref S) (.type "BaseException") = some true) (h2 : PySem.W.isClsIn K S = true) (h3 : PySem.W.typeIn K (.ref S) = some (.type "type")) (h4 : PySem.W.subIn K (.ref S) (.ref S) = some true) : PySem.W.exmOne K (.ref S) (.ref S) = some true := by
  have h2' : (PySem.W.clsIn K S).isSome = true := h2
  unfold PySem.W.exmOne
  simp only [h1, BEq.rfl, if_true]
  unfold PySem.W.kitCls
  simp only [h3, h4, h2', BEq.rfl, Bool.and_self, if_true]
end Gs
namespace Gs
open PySem PySem.Spec PyProof.Rows L2
theorem sqT_new {K : PySem.W.Frag} {H : Hp} {p q : Addr} {xs : List V} {o : HO} (hq : H q = none) (h : SqT K H p xs) : SqT K (upd H q o) p xs := Same.sqT (fun b u e => by rw [upd_ne (ne_of_none e hq)]; exact e) h
theorem sqL_new {K : PySem.W.Frag} {H : Hp} {p q : Addr} {xs : List V} {o : HO} (hq : H q = none) (h : SqL K H p xs) : SqL K (upd H q o) p xs := Same.seq (fun b u e => by rw [upd_ne (ne_of_none e hq)]; exact e) h
end Gs

namespace Gs
open PySem PySem.Spec PyProof.Rows L2 TL
/-! ### patterns: numbers, texts, tuples of a name and parts -/
inductive Pt where
  | i : Int → Pt
  | s : Str → Pt
  | t : Str → List Pt → Pt
mutual
def szT : Pt → Nat
  | .i _ => 1
  | .s _ => 1
  | .t _ ps => 1 + szL ps
def szL : List Pt → Nat
  | [] => 0
  | x :: r => szT x + szL r
end
mutual
def dpT : Pt → Nat
  | .i _ => 1
  | .s _ => 1
  | .t _ ps => 1 + dpL ps
def dpL : List Pt → Nat
  | [] => 0
  | x :: r => max (dpT x) (dpL r)
end
mutual
/-- the pieces that it is of, each as it should be; T: what holds of each text, N: of each name -/
def okT (T N : Str → Prop) : Pt → Prop
  | .i n => n.natAbs < 10 ^ 60
  | .s z => T z
  | .t nm ps => N nm ∧ 0 < ps.length ∧ ps.length ≤ 4 ∧ okL T N ps
def okL (T N : Str → Prop) : List Pt → Prop
  | [] => True
  | x :: r => okT T N x ∧ okL T N r
end
theorem szT_pos (p : Pt) : 0 < szT p := by
  cases p with
  | i n => simp [szT]
  | s z => simp [szT]
  | t nm ps => simp only [szT]; omega
theorem dpT_pos (p : Pt) : 0 < dpT p := by
  cases p with
  | i n => simp [dpT]
  | s z => simp [dpT]
  | t nm ps => simp only [dpT]; omega
theorem szL_append : ∀ (a b : List Pt), szL (a ++ b) = szL a + szL b
  | [], b => by simp [szL]
  | x :: r, b => by
    rw [List.cons_append, szL, szL, szL_append r b]
    omega
theorem dpL_append : ∀ (a b : List Pt), dpL (a ++ b) = max (dpL a) (dpL b)
  | [], b => by simp [dpL]
  | x :: r, b => by
    rw [List.cons_append, dpL, dpL, dpL_append r b]
    omega
theorem okL_mem {T N : Str → Prop} : ∀ {ps : List Pt}, okL T N ps ↔ ∀ p ∈ ps, okT T N p
  | [] => by simp [okL]
  | x :: r => by
    rw [okL, okL_mem (ps := r)]
    simp
theorem dpL_mem : ∀ {ps : List Pt} {p : Pt}, p ∈ ps → dpT p ≤ dpL ps
  | [], _, h => by cases h
  | x :: r, p, h => by
    rw [dpL]
    rcases List.mem_cons.mp h with rfl | h
    · omega
    · have := dpL_mem h
      omega
theorem dpL_le : ∀ {ps : List Pt} {k : Nat}, (∀ p ∈ ps, dpT p ≤ k) → dpL ps ≤ k
  | [], k, _ => by simp [dpL]
  | x :: r, k, h => by
    rw [dpL]
    have h1 := h x (List.mem_cons_self ..)
    have h2 := dpL_le (ps := r) (k := k) fun p hp => h p (List.mem_cons_of_mem _ hp)
    omega
theorem szL_len : ∀ (ps : List Pt), ps.length ≤ szL ps
  | [] => by simp [szL]
  | x :: r => by
    rw [szL, List.length_cons]
    have := szT_pos x
    have := szL_len r
    omega
/-- x is the pattern, of a depth below so many -/
def PtAt (K : PySem.W.Frag) (H : Hp) : Nat → V → Pt → Prop
  | 0, _, _ => False
  | _ + 1, x, .i n => x = .int n
  | _ + 1, x, .s z => x = .str z
  | k + 1, x, .t nm ps => ∃ (a : Addr) (vs : List V), x = .ref a ∧ SqT K H a (.str nm :: vs) ∧ vs.length = ps.length ∧ ∀ (i : Nat) (y : V) (u : Pt), vs[i]? = some y → ps[i]? = some u → PtAt K H k y u
theorem PtAt.mono {K : PySem.W.Frag} {H H' : Hp} (h : ∀ a xs, SqT K H a xs → SqT K H' a xs) : ∀ {k : Nat} {x : V} {u : Pt}, PtAt K H k x u → PtAt K H' k x u
  | 0, _, _, z => z.elim
  | _ + 1, _, .i _, z => z
  | _ + 1, _, .s _, z => z
  | _ + 1, _, .t _ _, ⟨a, vs, e, s, l, f⟩ => ⟨a, vs, e, h _ _ s, l, fun i y u h1 h2 => (f i y u h1 h2).mono h⟩
theorem PtAt.same {K : PySem.W.Frag} {H H' : Hp} {k : Nat} {x : V} {u : Pt} (p : PtAt K H k x u) (h : Same H H') : PtAt K H' k x u := p.mono fun _ _ s => Same.sqT h s
theorem PtAt.kx {K : PySem.W.Frag} {p l : Addr} {c : Int} {H H' : Hp} {k : Nat} {x : V} {u : Pt} (q : PtAt K H k x u) (h : Kx p l H H') (P : PoolAt H p l c) : PtAt K H' k x u := q.mono fun _ _ s => h.sqT P s
theorem PtAt.lst {K : PySem.W.Frag} {G : Hp} {D : Addr} {ys : List V} {o : HO} {k : Nat} {x : V} {u : Pt} (q : PtAt K G k x u) (h : G D = some (.lst ys)) : PtAt K (upd G D o) k x u := q.mono fun _ _ s => sqT_lst h s
/-- to each depth that is enough -/
theorem PtAt.of_depth {K : PySem.W.Frag} {H : Hp} : ∀ {k j : Nat} {x : V} {u : Pt}, PtAt K H k x u → dpT u ≤ j → PtAt K H j x u
  | 0, _, _, _, z, _ => z.elim
  | _ + 1, 0, _, u, _, h => by
    have := dpT_pos u
    omega
  | _ + 1, _ + 1, _, .i _, z, _ => z
  | _ + 1, _ + 1, _, .s _, z, _ => z
  | k + 1, j + 1, _, .t _ ps, ⟨a, vs, e, s, l, f⟩, h => ⟨a, vs, e, s, l, fun i y u h1 h2 => (f i y u h1 h2).of_depth (by
      have := dpL_mem (List.mem_of_getElem? h2)
      rw [dpT] at h
      omega)⟩
/-- a list of patterns -/
def PtsAt (K : PySem.W.Frag) (H : Hp) (k : Nat) (vs : List V) (ps : List Pt) : Prop := vs.length = ps.length ∧ ∀ (i : Nat) (y : V) (u : Pt), vs[i]? = some y → ps[i]? = some u → PtAt K H k y u
theorem PtsAt.nil {K : PySem.W.Frag} {H : Hp} {k : Nat} : PtsAt K H k [] [] := ⟨rfl, fun i y u h => by cases h⟩
theorem PtsAt.append {K : PySem.W.Frag} {H : Hp} {k : Nat} {vs ws : List V} {ps qs : List Pt} (r : PtsAt K H k vs ps) (r' : PtsAt K H k ws qs) : PtsAt K H k (vs ++ ws) (ps ++ qs) := by
  refine ⟨by rw [List.length_append, List.length_append, r.1, r'.1], fun i v u h1 h2 => ?_⟩
  by_cases c : i < vs.length
  · rw [List.getElem?_append_left c] at h1
    rw [List.getElem?_append_left (by rw [← r.1]; exact c)] at h2
    exact r.2 i v u h1 h2
  · rw [List.getElem?_append_right (by omega)] at h1
    rw [List.getElem?_append_right (by rw [← r.1]; omega), ← r.1] at h2
    exact r'.2 _ v u h1 h2
theorem PtsAt.one {K : PySem.W.Frag} {H : Hp} {k : Nat} {v : V} {p : Pt} (h : PtAt K H k v p) : PtsAt K H k [v] [p] := by
  refine ⟨rfl, fun i y u h1 h2 => ?_⟩
  cases i with
  | zero =>
    cases h1
    cases h2
    exact h
  | succ i => cases h1
theorem PtsAt.mono {K : PySem.W.Frag} {H H' : Hp} {k : Nat} {vs : List V} {ps : List Pt} (r : PtsAt K H k vs ps) (h : ∀ a xs, SqT K H a xs → SqT K H' a xs) : PtsAt K H' k vs ps := ⟨r.1, fun i y u h1 h2 => (r.2 i y u h1 h2).mono h⟩
theorem PtsAt.same {K : PySem.W.Frag} {H H' : Hp} {k : Nat} {vs : List V} {ps : List Pt} (r : PtsAt K H k vs ps) (h : Same H H') : PtsAt K H' k vs ps := r.mono fun _ _ s => Same.sqT h s
theorem PtsAt.kx {K : PySem.W.Frag} {p l : Addr} {c : Int} {H H' : Hp} {k : Nat} {vs : List V} {ps : List Pt} (r : PtsAt K H k vs ps) (h : Kx p l H H') (P : PoolAt H p l c) : PtsAt K H' k vs ps := r.mono fun _ _ s => h.sqT P s
theorem PtsAt.lst {K : PySem.W.Frag} {G : Hp} {D : Addr} {ys vs : List V} {o : HO} {k : Nat} {ps : List Pt} (r : PtsAt K G k vs ps) (h : G D = some (.lst ys)) : PtsAt K (upd G D o) k vs ps := r.mono fun _ _ s => sqT_lst h s
theorem PtsAt.at {K : PySem.W.Frag} {H : Hp} {k : Nat} {vs : List V} {ps : List Pt} (r : PtsAt K H k vs ps) {i : Nat} {v : V} (h : vs[i]? = some v) : ∃ u, ps[i]? = some u ∧ PtAt K H k v u := by
  have hi : i < vs.length := (List.getElem?_eq_some_iff.mp h).1
  have h2 : ps[i]? = some (ps[i]'(by rw [← r.1]; exact hi)) := List.getElem?_eq_getElem _
  exact ⟨_, h2, r.2 i v _ h h2⟩
theorem PtsAt.take {K : PySem.W.Frag} {H : Hp} {k : Nat} {vs : List V} {ps : List Pt} (r : PtsAt K H k vs ps) (n : Nat) : PtsAt K H k (vs.take n) (ps.take n) := by
  refine ⟨by rw [List.length_take, List.length_take, r.1], fun i v o h1 h2 => ?_⟩
  by_cases c : i < n
  · rw [List.getElem?_take_of_lt c] at h1 h2
    exact r.2 i v o h1 h2
  · rw [List.getElem?_take_eq_none (by omega)] at h1
    cases h1
theorem PtsAt.drop {K : PySem.W.Frag} {H : Hp} {k : Nat} {vs : List V} {ps : List Pt} (r : PtsAt K H k vs ps) (n : Nat) : PtsAt K H k (vs.drop n) (ps.drop n) := by
  refine ⟨by rw [List.length_drop, List.length_drop, r.1], fun i v o h1 h2 => ?_⟩
  rw [List.getElem?_drop] at h1 h2
  exact r.2 _ v o h1 h2
theorem PtAt.tup {K : PySem.W.Frag} {H : Hp} {k : Nat} {a : Addr} {nm : Str} {vs : List V} {ps : List Pt} (s : SqT K H a (.str nm :: vs)) (r : PtsAt K H k vs ps) : PtAt K H (k + 1) (.ref a) (.t nm ps) := ⟨a, vs, rfl, s, r.1, r.2⟩
end Gs
namespace Gs
open PySem PySem.Spec PyProof.Rows L2 TL
theorem PtAt.dp {K : PySem.W.Frag} {H : Hp} : ∀ {k : Nat} {x : V} {u : Pt}, PtAt K H k x u → dpT u ≤ k
  | 0, _, _, z => z.elim
  | k + 1, _, .i _, _ => by simp [dpT]
  | k + 1, _, .s _, _ => by simp [dpT]
  | k + 1, _, .t _ ps, ⟨a, vs, e, s, l, f⟩ => by
    rw [dpT]
    have : dpL ps ≤ k := dpL_le fun p hp => by
      obtain ⟨i, hi⟩ := List.mem_iff_getElem?.mp hp
      have hi' : i < ps.length := (List.getElem?_eq_some_iff.mp hi).1
      exact (f i (vs[i]'(by omega)) p (List.getElem?_eq_getElem _) hi).dp
    omega
theorem PtAt.up {K : PySem.W.Frag} {H : Hp} {k j : Nat} {x : V} {u : Pt} (h : PtAt K H k x u) (hk : k ≤ j) : PtAt K H j x u := h.of_depth (Nat.le_trans h.dp hk)
theorem PtsAt.up {K : PySem.W.Frag} {H : Hp} {k j : Nat} {vs : List V} {ps : List Pt} (h : PtsAt K H k vs ps) (hk : k ≤ j) : PtsAt K H j vs ps := ⟨h.1, fun i y u h1 h2 => (h.2 i y u h1 h2).up hk⟩
theorem last_szL {ps : List Pt} {u : Pt} (h : ps[ps.length - 1]? = some u) : szL ps = szL ps.dropLast + szT u := by
  rw [← List.getLast?_eq_getElem?] at h
  obtain ⟨ys, rfl⟩ := List.getLast?_eq_some_iff.mp h
  rw [List.dropLast_concat, szL_append]
  simp [szL]
theorem PtsAt.dropLast {K : PySem.W.Frag} {H : Hp} {k : Nat} {vs : List V} {ps : List Pt} (r : PtsAt K H k vs ps) : PtsAt K H k vs.dropLast ps.dropLast := by
  rw [List.dropLast_eq_take, List.dropLast_eq_take, r.1]
  exact r.take _
end Gs
namespace Gs
open PySem PySem.Spec PyProof.Rows L2 TL
/-- what a pattern is, one of three -/
theorem PtAt.three {K : PySem.W.Frag} {H : Hp} {k : Nat} {x : V} {u : Pt} (h : PtAt K H k x u) : (∃ n, x = .int n ∧ u = .i n) ∨ (∃ z, x = .str z ∧ u = .s z) ∨ ∃ (j : Nat) (nm : Str) (ps : List Pt) (a : Addr) (vs : List V), k = j + 1 ∧ x = .ref a ∧ u = .t nm ps ∧ SqT K H a (.str nm :: vs) ∧ PtsAt K H j vs ps := by
  match k, u, h with
  | 0, _, h => exact h.elim
  | _ + 1, .i n, h => exact .inl ⟨n, h, rfl⟩
  | _ + 1, .s z, h => exact .inr (.inl ⟨z, h, rfl⟩)
  | j + 1, .t nm ps, ⟨a, vs, e, s, l, f⟩ => exact .inr (.inr ⟨j, nm, ps, a, vs, rfl, e, rfl, s, l, f⟩)
end Gs
namespace Gs
open PySem PySem.Spec PyProof.Rows L2 TL
/-- an unknown: its first sign is a capital -/
def unkS (z : Str) : Bool := match tl z with
  | c :: _ => decide (c ∈ sC)
  | [] => false
def unk : Pt → Bool
  | .s z => unkS z
  | _ => false
mutual
/-- the unknowns as they stand -/
def nmT : Pt → List Str
  | .i _ => []
  | .s z => if unkS z = true then [z] else []
  | .t _ ps => nmL ps
def nmL : List Pt → List Str
  | [] => []
  | x :: r => nmT x ++ nmL r
end
theorem nmL_append : ∀ (a b : List Pt), nmL (a ++ b) = nmL a ++ nmL b
  | [], b => by simp [nmL]
  | x :: r, b => by
    rw [List.cons_append, nmL, nmL, nmL_append r b, List.append_assoc]
/-- each once, as they first stand -/
def once (l : List Str) : List Str := l.foldl (fun acc z => if z ∈ acc then acc else acc ++ [z]) []
theorem once_more (l : List Str) (z : Str) : once (l ++ [z]) = if z ∈ once l then once l else once l ++ [z] := by
  unfold once
  rw [List.foldl_append]
  rfl
def fdK (l : List Str) : List (Key × V) := l.map fun z => (Sum.inr z, V.bl true)
theorem fdK_put (l : List Str) (z : Str) : putK (fdK l) (Sum.inr z) (V.bl true) = fdK (if z ∈ l then l else l ++ [z]) := by
  unfold putK
  have e : ((fdK l).any fun kv => decide (kv.1 = Sum.inr z)) = decide (z ∈ l) := by
    unfold fdK
    rw [List.any_map]
    by_cases h : z ∈ l
    · rw [decide_eq_true h, List.any_eq_true]
      exact ⟨z, h, by simp⟩
    · rw [decide_eq_false h, List.any_eq_false]
      intro y hy e
      simp at e
      exact h (e ▸ hy)
  rw [e]
  by_cases h : z ∈ l
  · rw [if_pos (decide_eq_true h), if_pos h]
    unfold fdK
    rw [List.map_map]
    refine List.map_congr_left fun y hy => ?_
    by_cases hz : y = z <;> simp [hz]
  · rw [if_neg (by rw [decide_eq_false h]; decide), if_neg h]
    unfold fdK
    rw [List.map_append]
    rfl
theorem fdK_keys (l : List Str) : (fdK l).map (fun kv => kV kv.1) = l.map V.str := by
  unfold fdK
  rw [List.map_map]
  rfl
theorem once_len : ∀ (l acc : List Str), (l.foldl (fun acc z => if z ∈ acc then acc else acc ++ [z]) acc).length ≤ acc.length + l.length
  | [], acc => by simp
  | z :: r, acc => by
    rw [List.foldl_cons]
    refine Nat.le_trans (once_len r _) ?_
    rw [List.length_cons]
    split
    · omega
    · rw [List.length_append]
      show acc.length + 1 + r.length ≤ _
      omega
mutual
theorem nmT_len : ∀ p : Pt, (nmT p).length ≤ szT p
  | .i _ => by simp [nmT]
  | .s z => by
    rw [nmT, szT]
    split <;> simp
  | .t _ ps => by
    rw [nmT, szT]
    have := nmL_len ps
    omega
theorem nmL_len : ∀ ps : List Pt, (nmL ps).length ≤ szL ps
  | [] => by simp [nmL]
  | x :: r => by
    rw [nmL, szL, List.length_append]
    have := nmT_len x
    have := nmL_len r
    omega
end
theorem PtsAt.reverse {K : PySem.W.Frag} {H : Hp} {k : Nat} {vs : List V} {ps : List Pt} (r : PtsAt K H k vs ps) : PtsAt K H k vs.reverse ps.reverse := by
  refine ⟨by rw [List.length_reverse, List.length_reverse, r.1], fun i y u h1 h2 => ?_⟩
  have hi : i < vs.length := by
    have := (List.getElem?_eq_some_iff.mp h1).1
    rwa [List.length_reverse] at this
  rw [List.getElem?_reverse hi] at h1
  rw [List.getElem?_reverse (by rw [← r.1]; exact hi), ← r.1] at h2
  exact r.2 _ y u h1 h2
theorem okL_sub {T N : Str → Prop} {ps qs : List Pt} (h : okL T N ps) (k : ∀ p ∈ qs, p ∈ ps) : okL T N qs := okL_mem.mpr fun p hp => okL_mem.mp h p (k p hp)
end Gs
namespace Gs
open PySem PySem.Spec PyProof.Rows L2 TL
theorem szL_reverse : ∀ ps : List Pt, szL ps.reverse = szL ps
  | [] => rfl
  | x :: r => by
    rw [List.reverse_cons, szL_append, szL_reverse r, szL]
    simp only [szL]
    omega
theorem sqT_dk {K : PySem.W.Frag} {G : Hp} {D a : Addr} {kvs : List (Key × V)} {xs : List V} {o : HO} (h : G D = some (.dK kvs)) (s : SqT K G a xs) : SqT K (upd G D o) a xs := by
  rcases s with (s | ⟨u, s⟩) | s
  · refine .inl (.inl ?_)
    rw [upd_ne (ne_of s h (by intro z; cases z))]
    exact s
  · refine .inl (.inr ⟨u, ?_⟩)
    rw [upd_ne (ne_of s h (by intro z; cases z))]
    exact s
  · exact .inr s
theorem mem_dropLast {α : Type} {l : List α} {x : α} (h : x ∈ l.dropLast) : x ∈ l := by
  rw [List.dropLast_eq_take] at h
  exact List.mem_of_mem_take h
end Gs
namespace Gs
open PySem PySem.Spec PyProof.Rows L2 TL
def partsT : Pt → List Pt
  | .t _ ps => ps
  | _ => []
def nextL (l : List Pt) : List Pt := (l.map partsT).flatten
theorem nextL_append (a b : List Pt) : nextL (a ++ b) = nextL a ++ nextL b := by
  unfold nextL
  rw [List.map_append, List.flatten_append]
theorem dpT_parts (p : Pt) : dpT p = 1 + dpL (partsT p) := by
  cases p <;> simp [dpT, partsT, dpL]
theorem szT_parts (p : Pt) : szT p = 1 + szL (partsT p) := by
  cases p <;> simp [szT, partsT, szL]
theorem dpL_next : ∀ {l : List Pt}, l ≠ [] → dpL l = 1 + dpL (nextL l)
  | [], h => absurd rfl h
  | [x], _ => by
    have e : nextL [x] = partsT x := by simp [nextL]
    rw [e, dpL, dpL, dpT_parts x]
    omega
  | x :: y :: r, _ => by
    have e : nextL (x :: y :: r) = partsT x ++ nextL (y :: r) := by simp [nextL]
    rw [e, dpL, dpL_next (l := y :: r) (by simp), dpL_append, dpT_parts x]
    omega
theorem szL_next : ∀ l : List Pt, szL (nextL l) + l.length = szL l
  | [] => rfl
  | x :: r => by
    have e : nextL (x :: r) = partsT x ++ nextL r := by simp [nextL]
    have := szL_next r
    have h2 := szT_parts x
    rw [e, szL_append, szL, List.length_cons]
    omega
end Gs
namespace Gs
open PySem PySem.Spec PyProof.Rows L2 TL
theorem once_nil : once [] = [] := rfl
theorem mem_once : ∀ {l : List Str} {z : Str}, z ∈ once l ↔ z ∈ l := by
  intro l
  suffices h : ∀ (l acc : List Str) (z : Str), z ∈ l.foldl (fun acc z => if z ∈ acc then acc else acc ++ [z]) acc ↔ z ∈ acc ∨ z ∈ l by
    intro z
    have := h l [] z
    simpa [once] using this
  clear l
  intro l
  induction l with
  | nil => intro acc z; simp
  | cons x r ih =>
    intro acc z
    rw [List.foldl_cons, ih]
    by_cases hx : x ∈ acc
    · rw [if_pos hx, List.mem_cons]
      constructor
      · rintro (h | h)
        · exact .inl h
        · exact .inr (.inr h)
      · rintro (h | rfl | h)
        · exact .inl h
        · exact .inl hx
        · exact .inr h
    · rw [if_neg hx, List.mem_append, List.mem_singleton, List.mem_cons]
      constructor
      · rintro ((h | h) | h)
        · exact .inl h
        · exact .inr (.inl h)
        · exact .inr (.inr h)
      · rintro (h | h | h)
        · exact .inl (.inl h)
        · exact .inl (.inr h)
        · exact .inr h
theorem foldl_filter : ∀ (r acc : List Str), r.foldl (fun acc z => if z ∈ acc then acc else acc ++ [z]) acc = acc ++ ((once r).filter fun z => !decide (z ∈ acc)) := by
  intro r
  suffices h : ∀ (r acc p : List Str), r.foldl (fun acc z => if z ∈ acc then acc else acc ++ [z]) (acc ++ (p.filter fun z => !decide (z ∈ acc))) = acc ++ ((r.foldl (fun acc z => if z ∈ acc then acc else acc ++ [z]) p).filter fun z => !decide (z ∈ acc)) by
    intro acc
    have := h r acc []
    simpa [once] using this
  clear r
  intro r
  induction r with
  | nil => intro acc p; rfl
  | cons x r ih =>
    intro acc p
    rw [List.foldl_cons, List.foldl_cons]
    by_cases hx : x ∈ p
    · have h1 : x ∈ acc ++ (p.filter fun z => !decide (z ∈ acc)) := by
        by_cases ha : x ∈ acc
        · exact List.mem_append_left _ ha
        · refine List.mem_append_right _ (List.mem_filter.mpr ⟨hx, ?_⟩)
          rw [decide_eq_false ha]
          rfl
      rw [if_pos h1, if_pos hx]
      exact ih acc p
    · rw [if_neg hx]
      by_cases ha : x ∈ acc
      · rw [if_pos (List.mem_append_left _ ha), ← ih acc (p ++ [x]), List.filter_append]
        have : [x].filter (fun z => !decide (z ∈ acc)) = [] := by simp [ha]
        rw [this, List.append_nil]
      · have h1 : ¬ x ∈ acc ++ (p.filter fun z => !decide (z ∈ acc)) := by
          intro h
          rcases List.mem_append.mp h with h | h
          · exact ha h
          · exact hx (List.mem_filter.mp h).1
        rw [if_neg h1, ← ih acc (p ++ [x]), List.filter_append]
        have : [x].filter (fun z => !decide (z ∈ acc)) = [x] := by simp [ha]
        rw [this, List.append_assoc]
/-- the unknowns of a pattern and of others behind it -/
theorem once_append (a b : List Str) : once (a ++ b) = once a ++ ((once b).filter fun z => !decide (z ∈ once a)) := by
  show (a ++ b).foldl _ [] = _
  rw [List.foldl_append]
  exact foldl_filter b (once a)
end Gs
namespace Gs
open PySem PySem.Spec PyProof.Rows L2 TL
theorem once_le (l : List Str) : (once l).length ≤ l.length := by
  have := once_len l []
  simpa [once] using this
theorem flat_strs (l : List Str) : (l.map V.str).all flatV = true := by
  rw [List.all_eq_true]
  intro v hv
  obtain ⟨z, _, rfl⟩ := List.mem_map.mp hv
  rfl
theorem szL_take_le (ps : List Pt) (i : Nat) : szL (ps.take i) ≤ szL ps := by
  have e := szL_append (ps.take i) (ps.drop i)
  rw [List.take_append_drop] at e
  omega
theorem filter_more {l : List Str} {i : Nat} {z : Str} {f : Str → Bool} (h : l[i]? = some z) : (l.take (i + 1)).filter f = (l.take i).filter f ++ (if f z = true then [z] else []) := by
  rw [take_more h, List.filter_append]
  congr 1
  cases e : f z with
  | true => simp [e]
  | false => simp [e]
theorem szL_sum : ∀ ps : List Pt, ((ps.map fun p => (szT p : Int)).sum : Int) = (szL ps : Int)
  | [] => rfl
  | x :: r => by
    rw [List.map_cons, List.sum_cons, szL_sum r, szL]
    omega
end Gs

namespace Gs
open PySem PySem.Spec PyProof.Rows L2
/-! ### a tuple cut out of another one, told exactly; a list made longer by it -/
def txO (p : Addr) (zs : List V) : HO := .ext fun h => ∃ (its : List Value) (n : Nat), h.get? p = some { cls := Value.type "tuple", data := Data.seq its.toArray n } ∧ Vals zs its
def rSlTX (K : PySem.W.Frag) : V → Option Int → Option Int → Hp → VK → Prop := fun x lo hi H Q => ∃ a xs, x = .ref a ∧ SqT K H a xs ∧ ¬(HT.sIx xs.length 0 lo = 0 ∧ HT.sIx xs.length xs.length hi = xs.length) ∧ ∀ p, H p = none → Q (.ref p) (upd H p (txO p (cutV xs lo hi)))
def rExtX : V → List V → Hp → VK → Prop := fun x vs H Q => ∃ l b xs zs, x = .ref l ∧ vs = [.ref b] ∧ H l = some (.lst xs) ∧ H b = some (txO b zs) ∧ xs.length + zs.length ≤ sizeLine ∧ Q .non (upd H l (.lst (xs ++ zs)))
section
variable {X : Cx} {K : PySem.W.Frag}
theorem sl_tupX (h : X.K = K := by rfl) : SlR X (rSlTX K) := by
  subst h
  intro pins s σ H x v vl vu lo hi sl Q I rx isl hl hu h
  obtain ⟨a, xs, rfl, hS, hw, q⟩ := h
  obtain ⟨its, hv, ht, hz⟩ := I.tuple hS
  obtain rfl := rx
  have lv : xs.length = its.length := hv.length
  have sz' : its.toArray.size = xs.length := by rw [List.size_toArray, lv]
  refine ⟨"tuple", _, slot_tuple_getitem.lookup, ht.typeIs, ?_⟩
  refine HT.getItem_tuple_cut ht isl hl hu (by rw [sz']; exact hw) ?_ (by rw [sz']; exact hz)
  refine ⟨.ref s.heap.objs.size, _, I.laid (fun b u hb => Heap.get?_push_of_some _ hb) (Nat.le_refl _) ?_, rfl, q _ (I.hok.fresh (Nat.le_refl _))⟩
  simp only [ObjOk, txO]
  refine ⟨⟨_, _, Heap.get?_push_size _ rfl, ?_⟩, ⟨_, Heap.get?_push_size _ rfl⟩, ?_⟩
  · unfold cutV
    rw [sz']
    exact (hv.drop _).take _
  · rintro h1 h2 ⟨i, n, e, z⟩ k
    exact ⟨i, n, k _ e, z⟩
theorem mt_extX : MtM X "list.extend" rExtX := by
  intro pins s σ H x xs v us Q I rx hv h
  obtain ⟨l, b, xs, zs, rfl, rfl, hl, hb, hz, q⟩ := h
  obtain rfl := rx
  obtain ⟨u, rfl, ru⟩ := hv.one
  obtain rfl := ru
  obtain ⟨hx, its, n, hvs, le, hget⟩ := I.lstM hl
  have ob := I.hok _ _ hb
  simp only [ObjOk, txO] at ob
  obtain ⟨⟨its2, n2, hget2, hv2⟩, _⟩ := ob
  have le2 : zs.length = its2.length := hv2.length
  have s1 : its.toArray.size + its2.toArray.size ≤ sizeLine := by
    rw [List.size_toArray, List.size_toArray]
    omega
  refine call_meets PySem.F.slot_list_extend ?_ PySem.F.entry_list_extend (PySem.F.args_list_extend_2 _ _) (PySem.AutoSeq1.list_extend_list_tuple_0 l its.toArray n b its2.toArray n2 ?_ ?_ ?_) ?_
  · exact ⟨_, hget, rfl⟩
  · exact extend_door s1 |> fun z => z
  · rw [List.size_toArray]
    omega
  · omega
  · exact ⟨hget, hget2, .non, _, I.lset hl hget (by simp) (hvs.append hv2) (by rw [List.length_append]; omega), rfl, q⟩
end
end Gs
namespace Gs
open PySem PySem.Spec PyProof.Rows L2
/-! ### x[:0:-1] of a tuple -/
theorem adjust_back {n : Nat} (hn : 1 ≤ n) : Builtin.Slice.sliceAdjust none (some 0) (-1) (n : Int) = ((n : Int) - 1, 0) := by
  unfold Builtin.Slice.sliceAdjust
  simp only [show ((-1 : Int) < 0) = True from by decide, show ((0 : Int) < 0) = False from by decide, if_true, if_false]
  congr 1
  omega
theorem places_back {n : Nat} (hn : 1 ≤ n) : Builtin.Slice.slicePlaces ((n : Int) - 1) 0 (-1) = n - 1 := by
  unfold Builtin.Slice.slicePlaces
  simp only [show ((-1 : Int) > 0) = False from by decide, if_false]
  by_cases h : (n : Int) - 1 > 0
  · rw [if_pos h, show -(-1 : Int) = 1 from rfl, Int.ediv_one]
    omega
  · rw [if_neg h]
    omega
theorem sliceApplied_back {prog : Program} {w : World} {A : Around} {E : Value → Shared → Prop} {s : Shared} {sl : Addr} {u1 u2 : Tok} {n : Nat} {Q : Int × Int × Nat → Shared → Prop}
    (isl : s.heap.IsSliceOf sl .none (.int 0 u1) (.int (-1) u2)) (hn : 1 ≤ n) (q : Q ((n : Int) - 1, -1, n - 1) s) :
    wpAny (model prog w) A (Builtin.Slice.sliceApplied (Value.ref sl) (pure (n : Int))) Q E s := by
  obtain ⟨o, ho, hc, hd⟩ := isl
  unfold Builtin.Slice.sliceApplied
  refine wpAny_bind ?_
  unfold Builtin.Slice.sliceFields
  refine wpAny_bind (wpAny_field ho hd rfl (wpAny_bind (wpAny_field ho hd rfl (wpAny_bind (wpAny_field ho hd rfl (wpAny_pure ?_))))))
  show wpAny _ _ (Builtin.Slice.slicePartIndex (.int (-1) u2) >>= _) _ _ _
  refine wpAny_bind (slicePart_int ?_)
  show wpAny _ _ (if ((-1 : Int) == 0) = true then _ else _) _ _ _
  rw [if_neg (by decide)]
  refine wpAny_bind (slicePart_none ?_)
  refine wpAny_bind (slicePart_int ?_)
  refine wpAny_bind (wpAny_pure ?_)
  refine (?_ : wpAny (model prog w) A (match Builtin.Slice.sliceAdjust none (some 0) (-1) (n : Int) with | (lo, hi) => pure (lo, -1, Builtin.Slice.slicePlaces lo hi (-1))) Q E s)
  rw [adjust_back hn]
  show wpAny _ _ (pure ((n : Int) - 1, (-1 : Int), Builtin.Slice.slicePlaces ((n : Int) - 1) 0 (-1))) _ _ _
  rw [places_back hn]
  exact wpAny_pure q
theorem filterMap_take {α : Type} (L : List α) : ∀ n, List.filterMap (fun k => L[k]?) (List.range n) = L.take n
  | 0 => rfl
  | n + 1 => by
    rw [List.range_succ, List.filterMap_append, filterMap_take L n, List.take_succ]
    congr 1
theorem fm_congr {α β : Type} {f g : α → Option β} : ∀ {l : List α}, (∀ x ∈ l, f x = g x) → l.filterMap f = l.filterMap g
  | [], _ => rfl
  | x :: r, h => by
    rw [List.filterMap_cons, List.filterMap_cons, h x (List.mem_cons_self ..), fm_congr (l := r) fun y hy => h y (List.mem_cons_of_mem _ hy)]
theorem pick_back (xs : Array Value) (hn : 1 ≤ xs.size) : (List.filterMap (fun m : Nat => xs[((xs.size : Int) - 1 + (m : Int) * -1).toNat]?) (List.range (xs.size - 1))).toArray = ((xs.toList.drop 1).reverse).toArray := by
  congr 1
  have hl : (xs.toList.drop 1).reverse.length = xs.size - 1 := by
    rw [List.length_reverse, List.length_drop, Array.length_toList]
  have e := filterMap_take (xs.toList.drop 1).reverse (xs.size - 1)
  rw [List.take_of_length_le (by omega)] at e
  rw [← e]
  refine fm_congr fun m hm => ?_
  have hm' := List.mem_range.mp hm
  rw [List.getElem?_reverse (by rw [List.length_drop, Array.length_toList]; omega), List.getElem?_drop, List.length_drop, Array.length_toList, ← Array.getElem?_toList]
  congr 1
  omega
theorem getItem_tuple_back {prog : Program} {w : World} {A : Around} {E : Value → Shared → Prop} {s : Shared} {t sl : Addr} {items : Array Value} {u1 u2 : Tok} {Q : Value → Shared → Prop}
    (ht : IsTup s.heap t items) (isl : s.heap.IsSliceOf sl .none (.int 0 u1) (.int (-1) u2)) (hn : 1 ≤ items.size) (hz : items.size ≤ sizeLine)
    (q : Q (Value.ref s.heap.objs.size) { heap := s.heap.push { cls := Value.type "tuple", data := Data.seq ((items.toList.drop 1).reverse).toArray }, gens := s.gens, drawn := s.drawn, toks := s.toks, os := s.os }) :
    wpAny (model prog w) A (getItem (Value.ref t) (Value.ref sl)) Q E s := by
  have isl' := isl
  obtain ⟨o, ho, hc, hd⟩ := isl'
  refine wpAny_holding ?_
  refine wpAny_bind (wpAny_sequenceKey ht.typeIs (by decide) ?_)
  refine wpAny_bind (wpAny_callSpecial?_slot ht.typeIs slot_tuple_getitem ?_)
  refine wpAny_call_entry slot_tuple_getitem ht.typeIs entry_tuple_getitem ?_ (args_tuple_getitem _ _)
  show wpAny _ _ (Builtin.Tuple.tupleItemsOf (.ref t) >>= _) _ _ _
  refine wpAny_bind (tupleItemsOf_ ht ?_)
  refine wpAny_bind (wpAny_typeOf (T := "slice") ⟨o, ho, hc⟩ ?_)
  rw [if_pos (by decide)]
  refine wpAny_bind (sliceApplied_back isl hn ?_)
  show wpAny _ _ (if (((items.size : Int) - 1 == 0 && (-1 : Int) == 1 && items.size - 1 == items.size) = true) then _ else _) _ _ _
  rw [if_neg (by simp)]
  show wpAny _ _ (Builtin.Tuple.tupleExact _ >>= _) _ _ _
  refine wpAny_bind ?_
  unfold Builtin.Tuple.tupleExact
  rw [pick_back items hn]
  refine wpAny_newObj_type ?_ ?_
  · exact wpAny_pure ⟨_, rfl, wpAny_pure q⟩
  · show ((items.toList.drop 1).reverse.toArray).size ≤ sizeLine
    rw [List.size_toArray, List.length_reverse, List.length_drop, Array.length_toList]
    omega
/-- a tuple's parts behind its first, turned round -/
def tBackX (K : PySem.W.Frag) (te : TE) : TE := fun σ H Q => te σ H fun x H1 => ∃ a z zs, x = .ref a ∧ SqT K H1 a (z :: zs) ∧ ∀ p, H1 p = none → Q (.ref p) (upd H1 p (txO p zs.reverse))
section
variable {X : Cx} {K : PySem.W.Frag} {e : PySem.Expr} {te : TE} {k1 k2 : Option Str} {p1 p2 p3 p4 pos : Pos}
theorem pe_backX {j1 j2 : Nat} (he : PE X e te) :
    PE X (.Subscript e (.Slice none (some (.Constant (.int 0) j1 p1)) (some (.UnaryOp .USub (.Constant (.int 1) j2 p2) p3)) p4) pos) (tBackX X.K te) := by
  refine ⟨fun pins s σ H Q I h => ?_⟩
  refine Subscript_ ?_
  refine thn (he.run pins s σ H _ I h) fun o s1 hh => ?_
  obtain ⟨x, H1, I1, rx, a, z, zs, rfl, hS, q⟩ := hh
  obtain rfl := rx
  refine wpAny_Slice ?_
  refine thn ((po_none (X := X)).run pins s1 σ H1 (fun o G => o = none ∧ G = H1) I1 ⟨rfl, rfl⟩) ?_
  rintro u s2 ⟨o, G, I2, ip, rfl, rfl⟩
  refine thn ((po_some (X := X) (pe_int (i := 0) (j := j1) (pos := p1))).run pins s2 σ G (fun o G' => o = some 0 ∧ G' = G) I2 ⟨0, rfl, rfl, rfl⟩) ?_
  rintro u2 s3 ⟨o, G, I3, ip2, rfl, rfl⟩
  refine thn ((po_some (X := X) (pe_un un_neg (pe_int (i := 1) (j := j2) (pos := p2)))).run pins s3 σ G (fun o G' => o = some (-1) ∧ G' = G) I3 ⟨1, rfl, -1, rfl, rfl, rfl⟩) ?_
  rintro u3 s4 ⟨o, G, I4, ip3, rfl, rfl⟩
  cases ip
  cases ip2 with
  | int _ t2 =>
  cases ip3 with
  | int _ t3 =>
  have I5 : L2.Inv X pins σ G { heap := s4.heap.push { cls := Value.type "slice", data := Data.fields #[Value.none, Value.int 0 t2, Value.int (-1) t3] }, gens := s4.gens, drawn := s4.drawn, toks := s4.toks, os := s4.os } := I4.kept fun b u hb => Heap.get?_push_of_some _ hb
  obtain ⟨its, hv, ht, hz⟩ := I5.tuple hS
  have lv : (z :: zs).length = its.length := hv.length
  have sz' : its.toArray.size = (z :: zs).length := by rw [List.size_toArray, lv]
  refine tail_any ht.typeIs slot_tuple_getitem.lookup (getItem_tuple_back ht (Heap.IsSliceOf.new _ _ _ _) (by rw [sz', List.length_cons]; omega) (by rw [sz']; exact hz) ?_) rfl
  refine ⟨.ref _, _, I5.laid (fun b u hb => Heap.get?_push_of_some _ hb) (Nat.le_refl _) ?_, rfl, q _ (I5.hok.fresh (Nat.le_refl _))⟩
  simp only [ObjOk, txO]
  refine ⟨⟨_, _, Heap.get?_push_size _ rfl, ?_⟩, ⟨_, Heap.get?_push_size _ rfl⟩, ?_⟩
  · exact (hv.drop 1).reverse
  · rintro h1 h2 ⟨i, n, e, z⟩ k
    exact ⟨i, n, k _ e, z⟩
end
end Gs
namespace Gs
open PySem PySem.Spec PyProof.Rows L2
section
variable {X : Cx} {K : PySem.W.Frag} {a : PySem.Expr} {ta : TE}
theorem pt_truthK (ha : PE X a ta) (he : ∀ whole, isTrue a X.env whole = (do let v ← whole; standAt a.pos; holding [v] (truthy v))) (h : X.K = K := by rfl) : PT X a (fun σ H Q => ta σ H fun x H' => ∃ k, TruV K x H' k ∧ Q k H') := h ▸ pt_truth ha he
end
end Gs
namespace Gs
open PySem PySem.Spec PyProof.Rows L2
theorem cut_tail (x : V) (vs : List V) : cutV (x :: vs) (some 1) none = vs := by
  unfold cutV
  rw [show (1 : Int) = ((1 : Nat) : Int) from rfl, HT.sIx_none, HT.sIx_nat, List.length_cons]
  rw [Nat.min_eq_left (by omega)]
  rw [List.drop_succ_cons, List.drop_zero, List.take_of_length_le (by omega)]
theorem cut_tail_ne (x : V) (vs : List V) : ¬(HT.sIx (x :: vs).length 0 (some 1) = 0 ∧ HT.sIx (x :: vs).length (x :: vs).length none = (x :: vs).length) := by
  rintro ⟨h, _⟩
  rw [show (1 : Int) = ((1 : Nat) : Int) from rfl, HT.sIx_nat, List.length_cons] at h
  rw [Nat.min_eq_left (by omega)] at h
  omega
end Gs
namespace Gs
open PySem PySem.Spec PyProof.Rows L2
section
variable {K : PySem.W.Frag} {σ : L2.St} {H : Hp} {wi wi1 : TI} {g g1 : TG} {tt tt1 : TT} {te : TE} {vs vs1 : List Nat} {Q : VK}
theorem pi_tupK {X : Cx} {tg l : PySem.Expr} {tl : TE} (hl : PE X l tl) (h : X.K = K := by rfl) : PI X tg l (iTup K tl) := h ▸ pi_tup hl
theorem pi_listK {X : Cx} {tg l : PySem.Expr} {tl : TE} (hl : PE X l tl) (h : X.K = K := by rfl) : PI X tg l (iList K tl) := h ▸ pi_list hl
/-- what stands for an element behind the tests: it is put behind the list at D -/
def putsD (D : Addr) (te : TE) (N : Hp → Prop) (σ : L2.St) (H : Hp) : Prop := te σ H fun y H7 => ∃ acc, H7 D = some (.lst acc) ∧ acc.length < sizeLine ∧ N (upd H7 D (.lst (acc ++ [y])))
/-- the inner loop, over a tuple -/
theorem in_tup {D a : Addr} {ys : List V} {N : Hp → Prop} {σ2 : L2.St} {H4 : Hp} (Pv : Nat → Hp → Prop) (hS : SqT K H4 a ys) (h0 : Pv 0 H4) (hl : ∀ j H, j ≤ ys.length → Pv j H → SqT K H a ys)
    (hs : ∀ j x H, ys[j]? = some x → Pv j H → g1 x (wipe σ2 vs1) H fun σ3 H5 => wipe σ3 vs1 = wipe σ2 vs1 ∧ tt1 σ3 H5 fun b H6 => if b = true then putsD D te (Pv (j + 1)) σ3 H6 else Pv (j + 1) H6) (hd : ∀ H, Pv ys.length H → N H) :
    ∃ b, V.ref a = .ref b ∧ (∃ xs, SqT K H4 b xs) ∧ ∃ W1 : Nat → Nat → Hp → Prop, (∃ m, W1 0 m H4) ∧ ∀ j k H, W1 j k H → ((Itt K b).stop j H ∧ N H) ∨ ((Itt K b).go j H ∧ ∃ Nx1 : Hp → Prop, (∀ H', Nx1 H' → ∃ k', k' < k ∧ W1 (j + 1) k' H') ∧
      ∀ x H', (Itt K b).yld j H x H' → g1 x (wipe σ2 vs1) H' fun σ3 H5 => wipe σ3 vs1 = wipe σ2 vs1 ∧ tt1 σ3 H5 fun b H6 => if b = true then te σ3 H6 fun y H7 => ∃ acc, H7 D = some (.lst acc) ∧ acc.length < sizeLine ∧ Nx1 (upd H7 D (.lst (acc ++ [y]))) else Nx1 H6) := by
  refine ⟨a, rfl, ⟨ys, hS⟩, fun j k H => j + k = ys.length ∧ Pv j H, ⟨ys.length, Nat.zero_add _, h0⟩, ?_⟩
  rintro j k H ⟨hk, p⟩
  have hL := hl j H (by omega) p
  by_cases c : j < ys.length
  · refine .inr ⟨?_, Pv (j + 1), fun H' p' => ⟨k - 1, by omega, by omega, p'⟩, ?_⟩
    · exact ⟨ys, _, hL, List.getElem?_eq_getElem c⟩
    · intro x H' hy
      obtain ⟨rfl, hy⟩ := hy
      exact hs j x _ (hy ys hL) p
  · have e : j = ys.length := by omega
    subst e
    exact .inl ⟨⟨ys, hL, Nat.le_refl _⟩, hd H p⟩
theorem x_lc2 (q : wi σ H fun J H1 => ∀ D, H1 D = none → ∃ W : Nat → Nat → Hp → Prop, (∃ m, W 0 m (upd H1 D (.lst []))) ∧ ∀ i m H, W i m H → (J.stop i H ∧ Q (.ref D) H) ∨ (J.go i H ∧ ∃ Nx : Hp → Prop, (∀ H', Nx H' → ∃ m', m' < m ∧ W (i + 1) m' H') ∧
    ∀ x H', J.yld i H x H' → g x (wipe σ vs) H' fun σ2 H2 => wipe σ2 vs = wipe σ vs ∧ tt σ2 H2 fun b H3 => if b = true then wi1 σ2 H3 fun J1 H4 => ∃ W1 : Nat → Nat → Hp → Prop, (∃ m, W1 0 m H4) ∧ ∀ j k H, W1 j k H → (J1.stop j H ∧ Nx H) ∨ (J1.go j H ∧ ∃ Nx1 : Hp → Prop, (∀ H', Nx1 H' → ∃ k', k' < k ∧ W1 (j + 1) k' H') ∧
      ∀ x H', J1.yld j H x H' → g1 x (wipe σ2 vs1) H' fun σ3 H5 => wipe σ3 vs1 = wipe σ2 vs1 ∧ tt1 σ3 H5 fun b H6 => if b = true then te σ3 H6 fun y H7 => ∃ acc, H7 D = some (.lst acc) ∧ acc.length < sizeLine ∧ Nx1 (upd H7 D (.lst (acc ++ [y]))) else Nx1 H6) else Nx H3)) : tLc2 wi g tt wi1 g1 tt1 te vs vs1 σ H Q := q
/-- the outer loop, over a list -/
theorem x_lc2L {a : Addr} {xs : List V} {Qd : Addr → Hp → Prop} (Pv : Addr → Nat → Hp → Prop) (hS : SqL K H a xs) (h0 : ∀ D, H D = none → Pv D 0 (upd H D (.lst []))) (hl : ∀ D, H D = none → ∀ i H', i ≤ xs.length → Pv D i H' → SqL K H' a xs)
    (hs : ∀ D, H D = none → ∀ i x H', xs[i]? = some x → Pv D i H' → g x (wipe σ vs) H' fun σ2 H2 => wipe σ2 vs = wipe σ vs ∧ tt σ2 H2 fun b H3 => if b = true then wi1 σ2 H3 fun J1 H4 => ∃ W1 : Nat → Nat → Hp → Prop, (∃ m, W1 0 m H4) ∧ ∀ j k H, W1 j k H → (J1.stop j H ∧ Pv D (i + 1) H) ∨ (J1.go j H ∧ ∃ Nx1 : Hp → Prop, (∀ H', Nx1 H' → ∃ k', k' < k ∧ W1 (j + 1) k' H') ∧
      ∀ x H', J1.yld j H x H' → g1 x (wipe σ2 vs1) H' fun σ3 H5 => wipe σ3 vs1 = wipe σ2 vs1 ∧ tt1 σ3 H5 fun b H6 => if b = true then te σ3 H6 fun y H7 => ∃ acc, H7 D = some (.lst acc) ∧ acc.length < sizeLine ∧ Nx1 (upd H7 D (.lst (acc ++ [y]))) else Nx1 H6) else Pv D (i + 1) H3)
    (hd : ∀ D, H D = none → ∀ H', Pv D xs.length H' → Qd D H') :
    ∃ b, V.ref a = .ref b ∧ (∃ xs, SqL K H b xs) ∧ ∀ D, H D = none → ∃ W : Nat → Nat → Hp → Prop, (∃ m, W 0 m (upd H D (.lst []))) ∧ ∀ i m H, W i m H → ((Itl K b).stop i H ∧ Qd D H) ∨ ((Itl K b).go i H ∧ ∃ Nx : Hp → Prop, (∀ H', Nx H' → ∃ m', m' < m ∧ W (i + 1) m' H') ∧
      ∀ x H', (Itl K b).yld i H x H' → g x (wipe σ vs) H' fun σ2 H2 => wipe σ2 vs = wipe σ vs ∧ tt σ2 H2 fun b H3 => if b = true then wi1 σ2 H3 fun J1 H4 => ∃ W1 : Nat → Nat → Hp → Prop, (∃ m, W1 0 m H4) ∧ ∀ j k H, W1 j k H → (J1.stop j H ∧ Nx H) ∨ (J1.go j H ∧ ∃ Nx1 : Hp → Prop, (∀ H', Nx1 H' → ∃ k', k' < k ∧ W1 (j + 1) k' H') ∧
        ∀ x H', J1.yld j H x H' → g1 x (wipe σ2 vs1) H' fun σ3 H5 => wipe σ3 vs1 = wipe σ2 vs1 ∧ tt1 σ3 H5 fun b H6 => if b = true then te σ3 H6 fun y H7 => ∃ acc, H7 D = some (.lst acc) ∧ acc.length < sizeLine ∧ Nx1 (upd H7 D (.lst (acc ++ [y]))) else Nx1 H6) else Nx H3) := by
  refine ⟨a, rfl, ⟨xs, hS⟩, fun D hD => ⟨fun i m H' => i + m = xs.length ∧ Pv D i H', ⟨xs.length, Nat.zero_add _, h0 D hD⟩, ?_⟩⟩
  rintro i m H' ⟨hm, p⟩
  have hL := hl D hD i H' (by omega) p
  by_cases c : i < xs.length
  · refine .inr ⟨⟨xs, _, hL, List.getElem?_eq_getElem c⟩, Pv D (i + 1), fun H' p' => ⟨m - 1, by omega, by omega, p'⟩, ?_⟩
    intro x H2 hy
    obtain ⟨rfl, hy⟩ := hy
    exact hs D hD i x _ (hy xs hL) p
  · have e : i = xs.length := by omega
    subst e
    exact .inl ⟨⟨xs, hL, Nat.le_refl _⟩, hd D hD H' p⟩
end
end Gs
namespace Gs
open PySem PySem.Spec PyProof.Rows L2
section
variable {K : PySem.W.Frag} {σ : L2.St} {H : Hp} {g : TG} {tt : TT} {te : TE} {vs : List Nat}
theorem x_lcT {Qd : Addr → Hp → Prop} {a : Addr} {xs : List V} (Pv : Addr → Nat → Hp → Prop) (hS : SqT K H a xs) (h0 : ∀ D, H D = none → Pv D 0 (upd H D (.lst []))) (hl : ∀ D, H D = none → ∀ i H', i ≤ xs.length → Pv D i H' → SqT K H' a xs)
    (hs : ∀ D, H D = none → ∀ i x H', xs[i]? = some x → Pv D i H' → g x (wipe σ vs) H' fun σ2 H2 => wipe σ2 vs = wipe σ vs ∧ tt σ2 H2 fun b H3 =>
      if b = true then te σ2 H3 fun y H4 => ∃ acc, H4 D = some (.lst acc) ∧ acc.length < sizeLine ∧ Pv D (i + 1) (upd H4 D (.lst (acc ++ [y]))) else Pv D (i + 1) H3) (hd : ∀ D, H D = none → ∀ H', Pv D xs.length H' → Qd D H') :
    ∃ b, V.ref a = .ref b ∧ (∃ xs, SqT K H b xs) ∧ ∀ D, H D = none → ∃ W : Nat → Nat → Hp → Prop, (∃ m, W 0 m (upd H D (.lst []))) ∧ ∀ i m H, W i m H →
      ((Itt K b).stop i H ∧ Qd D H) ∨ ((Itt K b).go i H ∧ ∃ Nx : Hp → Prop, (∀ H', Nx H' → ∃ m', m' < m ∧ W (i + 1) m' H') ∧ ∀ x H', (Itt K b).yld i H x H' → g x (wipe σ vs) H' fun σ2 H2 => wipe σ2 vs = wipe σ vs ∧ tt σ2 H2 fun b H3 =>
        if b = true then te σ2 H3 fun y H4 => ∃ acc, H4 D = some (.lst acc) ∧ acc.length < sizeLine ∧ Nx (upd H4 D (.lst (acc ++ [y]))) else Nx H3) := by
  refine ⟨a, rfl, ⟨xs, hS⟩, fun D hD => ⟨fun i m H' => i + m = xs.length ∧ Pv D i H', ⟨xs.length, Nat.zero_add _, h0 D hD⟩, ?_⟩⟩
  rintro i m H' ⟨hm, p⟩
  have hL := hl D hD i H' (by omega) p
  by_cases c : i < xs.length
  · refine .inr ⟨⟨xs, _, hL, List.getElem?_eq_getElem c⟩, Pv D (i + 1), fun H' p' => ⟨m - 1, by omega, by omega, p'⟩, ?_⟩
    intro x H2 hy
    obtain ⟨rfl, hy⟩ := hy
    exact hs D hD i x _ (hy xs hL) p
  · have e : i = xs.length := by omega
    subst e
    exact .inl ⟨⟨xs, hL, Nat.le_refl _⟩, hd D hD H' p⟩
end
end Gs

namespace Gs
open PySem PySem.Spec PyProof.Rows L2
/-! ### own rules for sums: t[::-1], // by any divisor, min, max, sorted, abs -/
section
variable {K : PySem.W.Frag} {σ : L2.St} {H : Hp} {wi wi1 : TI} {g g1 : TG} {tt tt1 : TT} {te : TE} {vs vs1 : List Nat} {Q : VK}
/-- the outer loop, over a tuple -/
theorem x_lc2T {a : Addr} {xs : List V} {Qd : Addr → Hp → Prop} (Pv : Addr → Nat → Hp → Prop) (hS : SqT K H a xs) (h0 : ∀ D, H D = none → Pv D 0 (upd H D (.lst []))) (hl : ∀ D, H D = none → ∀ i H', i ≤ xs.length → Pv D i H' → SqT K H' a xs)
    (hs : ∀ D, H D = none → ∀ i x H', xs[i]? = some x → Pv D i H' → g x (wipe σ vs) H' fun σ2 H2 => wipe σ2 vs = wipe σ vs ∧ tt σ2 H2 fun b H3 => if b = true then wi1 σ2 H3 fun J1 H4 => ∃ W1 : Nat → Nat → Hp → Prop, (∃ m, W1 0 m H4) ∧ ∀ j k H, W1 j k H → (J1.stop j H ∧ Pv D (i + 1) H) ∨ (J1.go j H ∧ ∃ Nx1 : Hp → Prop, (∀ H', Nx1 H' → ∃ k', k' < k ∧ W1 (j + 1) k' H') ∧
      ∀ x H', J1.yld j H x H' → g1 x (wipe σ2 vs1) H' fun σ3 H5 => wipe σ3 vs1 = wipe σ2 vs1 ∧ tt1 σ3 H5 fun b H6 => if b = true then te σ3 H6 fun y H7 => ∃ acc, H7 D = some (.lst acc) ∧ acc.length < sizeLine ∧ Nx1 (upd H7 D (.lst (acc ++ [y]))) else Nx1 H6) else Pv D (i + 1) H3)
    (hd : ∀ D, H D = none → ∀ H', Pv D xs.length H' → Qd D H') :
    ∃ b, V.ref a = .ref b ∧ (∃ xs, SqT K H b xs) ∧ ∀ D, H D = none → ∃ W : Nat → Nat → Hp → Prop, (∃ m, W 0 m (upd H D (.lst []))) ∧ ∀ i m H, W i m H → ((Itt K b).stop i H ∧ Qd D H) ∨ ((Itt K b).go i H ∧ ∃ Nx : Hp → Prop, (∀ H', Nx H' → ∃ m', m' < m ∧ W (i + 1) m' H') ∧
      ∀ x H', (Itt K b).yld i H x H' → g x (wipe σ vs) H' fun σ2 H2 => wipe σ2 vs = wipe σ vs ∧ tt σ2 H2 fun b H3 => if b = true then wi1 σ2 H3 fun J1 H4 => ∃ W1 : Nat → Nat → Hp → Prop, (∃ m, W1 0 m H4) ∧ ∀ j k H, W1 j k H → (J1.stop j H ∧ Nx H) ∨ (J1.go j H ∧ ∃ Nx1 : Hp → Prop, (∀ H', Nx1 H' → ∃ k', k' < k ∧ W1 (j + 1) k' H') ∧
        ∀ x H', J1.yld j H x H' → g1 x (wipe σ2 vs1) H' fun σ3 H5 => wipe σ3 vs1 = wipe σ2 vs1 ∧ tt1 σ3 H5 fun b H6 => if b = true then te σ3 H6 fun y H7 => ∃ acc, H7 D = some (.lst acc) ∧ acc.length < sizeLine ∧ Nx1 (upd H7 D (.lst (acc ++ [y]))) else Nx1 H6) else Nx H3) := by
  refine ⟨a, rfl, ⟨xs, hS⟩, fun D hD => ⟨fun i m H' => i + m = xs.length ∧ Pv D i H', ⟨xs.length, Nat.zero_add _, h0 D hD⟩, ?_⟩⟩
  rintro i m H' ⟨hm, p⟩
  have hL := hl D hD i H' (by omega) p
  by_cases c : i < xs.length
  · refine .inr ⟨⟨xs, _, hL, List.getElem?_eq_getElem c⟩, Pv D (i + 1), fun H' p' => ⟨m - 1, by omega, by omega, p'⟩, ?_⟩
    intro x H2 hy
    obtain ⟨rfl, hy⟩ := hy
    exact hs D hD i x _ (hy xs hL) p
  · have e : i = xs.length := by omega
    subst e
    exact .inl ⟨⟨xs, hL, Nat.le_refl _⟩, hd D hD H' p⟩
end
theorem x_puts {D : Addr} {te : TE} {N : Hp → Prop} {σ : L2.St} {H : Hp} (q : te σ H fun y H7 => ∃ acc, H7 D = some (.lst acc) ∧ acc.length < sizeLine ∧ N (upd H7 D (.lst (acc ++ [y])))) : putsD D te N σ H := q
theorem adjust_all {n : Nat} : Builtin.Slice.sliceAdjust none none (-1) (n : Int) = ((n : Int) - 1, -1) := by
  unfold Builtin.Slice.sliceAdjust
  simp only [show ((-1 : Int) < 0) = True from by decide, if_true]
theorem places_all {n : Nat} : Builtin.Slice.slicePlaces ((n : Int) - 1) (-1) (-1) = n := by
  unfold Builtin.Slice.slicePlaces
  simp only [show ((-1 : Int) > 0) = False from by decide, if_false]
  by_cases h : (n : Int) - 1 > -1
  · rw [if_pos h, show -(-1 : Int) = 1 from rfl, Int.ediv_one]
    omega
  · rw [if_neg h]
    omega
theorem sliceApplied_all {prog : Program} {w : World} {A : Around} {E : Value → Shared → Prop} {s : Shared} {sl : Addr} {u2 : Tok} {n : Nat} {Q : Int × Int × Nat → Shared → Prop}
    (isl : s.heap.IsSliceOf sl .none .none (.int (-1) u2)) (q : Q ((n : Int) - 1, -1, n) s) :
    wpAny (model prog w) A (Builtin.Slice.sliceApplied (Value.ref sl) (pure (n : Int))) Q E s := by
  obtain ⟨o, ho, hc, hd⟩ := isl
  unfold Builtin.Slice.sliceApplied
  refine wpAny_bind ?_
  unfold Builtin.Slice.sliceFields
  refine wpAny_bind (wpAny_field ho hd rfl (wpAny_bind (wpAny_field ho hd rfl (wpAny_bind (wpAny_field ho hd rfl (wpAny_pure ?_))))))
  show wpAny _ _ (Builtin.Slice.slicePartIndex (.int (-1) u2) >>= _) _ _ _
  refine wpAny_bind (slicePart_int ?_)
  show wpAny _ _ (if ((-1 : Int) == 0) = true then _ else _) _ _ _
  rw [if_neg (by decide)]
  refine wpAny_bind (slicePart_none ?_)
  refine wpAny_bind (slicePart_none ?_)
  refine wpAny_bind (wpAny_pure ?_)
  refine (?_ : wpAny (model prog w) A (match Builtin.Slice.sliceAdjust none none (-1) (n : Int) with | (lo, hi) => pure (lo, -1, Builtin.Slice.slicePlaces lo hi (-1))) Q E s)
  rw [adjust_all]
  show wpAny _ _ (pure ((n : Int) - 1, (-1 : Int), Builtin.Slice.slicePlaces ((n : Int) - 1) (-1) (-1))) _ _ _
  rw [places_all]
  exact wpAny_pure q
theorem pick_all (xs : Array Value) : (List.filterMap (fun m : Nat => xs[((xs.size : Int) - 1 + (m : Int) * -1).toNat]?) (List.range xs.size)).toArray = (xs.toList.reverse).toArray := by
  congr 1
  have e := filterMap_take xs.toList.reverse xs.size
  rw [List.take_of_length_le (by rw [List.length_reverse, Array.length_toList]; omega)] at e
  rw [← e]
  refine fm_congr fun m hm => ?_
  have hm' := List.mem_range.mp hm
  rw [List.getElem?_reverse (by rw [Array.length_toList]; omega), Array.length_toList, ← Array.getElem?_toList]
  congr 1
  omega
theorem getItem_tuple_all {prog : Program} {w : World} {A : Around} {E : Value → Shared → Prop} {s : Shared} {t sl : Addr} {items : Array Value} {u2 : Tok} {Q : Value → Shared → Prop}
    (ht : IsTup s.heap t items) (isl : s.heap.IsSliceOf sl .none .none (.int (-1) u2)) (hz : items.size ≤ sizeLine)
    (q : Q (Value.ref s.heap.objs.size) { heap := s.heap.push { cls := Value.type "tuple", data := Data.seq (items.toList.reverse).toArray }, gens := s.gens, drawn := s.drawn, toks := s.toks, os := s.os }) :
    wpAny (model prog w) A (getItem (Value.ref t) (Value.ref sl)) Q E s := by
  have isl' := isl
  obtain ⟨o, ho, hc, hd⟩ := isl'
  refine wpAny_holding ?_
  refine wpAny_bind (wpAny_sequenceKey ht.typeIs (by decide) ?_)
  refine wpAny_bind (wpAny_callSpecial?_slot ht.typeIs slot_tuple_getitem ?_)
  refine wpAny_call_entry slot_tuple_getitem ht.typeIs entry_tuple_getitem ?_ (args_tuple_getitem _ _)
  show wpAny _ _ (Builtin.Tuple.tupleItemsOf (.ref t) >>= _) _ _ _
  refine wpAny_bind (tupleItemsOf_ ht ?_)
  refine wpAny_bind (wpAny_typeOf (T := "slice") ⟨o, ho, hc⟩ ?_)
  rw [if_pos (by decide)]
  refine wpAny_bind (sliceApplied_all isl ?_)
  show wpAny _ _ (if (((items.size : Int) - 1 == 0 && (-1 : Int) == 1 && items.size == items.size) = true) then _ else _) _ _ _
  rw [if_neg (by simp)]
  show wpAny _ _ (Builtin.Tuple.tupleExact _ >>= _) _ _ _
  refine wpAny_bind ?_
  unfold Builtin.Tuple.tupleExact
  rw [pick_all items]
  refine wpAny_newObj_type ?_ ?_
  · exact wpAny_pure ⟨_, rfl, wpAny_pure q⟩
  · show (items.toList.reverse.toArray).size ≤ sizeLine
    rw [List.size_toArray, List.length_reverse, Array.length_toList]
    exact hz
def tRevT (K : PySem.W.Frag) (te : TE) : TE := fun σ H Q => te σ H fun x H1 => ∃ a zs, x = .ref a ∧ SqT K H1 a zs ∧ ∀ p, H1 p = none → Q (.ref p) (upd H1 p (.tup zs.reverse))
section
variable {X : Cx} {K : PySem.W.Frag} {e : PySem.Expr} {te : TE} {p2 p3 p4 pos : Pos}
theorem pe_revT {j2 : Nat} (he : PE X e te) :
    PE X (.Subscript e (.Slice none none (some (.UnaryOp .USub (.Constant (.int 1) j2 p2) p3)) p4) pos) (tRevT X.K te) := by
  refine ⟨fun pins s σ H Q I h => ?_⟩
  refine Subscript_ ?_
  refine thn (he.run pins s σ H _ I h) fun o s1 hh => ?_
  obtain ⟨x, H1, I1, rx, a, zs, rfl, hS, q⟩ := hh
  obtain rfl := rx
  refine wpAny_Slice ?_
  refine thn ((po_none (X := X)).run pins s1 σ H1 (fun o G => o = none ∧ G = H1) I1 ⟨rfl, rfl⟩) ?_
  rintro u s2 ⟨o, G, I2, ip, rfl, rfl⟩
  refine thn ((po_none (X := X)).run pins s2 σ G (fun o G' => o = none ∧ G' = G) I2 ⟨rfl, rfl⟩) ?_
  rintro u2 s3 ⟨o, G, I3, ip2, rfl, rfl⟩
  refine thn ((po_some (X := X) (pe_un un_neg (pe_int (i := 1) (j := j2) (pos := p2)))).run pins s3 σ G (fun o G' => o = some (-1) ∧ G' = G) I3 ⟨1, rfl, -1, rfl, rfl, rfl⟩) ?_
  rintro u3 s4 ⟨o, G, I4, ip3, rfl, rfl⟩
  cases ip
  cases ip2
  cases ip3 with
  | int _ t3 =>
  have I5 : L2.Inv X pins σ G { heap := s4.heap.push { cls := Value.type "slice", data := Data.fields #[Value.none, Value.none, Value.int (-1) t3] }, gens := s4.gens, drawn := s4.drawn, toks := s4.toks, os := s4.os } := I4.kept fun b u hb => Heap.get?_push_of_some _ hb
  obtain ⟨its, hv, ht, hz⟩ := I5.tuple hS
  have lv : zs.length = its.length := hv.length
  refine tail_any ht.typeIs slot_tuple_getitem.lookup (getItem_tuple_all ht (Heap.IsSliceOf.new _ _ _ _) (by rw [List.size_toArray, ← lv]; exact hz) ?_) rfl
  refine ⟨.ref _, _, I5.laid (o := .tup zs.reverse) (fun b u hb => Heap.get?_push_of_some _ hb) (Nat.le_refl _) ?_, rfl, q _ (I5.hok.fresh (Nat.le_refl _))⟩
  exact ⟨by rw [List.length_reverse]; exact hz, its.reverse, hv.reverse, .new _ _⟩
end
/-- // by any divisor below 2 ^ 9000 -/
def CDivB (_ j : Int) : Prop := j ≠ 0 ∧ j.natAbs.log2 < 9000
section
variable {X : Cx} {K : PySem.W.Frag}
theorem op_fdivB : OpR X (binaryOp .FloorDiv) (rI CDivB fun i j => .int (i.fdiv j)) := opI fun i j _ _ _ _ _ hc q => floordiv_int hc.1 q (.inl (PyProof.noPylong_of_log2 hc.2))
theorem cr_maxKK (hc : X.calm = true) (h : X.K = K := by rfl) : CallR X (.builtin "max") (rMax K) := h ▸ cr_max hc
theorem cr_minKK (hc : X.calm = true) (h : X.K = K := by rfl) : CallR X (.builtin "min") (rMin K) := h ▸ cr_min hc
theorem cr_sortedKK (h : X.K = K := by rfl) : CallR X (.builtin "sorted") (rSorted K) := h ▸ cr_sorted
end
section
variable {K : PySem.W.Frag} {H : Hp} {Q : VK}
theorem x_max {a : Addr} {ns : List Int} (h : SqL K H a (ns.map V.int)) (h0 : 0 < ns.length) (q : ∀ m, m ∈ ns → (∀ y, y ∈ ns → y ≤ m) → Q (.int m) H) : rMax K [.ref a] H Q := ⟨a, ns, rfl, h, h0, q⟩
theorem x_min {a : Addr} {ns : List Int} (h : SqL K H a (ns.map V.int)) (h0 : 0 < ns.length) (q : ∀ m, m ∈ ns → (∀ y, y ∈ ns → m ≤ y) → Q (.int m) H) : rMin K [.ref a] H Q := ⟨a, ns, rfl, h, h0, q⟩
theorem x_sorted {a : Addr} {ns : List Int} (h : SqL K H a (ns.map V.int)) (h0 : ns.length < 64) (q : ∀ (ns' : List Int) (p : Addr), ns'.Perm ns → ns'.Pairwise (· ≤ ·) → H p = none → Q (.ref p) (upd H p (.lst (ns'.map V.int)))) : rSorted K [.ref a] H Q := ⟨a, ns, rfl, h, h0, q⟩
end
/-- xs[i], xs a list or a tuple -/
def rIxE (K : PySem.W.Frag) : V → V → Hp → VK → Prop := fun x i H Q => rIxL K x i H Q ∨ rIxT K x i H Q
theorem ix_seqK {X : Cx} {K : PySem.W.Frag} (h : X.K = K := by rfl) : IxR X (rIxE K) := by
  subst h
  exact IxR.or ix_list ix_tup
theorem x_ixE {K : PySem.W.Frag} {H : Hp} {Q : VK} {p : Addr} {xs : List V} {a : Int} {v : V} (h : SqL K H p xs ∨ SqT K H p xs) (ha : atI xs a = some v) (q : Q v H) : rIxE K (.ref p) (.int a) H Q := by
  rcases h with h | h
  · exact .inl ⟨p, xs, a, v, rfl, rfl, h, ha, q⟩
  · exact .inr ⟨p, xs, a, v, rfl, rfl, h, ha, q⟩
/-- a op1 b op2 c op3 d -/
def tChain3 (r r' r'' : R2) (ta tb tc td : TE) : TE := fun σ H Q => ta σ H fun x H1 => tb σ H1 fun y H2 => r x y H2 fun z H3 => ∃ k, z = .bl k ∧
  (if k = true then tc σ H3 fun w H4 => r' y w H4 fun z' H5 => ∃ k', z' = .bl k' ∧ (if k' = true then td σ H5 fun u H6 => r'' w u H6 Q else Q (.bl false) H5) else Q (.bl false) H3)
section
variable {X : Cx} {ea eb ec ed : PySem.Expr} {ta tb tc td : TE} {pos : Pos}
theorem pe_chain3 {op op' op'' : CmpOp} {r r' r'' : R2} (ho : OpR X (compareOp op) r) (ho' : OpR X (compareOp op') r') (ho'' : OpR X (compareOp op'') r'') (ha : PE X ea ta) (hb : PE X eb tb) (hc : PE X ec tc) (hd : PE X ed td)
    (hm : lastMarks [op, op', op''] [eb, ec, ed] = false := by with_unfolding_all rfl) : PE X (.Compare ea [op, op', op''] [eb, ec, ed] pos) (tChain3 r r' r'' ta tb tc td) := by
  refine ⟨fun pins s σ H Q I h => ?_⟩
  refine Compare_chain (thn (ha.run pins s σ H _ I h) fun v s1 ⟨x, H1, I1, r1, q1⟩ => chain_link (thn (hb.run pins s1 σ H1 _ I1 q1) fun u s2 ⟨y, H2, I2, r2, q2⟩ =>
    thn (ho pins s2 σ H2 x y v u _ I2 r1 r2 q2) fun d s3 ⟨z, H3, I3, r3, k, e, q3⟩ => ?_)) hm
  subst e
  cases r3
  refine wpAny_truthy_bool ?_
  cases k with
  | false => exact ite_ff ⟨.bl false, H3, I3, rfl, q3⟩
  | true =>
    refine ite_tt (chain_link (thn (hc.run pins s3 σ H3 _ I3 q3) fun w' s4 ⟨z', H4, I4, r4, q4⟩ => thn (ho' pins s4 σ H4 y z' u w' _ I4 r2 r4 q4) fun d' s5 ⟨z5, H5, I5, r5, k', e', q5⟩ => ?_))
    subst e'
    cases r5
    refine wpAny_truthy_bool ?_
    cases k' with
    | false => exact ite_ff ⟨.bl false, H5, I5, rfl, q5⟩
    | true => exact ite_tt (chain_last (thn (hd.run pins s5 σ H5 _ I5 q5) fun w6 s6 ⟨z6, H6, I6, r6, q6⟩ => ho'' pins s6 σ H6 z' z6 w' w6 Q I6 r4 r6 q6))
end
theorem x_chain3 {σ : L2.St} {H : Hp} {Q : VK} {r r' r'' : R2} {ta tb tc td : TE} (q : ta σ H fun x H1 => tb σ H1 fun y H2 => r x y H2 fun z H3 => ∃ k, z = .bl k ∧
  (if k = true then tc σ H3 fun w H4 => r' y w H4 fun z' H5 => ∃ k', z' = .bl k' ∧ (if k' = true then td σ H5 fun u H6 => r'' w u H6 Q else Q (.bl false) H5) else Q (.bl false) H3)) : tChain3 r r' r'' ta tb tc td σ H Q := q
section
variable {X : Cx} {K : PySem.W.Frag} {H : Hp} {Q : VK}
theorem sl_tupAK (h : X.K = K := by rfl) : SlR X (rSlA K) := h ▸ sl_tupA
theorem op_catAK (h : X.K = K := by rfl) : OpR X (binaryOp .Add) (rCatA K) := h ▸ op_catA
theorem x_slA {a : Addr} {xs : List V} {lo hi : Option Int} (hS : SqT K H a xs) (q : ∀ r H', Same H H' → SqT K H' r (cutV xs lo hi) → Q (.ref r) H') : rSlA K (.ref a) lo hi H Q := by
  refine ⟨a, xs, rfl, hS, fun hw => ?_, fun _ p hp => q p _ (same_upd hp) (.of upd_same)⟩
  refine q a H (fun _ _ e => e) ?_
  have e : cutV xs lo hi = xs := by
    unfold cutV
    rw [hw.1, hw.2, List.drop_zero, Nat.sub_zero, List.take_length]
  rw [e]
  exact hS
theorem x_catA {a b : Addr} {xs ys : List V} (h1 : SqT K H a xs) (h2 : SqT K H b ys) (hz : xs.length + ys.length ≤ sizeLine) (q : ∀ r H', Same H H' → SqT K H' r (xs ++ ys) → Q (.ref r) H') : rCatA K (.ref a) (.ref b) H Q := by
  refine ⟨a, b, xs, ys, rfl, rfl, h1, h2, hz, fun e => ?_, fun _ e => ?_, fun _ _ p hp => q p _ (same_upd hp) (.of upd_same)⟩
  · subst e
    exact q b H (fun _ _ e => e) h2
  · subst e
    refine q a H (fun _ _ e => e) ?_
    rw [List.append_nil]
    exact h1
end
def tStarK (K : PySem.W.Frag) (te : TE) (t : TA) : TA := fun σ H Q => te σ H fun x H1 => ∃ p xs, x = V.ref p ∧ (SqT K H1 p xs ∨ SqL K H1 p xs) ∧ t σ H1 fun ys H2 => Q (xs ++ ys) H2
theorem pa_starK {X : Cx} {K : PySem.W.Frag} {e : PySem.Expr} {es : List PySem.Expr} {te : TE} {t : TA} {p : Pos} (he : PE X e te) (hr : PA X es t) (h : X.K = K := by rfl) (hs : starEach (.Starred e p :: es) X.env = (true, eval e X.env) :: starEach es X.env := by rfl) : PA X (.Starred e p :: es) (tStarK K te t) := by
  subst h
  exact StX.pa_star he hr hs
theorem x_star {K : PySem.W.Frag} {te : TE} {t : TA} {σ : L2.St} {H : Hp} {QA : List V → Hp → Prop} (q : te σ H fun x H1 => ∃ p xs, x = V.ref p ∧ (SqT K H1 p xs ∨ SqL K H1 p xs) ∧ t σ H1 fun ys H2 => QA (xs ++ ys) H2) : tStarK K te t σ H QA := q
end Gs

namespace Gs
open PySem PySem.Spec PyProof.Rows L2 TL
/-! ### lists of things at places -/
def AllAt {α : Type} (R : V → α → Prop) (vs : List V) (as : List α) : Prop := vs.length = as.length ∧ ∀ (i : Nat) (v : V) (a : α), vs[i]? = some v → as[i]? = some a → R v a
namespace AllAt
variable {α : Type} {R R' : V → α → Prop} {vs ws : List V} {as bs : List α}
theorem nil : AllAt R [] [] := ⟨rfl, fun i v o h => by cases h⟩
theorem cons {v : V} {a : α} (h : R v a) (r : AllAt R vs as) : AllAt R (v :: vs) (a :: as) := by
  refine ⟨by rw [List.length_cons, List.length_cons, r.1], fun i w b hw hb => ?_⟩
  cases i with
  | zero => cases hw; cases hb; exact h
  | succ i => exact r.2 i w b hw hb
theorem one {v : V} {a : α} (h : R v a) : AllAt R [v] [a] := cons h nil
theorem append (r : AllAt R vs as) (r' : AllAt R ws bs) : AllAt R (vs ++ ws) (as ++ bs) := by
  refine ⟨by rw [List.length_append, List.length_append, r.1, r'.1], fun i w b hw hb => ?_⟩
  by_cases c : i < vs.length
  · rw [List.getElem?_append_left c] at hw
    rw [List.getElem?_append_left (by rw [← r.1]; exact c)] at hb
    exact r.2 i w b hw hb
  · rw [List.getElem?_append_right (by omega)] at hw
    rw [List.getElem?_append_right (by rw [← r.1]; omega), ← r.1] at hb
    exact r'.2 _ w b hw hb
theorem mono (r : AllAt R vs as) (k : ∀ v a, R v a → R' v a) : AllAt R' vs as := ⟨r.1, fun i v a h1 h2 => k v a (r.2 i v a h1 h2)⟩
theorem atv (r : AllAt R vs as) {i : Nat} {v : V} (h : vs[i]? = some v) : ∃ a, as[i]? = some a ∧ R v a := by
  have hi : i < as.length := by
    rw [← r.1]
    exact (List.getElem?_eq_some_iff.mp h).1
  exact ⟨_, List.getElem?_eq_getElem hi, r.2 i v _ h (List.getElem?_eq_getElem hi)⟩
theorem atw (r : AllAt R vs as) {i : Nat} {a : α} (h : as[i]? = some a) : ∃ v, vs[i]? = some v ∧ R v a := by
  have hi : i < vs.length := by
    rw [r.1]
    exact (List.getElem?_eq_some_iff.mp h).1
  exact ⟨_, List.getElem?_eq_getElem hi, r.2 i _ a (List.getElem?_eq_getElem hi) h⟩
theorem take (r : AllAt R vs as) (k : Nat) : AllAt R (vs.take k) (as.take k) := by
  refine ⟨by rw [List.length_take, List.length_take, r.1], fun i v a hv ha => ?_⟩
  rw [List.getElem?_take] at hv ha
  split at hv
  · next c =>
    rw [if_pos c] at ha
    exact r.2 i v a hv ha
  · cases hv
end AllAt
/-! ### sums -/
inductive Su where
  | n (z : Int)
  | pl (j : Nat)
  | op (s : Str) (a b : Su)
def signs5 : List Str := ["+", "-", "*", "//", "mod"]
def Su.dep : Su → Nat
  | .n _ => 0
  | .pl _ => 0
  | .op _ a b => max a.dep b.dep + 1
def Su.wt : Su → Nat
  | .n _ => 200
  | .pl _ => 200
  | .op _ a b => a.wt + b.wt + 1
def Su.Ok (many : Nat) : Su → Prop
  | .n z => z.natAbs < 2 ^ 200
  | .pl j => j < many
  | .op s a b => s ∈ signs5 ∧ a.Ok many ∧ b.Ok many
theorem Su.wt_pos : ∀ t : Su, 200 ≤ t.wt
  | .n _ => Nat.le_refl _
  | .pl _ => Nat.le_refl _
  | .op _ a b => by
    have := a.wt_pos
    rw [Su.wt]
    omega
theorem Su.wt_dep : ∀ t : Su, t.wt + 1 ≤ 201 * 2 ^ t.dep
  | .n _ => Nat.le_refl _
  | .pl _ => Nat.le_refl _
  | .op _ a b => by
    have h1 := a.wt_dep
    have h2 := b.wt_dep
    rw [Su.wt, Su.dep, Nat.pow_succ]
    have m1 : 2 ^ a.dep ≤ 2 ^ max a.dep b.dep := Nat.pow_le_pow_right (by decide) (Nat.le_max_left ..)
    have m2 : 2 ^ b.dep ≤ 2 ^ max a.dep b.dep := Nat.pow_le_pow_right (by decide) (Nat.le_max_right ..)
    omega
def SuAt (K : PySem.W.Frag) (H : Hp) : Su → V → Prop
  | .n z, v => v = .int z
  | .pl j, v => ∃ p, v = .ref p ∧ SqT K H p [.str "at", .int (j : Int)]
  | .op s a b, v => ∃ p x y, v = .ref p ∧ SqT K H p [.str s, x, y] ∧ SuAt K H a x ∧ SuAt K H b y
section
variable {K : PySem.W.Frag} {H H' : Hp}
theorem SuAt.mono (k : ∀ a xs, SqT K H a xs → SqT K H' a xs) : ∀ {t : Su} {v : V}, SuAt K H t v → SuAt K H' t v
  | .n _, _, h => h
  | .pl _, _, ⟨p, e, h⟩ => ⟨p, e, k _ _ h⟩
  | .op _ _ _, _, ⟨p, x, y, e, h, h1, h2⟩ => ⟨p, x, y, e, k _ _ h, SuAt.mono k h1, SuAt.mono k h2⟩
theorem SuAt.same {t : Su} {v : V} (h : SuAt K H t v) (k : Same H H') : SuAt K H' t v := h.mono fun _ _ x => Same.sqT k x
theorem SuAt.kx {p l : Addr} {c : Int} {t : Su} {v : V} (h : SuAt K H t v) (k : Kx p l H H') (P : PoolAt H p l c) : SuAt K H' t v := h.mono fun _ _ x => k.sqT P x
def PairAt (K : PySem.W.Frag) (H : Hp) (v : V) (e : Int × Int) : Prop := ∃ p, v = .ref p ∧ SqT K H p [.int e.1, .int e.2]
def BoxAt (K : PySem.W.Frag) (H : Hp) (b : Addr) (bx : List (Int × Int)) : Prop := ∃ vs, SqT K H b vs ∧ AllAt (PairAt K H) vs bx
theorem PairAt.mono {v : V} {e : Int × Int} (h : PairAt K H v e) (k : ∀ a xs, SqT K H a xs → SqT K H' a xs) : PairAt K H' v e := by
  obtain ⟨p, rfl, h⟩ := h
  exact ⟨p, rfl, k _ _ h⟩
theorem BoxAt.mono {b : Addr} {bx : List (Int × Int)} (h : BoxAt K H b bx) (k : ∀ a xs, SqT K H a xs → SqT K H' a xs) : BoxAt K H' b bx := by
  obtain ⟨vs, h1, h2⟩ := h
  exact ⟨vs, k _ _ h1, h2.mono fun _ _ x => x.mono k⟩
theorem BoxAt.same {b : Addr} {bx : List (Int × Int)} (h : BoxAt K H b bx) (k : Same H H') : BoxAt K H' b bx := h.mono fun _ _ x => Same.sqT k x
theorem BoxAt.kx {p l : Addr} {c : Int} {b : Addr} {bx : List (Int × Int)} (h : BoxAt K H b bx) (k : Kx p l H H') (P : PoolAt H p l c) : BoxAt K H' b bx := h.mono fun _ _ x => k.sqT P x
end
/-! ### the ends of a sum -/
def imx (i j : Int) : Int := if j > i then j else i
def iab (i : Int) : Int := if i < 0 then -i else i
def mn4 (a b c d : Int) : Int := min (min a b) (min c d)
def mx4 (a b c d : Int) : Int := max (max a b) (max c d)
def join (s : Str) (l r : Int × Int) : Int × Int :=
  if s = "+" then (l.1 + r.1, l.2 + r.2) else if s = "-" then (l.1 - r.2, l.2 - r.1)
  else if s = "*" then (mn4 (l.1 * r.1) (l.1 * r.2) (l.2 * r.1) (l.2 * r.2), mx4 (l.1 * r.1) (l.1 * r.2) (l.2 * r.1) (l.2 * r.2))
  else if s = "//" then (-(imx (iab l.1) (iab l.2)), imx (iab l.1) (iab l.2)) else (-(imx (iab r.1) (iab r.2)), imx (iab r.1) (iab r.2))
def ends (bx : List (Int × Int)) : Su → Int × Int
  | .n z => (z, z)
  | .pl j => bx.getD j (0, 0)
  | .op s a b => join s (ends bx a) (ends bx b)
def PairLt (e : Int × Int) (n : Nat) : Prop := e.1.natAbs < 2 ^ n ∧ e.2.natAbs < 2 ^ n
def BxOk (bx : List (Int × Int)) : Prop := ∀ e ∈ bx, PairLt e 200
theorem mn4_is {a b c d m : Int} (h : m ∈ [a, b, c, d]) (k : ∀ y ∈ [a, b, c, d], m ≤ y) : m = mn4 a b c d := by
  simp only [List.mem_cons, List.not_mem_nil, or_false, forall_eq_or_imp, forall_eq] at h k
  unfold mn4
  omega
theorem mx4_is {a b c d m : Int} (h : m ∈ [a, b, c, d]) (k : ∀ y ∈ [a, b, c, d], y ≤ m) : m = mx4 a b c d := by
  simp only [List.mem_cons, List.not_mem_nil, or_false, forall_eq_or_imp, forall_eq] at h k
  unfold mx4
  omega
theorem imx_is {a b m : Int} (h : m ∈ [a, b]) (k : ∀ y ∈ [a, b], y ≤ m) : m = imx a b := by
  simp only [List.mem_cons, List.not_mem_nil, or_false, forall_eq_or_imp, forall_eq] at h k
  unfold imx
  split <;> omega
theorem mn4_P {P : Int → Prop} {a b c d : Int} (h1 : P a) (h2 : P b) (h3 : P c) (h4 : P d) : P (mn4 a b c d) := by
  have : mn4 a b c d = a ∨ mn4 a b c d = b ∨ mn4 a b c d = c ∨ mn4 a b c d = d := by
    unfold mn4
    omega
  rcases this with e | e | e | e <;> rw [e] <;> assumption
theorem mx4_P {P : Int → Prop} {a b c d : Int} (h1 : P a) (h2 : P b) (h3 : P c) (h4 : P d) : P (mx4 a b c d) := by
  have : mx4 a b c d = a ∨ mx4 a b c d = b ∨ mx4 a b c d = c ∨ mx4 a b c d = d := by
    unfold mx4
    omega
  rcases this with e | e | e | e <;> rw [e] <;> assumption
theorem iab_abs (i : Int) : (iab i).natAbs = i.natAbs := by
  unfold iab
  split <;> omega
theorem imx_P {P : Int → Prop} {a b : Int} (h1 : P a) (h2 : P b) : P (imx a b) := by
  unfold imx
  split <;> assumption
theorem add_lt {a b : Int} {m n : Nat} (ha : a.natAbs < 2 ^ m) (hb : b.natAbs < 2 ^ n) : (a + b).natAbs < 2 ^ (m + n + 1) := by
  have h1 : 2 ^ m ≤ 2 ^ (m + n) := Nat.pow_le_pow_right (by decide) (by omega)
  have h2 : 2 ^ n ≤ 2 ^ (m + n) := Nat.pow_le_pow_right (by decide) (by omega)
  rw [Nat.pow_succ]
  omega
theorem sub_lt {a b : Int} {m n : Nat} (ha : a.natAbs < 2 ^ m) (hb : b.natAbs < 2 ^ n) : (a - b).natAbs < 2 ^ (m + n + 1) := by
  have h1 : 2 ^ m ≤ 2 ^ (m + n) := Nat.pow_le_pow_right (by decide) (by omega)
  have h2 : 2 ^ n ≤ 2 ^ (m + n) := Nat.pow_le_pow_right (by decide) (by omega)
  rw [Nat.pow_succ]
  omega
theorem mul_lt {a b : Int} {m n : Nat} (ha : a.natAbs < 2 ^ m) (hb : b.natAbs < 2 ^ n) : (a * b).natAbs < 2 ^ (m + n + 1) :=
  Nat.lt_of_lt_of_le (wide_lt ha hb) (Nat.pow_le_pow_right (by decide) (by omega))
theorem lt_up {a : Int} {m n : Nat} (ha : a.natAbs < 2 ^ m) (h : m ≤ n) : a.natAbs < 2 ^ n := Nat.lt_of_lt_of_le ha (Nat.pow_le_pow_right (by decide) h)
theorem join_lt {s : Str} {l r : Int × Int} {m n : Nat} (hl : PairLt l m) (hr : PairLt r n) : PairLt (join s l r) (m + n + 1) := by
  unfold join
  split
  · exact ⟨add_lt hl.1 hr.1, add_lt hl.2 hr.2⟩
  split
  · exact ⟨sub_lt hl.1 hr.2, sub_lt hl.2 hr.1⟩
  split
  · exact ⟨mn4_P (P := fun x => x.natAbs < 2 ^ (m + n + 1)) (mul_lt hl.1 hr.1) (mul_lt hl.1 hr.2) (mul_lt hl.2 hr.1) (mul_lt hl.2 hr.2), mx4_P (P := fun x => x.natAbs < 2 ^ (m + n + 1)) (mul_lt hl.1 hr.1) (mul_lt hl.1 hr.2) (mul_lt hl.2 hr.1) (mul_lt hl.2 hr.2)⟩
  split
  · have : (imx (iab l.1) (iab l.2)).natAbs < 2 ^ (m + n + 1) := imx_P (P := fun x => x.natAbs < 2 ^ (m + n + 1)) (by rw [iab_abs]; exact lt_up hl.1 (by omega)) (by rw [iab_abs]; exact lt_up hl.2 (by omega))
    exact ⟨by rw [Int.natAbs_neg]; exact this, this⟩
  · have : (imx (iab r.1) (iab r.2)).natAbs < 2 ^ (m + n + 1) := imx_P (P := fun x => x.natAbs < 2 ^ (m + n + 1)) (by rw [iab_abs]; exact lt_up hr.1 (by omega)) (by rw [iab_abs]; exact lt_up hr.2 (by omega))
    exact ⟨by rw [Int.natAbs_neg]; exact this, this⟩
theorem getD_of {α : Type} {xs : List α} {j : Nat} {d : α} (h : j < xs.length) : ∃ e, xs[j]? = some e ∧ e ∈ xs ∧ xs.getD j d = e :=
  ⟨xs[j], List.getElem?_eq_getElem h, List.getElem_mem h, by simp [List.getD, List.getElem?_eq_getElem h]⟩
theorem ends_lt {bx : List (Int × Int)} (hb : BxOk bx) : ∀ {t : Su}, t.Ok bx.length → PairLt (ends bx t) t.wt
  | .n _, h => ⟨h, h⟩
  | .pl j, h => by
    obtain ⟨e, h1, h2, h3⟩ := getD_of (d := ((0 : Int), (0 : Int))) (show j < bx.length from h)
    rw [ends, h3]
    exact hb e h2
  | .op s a b, h => join_lt (ends_lt hb h.2.1) (ends_lt hb h.2.2)
section
variable {K : PySem.W.Frag}
theorem two_at {x y v : V} {i : Nat} (h : [x, y][i]? = some v) : (i = 0 ∧ v = x) ∨ (i = 1 ∧ v = y) := by
  match i, h with
  | 0, h => exact .inl ⟨rfl, (Option.some.inj h).symm⟩
  | 1, h => exact .inr ⟨rfl, (Option.some.inj h).symm⟩
theorem wide_mulW {i j : Int} {a b : Nat} (ha : i.natAbs < 2 ^ a) (hb : j.natAbs < 2 ^ b) (h0 : 0 < a) (h1 : 0 < b) (h : a + b ≤ 900000) : CMulW i j := wide_mul ha hb h0 h1 (by omega)
theorem Su.Ok.three {M : Nat} {t : Su} {v : V} {H : Hp} (h : SuAt K H t v) (k : t.Ok M) : (∃ z, t = .n z ∧ v = .int z ∧ z.natAbs < 2 ^ 200) ∨ (∃ j p, t = .pl j ∧ j < M ∧ v = .ref p ∧ SqT K H p [.str "at", .int (j : Int)]) ∨
    ∃ s a b p x y, t = .op s a b ∧ s ∈ signs5 ∧ s ≠ "at" ∧ a.Ok M ∧ b.Ok M ∧ v = .ref p ∧ SqT K H p [.str s, x, y] ∧ SuAt K H a x ∧ SuAt K H b y := by
  cases t with
  | n z => exact .inl ⟨z, rfl, h, k⟩
  | pl j =>
    obtain ⟨p, rfl, h⟩ := h
    exact .inr (.inl ⟨j, p, rfl, k, rfl, h⟩)
  | op s a b =>
    obtain ⟨p, x, y, rfl, h, h1, h2⟩ := h
    refine .inr (.inr ⟨s, a, b, p, x, y, rfl, k.1, ?_, k.2.1, k.2.2, rfl, h, h1, h2⟩)
    rintro rfl
    exact absurd k.1 (by decide)
end
theorem sign_of {v : V} (h : v ∈ [V.str "+", .str "-", .str "*", .str "//", .str "mod"]) : ∃ s ∈ signs5, v = .str s := by
  simp only [List.mem_cons, List.not_mem_nil, or_false] at h
  rcases h with rfl | rfl | rfl | rfl | rfl
  · exact ⟨"+", by decide, rfl⟩
  · exact ⟨"-", by decide, rfl⟩
  · exact ⟨"*", by decide, rfl⟩
  · exact ⟨"//", by decide, rfl⟩
  · exact ⟨"mod", by decide, rfl⟩
end Gs

namespace Gs
open PySem PySem.Spec PyProof.Rows L2 TL
/-! ### whole quotients -/
theorem fdiv_pos {x y q : Int} (hy : 0 < y) (h1 : q * y ≤ x) (h2 : x < q * y + y) : x.fdiv y = q := by
  have e := Int.mul_fdiv_add_fmod x y
  have f0 := Int.fmod_nonneg_of_pos x hy
  have f1 := Int.fmod_lt_of_pos x hy
  generalize x.fdiv y = F at *
  generalize x.fmod y = f at *
  rcases Int.lt_trichotomy F q with h | h | h
  · have : (F + 1) * y ≤ q * y := Int.mul_le_mul_of_nonneg_right (by omega) (by omega)
    rw [Int.add_mul, Int.one_mul, Int.mul_comm F y] at this
    omega
  · exact h
  · have : (q + 1) * y ≤ F * y := Int.mul_le_mul_of_nonneg_right (by omega) (by omega)
    rw [Int.add_mul, Int.one_mul, Int.mul_comm F y] at this
    omega
theorem fdiv_neg {x y q : Int} (hy : y < 0) (h1 : x ≤ q * y) (h2 : q * y + y < x) : x.fdiv y = q := by
  rw [← Int.neg_fdiv_neg]
  refine fdiv_pos (by omega) ?_ ?_
  · rw [Int.mul_neg]
    omega
  · rw [Int.mul_neg]
    omega
theorem iab_nn (i : Int) : 0 ≤ iab i := by
  unfold iab
  split <;> omega
theorem iab_nat (i : Int) : iab i = (i.natAbs : Int) := by
  unfold iab
  split <;> omega
def lawq (x y : Int) : Int := if x * y < 0 then (if (0 - iab x / iab y) * y = x then 0 - iab x / iab y else 0 - iab x / iab y - 1) else iab x / iab y
theorem lawq_lem (x y : Int) (hy : y ≠ 0) : x.fdiv y = lawq x y ∧ (lawq x y).natAbs ≤ x.natAbs := by
  have hb : 0 < iab y := by
    unfold iab
    split <;> omega
  have ha := iab_nn x
  have q1 := Int.ediv_mul_le (iab x) (b := iab y) (by omega)
  have q2 := Int.lt_ediv_add_one_mul_self (iab x) hb
  rw [Int.add_mul, Int.one_mul] at q2
  have q0 : 0 ≤ iab x / iab y := Int.ediv_nonneg ha (by omega)
  have qle : iab x / iab y ≤ iab x / iab y * iab y := by
    have := Int.mul_le_mul_of_nonneg_left (show 1 ≤ iab y by omega) q0
    rw [Int.mul_one] at this
    exact this
  unfold lawq
  generalize iab x / iab y = q at *
  rcases Int.lt_or_lt_of_ne hy with ny | py
  · have eb : iab y = -y := by unfold iab; rw [if_pos ny]
    rw [eb, Int.mul_neg] at q1 q2 qle
    by_cases px : 0 < x
    · have ea : iab x = x := by unfold iab; rw [if_neg (by omega)]
      rw [ea] at q1 q2
      have hm : x * y < 0 := Int.mul_neg_of_pos_of_neg px ny
      rw [if_pos hm]
      have e0 : (0 - q) * y = -(q * y) := by rw [Int.sub_mul, Int.zero_mul, Int.zero_sub]
      split
      · next h => exact ⟨fdiv_neg ny (by omega) (by omega), by omega⟩
      · next h =>
        have e1 : (0 - q - 1) * y = -(q * y) - y := by rw [Int.sub_mul, e0, Int.one_mul]
        exact ⟨fdiv_neg ny (by omega) (by omega), by omega⟩
    · have ea : iab x = -x := by unfold iab; split <;> omega
      rw [ea] at q1 q2
      have hm : ¬ x * y < 0 := by
        have := Int.mul_nonneg_of_nonpos_of_nonpos (show x ≤ 0 by omega) (show y ≤ 0 by omega)
        omega
      rw [if_neg hm]
      exact ⟨fdiv_neg ny (by omega) (by omega), by omega⟩
  · have eb : iab y = y := by unfold iab; rw [if_neg (by omega)]
    rw [eb] at q1 q2 qle
    by_cases px : x < 0
    · have ea : iab x = -x := by unfold iab; rw [if_pos px]
      rw [ea] at q1 q2
      have hm : x * y < 0 := Int.mul_neg_of_neg_of_pos px py
      rw [if_pos hm]
      have e0 : (0 - q) * y = -(q * y) := by rw [Int.sub_mul, Int.zero_mul, Int.zero_sub]
      split
      · next h => exact ⟨fdiv_pos py (by omega) (by omega), by omega⟩
      · next h =>
        have e1 : (0 - q - 1) * y = -(q * y) - y := by rw [Int.sub_mul, e0, Int.one_mul]
        exact ⟨fdiv_pos py (by omega) (by omega), by omega⟩
    · have ea : iab x = x := by unfold iab; rw [if_neg px]
      rw [ea] at q1 q2
      have hm : ¬ x * y < 0 := by
        have := Int.mul_nonneg (show 0 ≤ x by omega) (show 0 ≤ y by omega)
        omega
      rw [if_neg hm]
      exact ⟨fdiv_pos py (by omega) (by omega), by omega⟩
theorem fdiv_abs (x y : Int) (hy : y ≠ 0) : (x.fdiv y).natAbs ≤ x.natAbs := by
  rw [(lawq_lem x y hy).1]
  exact (lawq_lem x y hy).2
theorem fmod_abs (x y : Int) (hy : y ≠ 0) : (x.fmod y).natAbs < y.natAbs := by
  rcases Int.lt_or_lt_of_ne hy with ny | py
  · have e := Int.mul_fdiv_add_fmod (-x) (-y)
    have f0 := Int.fmod_nonneg_of_pos (-x) (b := -y) (by omega)
    have f1 := Int.fmod_lt_of_pos (-x) (b := -y) (by omega)
    have e2 := Int.mul_fdiv_add_fmod x y
    rw [Int.neg_fdiv_neg, Int.neg_mul] at e
    omega
  · have f0 := Int.fmod_nonneg_of_pos x py
    have f1 := Int.fmod_lt_of_pos x py
    omega
theorem lawq_mod (x y : Int) (hy : y ≠ 0) : x - lawq x y * y = x.fmod y := by
  rw [← (lawq_lem x y hy).1, Int.mul_comm]
  have := Int.mul_fdiv_add_fmod x y
  omega
/-! ### the worth of a sum -/
def reck (s : Str) (x y : Int) : Option Int :=
  if s = "+" then some (x + y) else if s = "-" then some (x - y) else if s = "*" then some (x * y)
  else if y = 0 then none else if s = "//" then some (x.fdiv y) else some (x.fmod y)
def worth (pls : List (Option Int)) : Su → Option Int
  | .n z => some z
  | .pl j => pls.getD j none
  | .op s a b => match worth pls a, worth pls b with
    | some x, some y => reck s x y
    | _, _ => none
def PlOk (pls : List (Option Int)) : Prop := ∀ z, some z ∈ pls → z.natAbs < 2 ^ 200
theorem reck_lt {s : Str} {x y z : Int} {m n : Nat} (hx : x.natAbs < 2 ^ m) (hy : y.natAbs < 2 ^ n) (h : reck s x y = some z) : z.natAbs < 2 ^ (m + n + 1) := by
  unfold reck at h
  split at h
  · cases h
    exact add_lt hx hy
  split at h
  · cases h
    exact sub_lt hx hy
  split at h
  · cases h
    exact mul_lt hx hy
  split at h
  · cases h
  · next h0 =>
    split at h
    · cases h
      exact lt_up (Nat.lt_of_le_of_lt (fdiv_abs x y h0) hx) (by omega)
    · cases h
      exact lt_up (Nat.lt_trans (fmod_abs x y h0) hy) (by omega)
theorem worth_lt {pls : List (Option Int)} (hp : PlOk pls) : ∀ {t : Su} {z : Int}, t.Ok pls.length → worth pls t = some z → z.natAbs < 2 ^ t.wt
  | .n _, _, h, e => by
    cases e
    exact h
  | .pl j, z, h, e => by
    obtain ⟨o, h1, h2, h3⟩ := getD_of (d := (none : Option Int)) (show j < pls.length from h)
    rw [worth, h3] at e
    subst e
    exact hp z h2
  | .op s a b, z, h, e => by
    rw [worth] at e
    split at e
    · next x y e1 e2 => exact reck_lt (worth_lt hp h.2.1 e1) (worth_lt hp h.2.2 e2) e
    · cases e
/-! ### the ends hold the worth -/
def In (x : Int) (e : Int × Int) : Prop := e.1 ≤ x ∧ x ≤ e.2
theorem lin {a b x y : Int} (h1 : a ≤ x) (h2 : x ≤ b) : min (a * y) (b * y) ≤ x * y ∧ x * y ≤ max (a * y) (b * y) := by
  rcases Int.le_total 0 y with h | h
  · have i1 := Int.mul_le_mul_of_nonneg_right h1 h
    have i2 := Int.mul_le_mul_of_nonneg_right h2 h
    omega
  · have i1 := Int.mul_le_mul_of_nonpos_right h1 h
    have i2 := Int.mul_le_mul_of_nonpos_right h2 h
    omega
theorem mul_in {l r : Int × Int} {x y : Int} (hx : In x l) (hy : In y r) : mn4 (l.1 * r.1) (l.1 * r.2) (l.2 * r.1) (l.2 * r.2) ≤ x * y ∧ x * y ≤ mx4 (l.1 * r.1) (l.1 * r.2) (l.2 * r.1) (l.2 * r.2) := by
  have i1 := lin (y := y) hx.1 hx.2
  have i2 := lin (y := l.1) hy.1 hy.2
  have i3 := lin (y := l.2) hy.1 hy.2
  rw [Int.mul_comm r.1 l.1, Int.mul_comm r.2 l.1, Int.mul_comm y l.1] at i2
  rw [Int.mul_comm r.1 l.2, Int.mul_comm r.2 l.2, Int.mul_comm y l.2] at i3
  unfold mn4 mx4
  omega
theorem far_in {x : Int} {l : Int × Int} (h : In x l) : (x.natAbs : Int) ≤ imx (iab l.1) (iab l.2) := by
  unfold imx
  rw [iab_nat, iab_nat]
  unfold In at h
  split <;> omega
theorem imx_nn (a b : Int) : 0 ≤ imx (iab a) (iab b) := by
  unfold imx
  rw [iab_nat, iab_nat]
  split <;> omega
theorem reck_in {s : Str} {x y z : Int} {l r : Int × Int} (hx : In x l) (hy : In y r) (h : reck s x y = some z) : In z (join s l r) := by
  unfold reck at h
  unfold join
  split at h
  · next c =>
    cases h
    rw [if_pos c]
    unfold In at *
    dsimp only
    omega
  next c1 =>
  rw [if_neg c1]
  split at h
  · next c =>
    cases h
    rw [if_pos c]
    unfold In at *
    dsimp only
    omega
  next c2 =>
  rw [if_neg c2]
  split at h
  · next c =>
    cases h
    rw [if_pos c]
    exact mul_in hx hy
  next c3 =>
  rw [if_neg c3]
  split at h
  · cases h
  next h0 =>
  split at h
  · next c =>
    cases h
    rw [if_pos c]
    have i1 := fdiv_abs x y h0
    have i2 := far_in hx
    unfold In
    dsimp only
    omega
  · next c =>
    cases h
    rw [if_neg c]
    have i1 := fmod_abs x y h0
    have i2 := far_in hy
    unfold In
    dsimp only
    omega
theorem getD_some {α : Type} {xs : List α} {j : Nat} {d e : α} (h : xs[j]? = some e) : xs.getD j d = e := by
  rw [List.getD_eq_getElem?_getD, h]
  rfl
/-- a point within a box -/
def PtIn (pt : List Int) (bx : List (Int × Int)) : Prop := pt.length = bx.length ∧ ∀ (i : Nat) x e, pt[i]? = some x → bx[i]? = some e → In x e
theorem worth_in {pt : List Int} {bx : List (Int × Int)} (hp : PtIn pt bx) : ∀ {t : Su} {z : Int}, t.Ok bx.length → worth (pt.map some) t = some z → In z (ends bx t)
  | .n _, _, _, e => by
    cases e
    exact ⟨Int.le_refl _, Int.le_refl _⟩
  | .pl j, z, h, e => by
    have hj : j < bx.length := h
    have hj' : j < pt.length := by rw [hp.1]; exact hj
    rw [worth, getD_some (e := some pt[j]) (by rw [List.getElem?_map, List.getElem?_eq_getElem hj']; rfl)] at e
    cases e
    rw [ends, getD_some (List.getElem?_eq_getElem hj)]
    exact hp.2 j _ _ (List.getElem?_eq_getElem hj') (List.getElem?_eq_getElem hj)
  | .op s a b, z, h, e => by
    rw [worth] at e
    split at e
    · next x y e1 e2 => exact reck_in (worth_in hp h.2.1 e1) (worth_in hp h.2.2 e2) e
    · cases e
/-- a pair within a pair -/
def Sub (e f : Int × Int) : Prop := f.1 ≤ e.1 ∧ e.1 ≤ e.2 ∧ e.2 ≤ f.2
theorem Sub.fst {e f : Int × Int} (h : Sub e f) : In e.1 f := ⟨h.1, Int.le_trans h.2.1 h.2.2⟩
theorem Sub.snd {e f : Int × Int} (h : Sub e f) : In e.2 f := ⟨Int.le_trans h.1 h.2.1, h.2.2⟩
theorem mn4_le_mx4 (a b c d : Int) : mn4 a b c d ≤ mx4 a b c d := by
  unfold mn4 mx4
  omega
theorem far_mono {l l' : Int × Int} (h : Sub l l') : imx (iab l.1) (iab l.2) ≤ imx (iab l'.1) (iab l'.2) := by
  have h1 := far_in h.fst
  have h2 := far_in h.snd
  rw [← iab_nat] at h1 h2
  exact imx_P (P := fun z => z ≤ imx (iab l'.1) (iab l'.2)) h1 h2
theorem join_mono {s : Str} {l l' r r' : Int × Int} (hl : Sub l l') (hr : Sub r r') : Sub (join s l r) (join s l' r') := by
  unfold join
  split
  · unfold Sub at *
    dsimp only
    omega
  split
  · unfold Sub at *
    dsimp only
    omega
  split
  · have i11 := mul_in hl.fst hr.fst
    have i12 := mul_in hl.fst hr.snd
    have i21 := mul_in hl.snd hr.fst
    have i22 := mul_in hl.snd hr.snd
    exact ⟨mn4_P (P := fun z => mn4 (l'.1 * r'.1) (l'.1 * r'.2) (l'.2 * r'.1) (l'.2 * r'.2) ≤ z) i11.1 i12.1 i21.1 i22.1, mn4_le_mx4 .., mx4_P (P := fun z => z ≤ mx4 (l'.1 * r'.1) (l'.1 * r'.2) (l'.2 * r'.1) (l'.2 * r'.2)) i11.2 i12.2 i21.2 i22.2⟩
  split
  · have h1 := far_mono hl
    have h2 := imx_nn l.1 l.2
    unfold Sub
    dsimp only
    omega
  · have h1 := far_mono hr
    have h2 := imx_nn r.1 r.2
    unfold Sub
    dsimp only
    omega
def BxSub (bx bx' : List (Int × Int)) : Prop := bx.length = bx'.length ∧ ∀ (i : Nat) e f, bx[i]? = some e → bx'[i]? = some f → Sub e f
theorem ends_mono {bx bx' : List (Int × Int)} (hb : BxSub bx bx') : ∀ {t : Su}, t.Ok bx'.length → Sub (ends bx t) (ends bx' t)
  | .n z, _ => ⟨Int.le_refl _, Int.le_refl _, Int.le_refl _⟩
  | .pl j, h => by
    have hj : j < bx'.length := h
    have hj' : j < bx.length := by rw [hb.1]; exact hj
    rw [ends, ends, getD_some (List.getElem?_eq_getElem hj), getD_some (List.getElem?_eq_getElem hj')]
    exact hb.2 j _ _ (List.getElem?_eq_getElem hj') (List.getElem?_eq_getElem hj)
  | .op s a b, h => join_mono (ends_mono hb h.2.1) (ends_mono hb h.2.2)
theorem BxSub.snoc {bx : List (Int × Int)} {inn : List (Int × Int)} {e f : Int × Int} {i : Nat} (h : BxSub inn (bx.take i)) (hf : bx[i]? = some f) (he : Sub e f) : BxSub (inn ++ [e]) (bx.take (i + 1)) := by
  have hi : i < bx.length := (List.getElem?_eq_some_iff.mp hf).1
  have hl : inn.length = i := by
    have := h.1
    rw [List.length_take] at this
    omega
  refine ⟨by rw [List.length_append, List.length_take, hl]; simp; omega, fun j e' f' h1 h2 => ?_⟩
  by_cases c : j < i
  · rw [List.getElem?_append_left (by omega)] at h1
    rw [List.getElem?_take, if_pos (by omega)] at h2
    exact h.2 j e' f' h1 (by rw [List.getElem?_take, if_pos c]; exact h2)
  · have hj : j = i := by
      have := (List.getElem?_eq_some_iff.mp h1).1
      rw [List.length_append, hl] at this
      simp at this
      omega
    subst hj
    rw [List.getElem?_append_right (by omega), hl, Nat.sub_self] at h1
    rw [List.getElem?_take, if_pos (by omega), hf] at h2
    cases h1
    cases h2
    exact he
theorem PtIn.snoc {inn : List (Int × Int)} {pt : List Int} {e : Int × Int} {z : Int} (h : PtIn pt inn) (hz : In z e) : PtIn (pt ++ [z]) (inn ++ [e]) := by
  refine ⟨by rw [List.length_append, List.length_append, h.1]; rfl, fun j x e' h1 h2 => ?_⟩
  by_cases c : j < pt.length
  · rw [List.getElem?_append_left c] at h1
    rw [List.getElem?_append_left (by rw [← h.1]; exact c)] at h2
    exact h.2 j x e' h1 h2
  · rw [List.getElem?_append_right (by omega)] at h1
    rw [List.getElem?_append_right (by rw [← h.1]; omega), ← h.1] at h2
    have : j - pt.length = 0 := by
      have := (List.getElem?_eq_some_iff.mp h1).1
      simp at this
      omega
    rw [this] at h1 h2
    cases h1
    cases h2
    exact hz
theorem PtIn.sub {inn bx : List (Int × Int)} {pt : List Int} (h : PtIn pt inn) (k : BxSub inn bx) : PtIn pt bx := by
  refine ⟨h.1.trans k.1, fun i x e h1 h2 => ?_⟩
  have hi : i < inn.length := by
    rw [← h.1]
    exact (List.getElem?_eq_some_iff.mp h1).1
  have a := h.2 i x _ h1 (List.getElem?_eq_getElem hi)
  have b := k.2 i _ e (List.getElem?_eq_getElem hi) h2
  unfold In Sub at *
  omega
theorem PairLt.sub {e f : Int × Int} {n : Nat} (h : PairLt f n) (k : Sub e f) : PairLt e n := by
  obtain ⟨h1, h2⟩ := h
  obtain ⟨k1, k2, k3⟩ := k
  unfold PairLt
  generalize 2 ^ n = m at *
  omega
theorem BxOk.sub {inn bx : List (Int × Int)} (h : BxOk bx) (k : BxSub inn bx) : BxOk inn := fun e he => by
  obtain ⟨i, hi, rfl⟩ := List.getElem_of_mem he
  have hi' : i < bx.length := by rw [← k.1]; exact hi
  exact (h _ (List.getElem_mem hi')).sub (k.2 i _ _ (List.getElem?_eq_getElem hi) (List.getElem?_eq_getElem hi'))
theorem take_moreP {α : Type} {xs : List α} {i : Nat} {x : α} (h : xs[i]? = some x) : xs.take (i + 1) = xs.take i ++ [x] := by
  rw [List.take_succ, h]
  rfl
theorem PtIn.more {bx : List (Int × Int)} {pt : List Int} {e : Int × Int} {z : Int} {i : Nat} (h : PtIn pt (bx.take i)) (he : bx[i]? = some e) (hz : In z e) : PtIn (pt ++ [z]) (bx.take (i + 1)) := by
  rw [take_moreP he]
  exact PtIn.snoc h hz
theorem PtIn.ok {bx : List (Int × Int)} {pt : List Int} (h : PtIn pt bx) (k : BxOk bx) : PlOk (pt.map some) := fun z hz => by
  obtain ⟨z', hz', e⟩ := List.mem_map.mp hz
  cases e
  obtain ⟨i, hi, rfl⟩ := List.getElem_of_mem hz'
  have hi' : i < bx.length := by rw [← h.1]; exact hi
  have h1 := h.2 i _ _ (List.getElem?_eq_getElem hi) (List.getElem?_eq_getElem hi')
  have h2 := k _ (List.getElem_mem hi')
  unfold In at h1
  unfold PairLt at h2
  omega
def optV : Option Int → V
  | none => .non
  | some z => .int z
def OneAt (K : PySem.W.Frag) (H : Hp) (v : V) (o : Option Int) : Prop := (∃ z : Int, v = .int z ∧ o = some z) ∨ (∃ z, v = .str z ∧ o = none) ∨ (∃ p xs, v = .ref p ∧ SqT K H p xs ∧ o = none)
def PlsAt (K : PySem.W.Frag) (H : Hp) (b : Addr) (pls : List (Option Int)) : Prop := ∃ vs, (SqL K H b vs ∨ SqT K H b vs) ∧ AllAt (OneAt K H) vs pls
section
variable {K : PySem.W.Frag} {H H' : Hp}
theorem OneAt.mono {v : V} {o : Option Int} (h : OneAt K H v o) (k : ∀ a xs, SqT K H a xs → SqT K H' a xs) : OneAt K H' v o := by
  rcases h with h | h | ⟨p, xs, rfl, h, e⟩
  · exact .inl h
  · exact .inr (.inl h)
  · exact .inr (.inr ⟨p, xs, rfl, k _ _ h, e⟩)
theorem PlsAt.same {b : Addr} {pls : List (Option Int)} (h : PlsAt K H b pls) (k : Same H H') : PlsAt K H' b pls := by
  obtain ⟨vs, h, a⟩ := h
  refine ⟨vs, ?_, a.mono fun _ _ x => x.mono fun _ _ y => Same.sqT k y⟩
  rcases h with h | h
  · exact .inl (Same.seq k h)
  · exact .inr (Same.sqT k h)
end
theorem PlsAt.kx {K : PySem.W.Frag} {H H' : Hp} {p l : Addr} {c : Int} {b : Addr} {pls : List (Option Int)} (h : ∃ vs, SqT K H b vs ∧ AllAt (OneAt K H) vs pls) (k : Kx p l H H') (P : PoolAt H p l c) : PlsAt K H' b pls := by
  obtain ⟨vs, h, a⟩ := h
  exact ⟨vs, .inr (k.sqT P h), a.mono fun _ _ x => x.mono fun _ _ y => k.sqT P y⟩
theorem pls_ints {K : PySem.W.Frag} {H : Hp} {b : Addr} {pt : List Int} (h : SqL K H b (pt.map V.int) ∨ SqT K H b (pt.map V.int)) : PlsAt K H b (pt.map some) := by
  refine ⟨pt.map V.int, h, by rw [List.length_map, List.length_map], fun i w o h1 h2 => .inl ?_⟩
  rw [List.getElem?_map] at h1 h2
  cases e : pt[i]? with
  | none =>
    rw [e] at h1
    cases h1
  | some z =>
    rw [e] at h1 h2
    cases h1
    cases h2
    exact ⟨z, rfl, rfl⟩
theorem worth_op {pls : List (Option Int)} {s : Str} {a b : Su} {x y : Int} (h1 : worth pls a = some x) (h2 : worth pls b = some y) : worth pls (.op s a b) = reck s x y := by
  rw [worth, h1, h2]
end Gs

namespace Gs
open PySem PySem.Spec PyProof.Rows L2 TL
/-! ### tests -/
structure Te where
  s : Str
  a : Su
  b : Su
def tsigns : List Str := ["<", "=<", "==", "=/="]
def Te.Ok (M : Nat) (t : Te) : Prop := t.s ∈ tsigns ∧ t.a.Ok M ∧ t.b.Ok M
def Te.dep (t : Te) : Nat := max t.a.dep t.b.dep
def Te.wt (t : Te) : Nat := max t.a.wt t.b.wt
def TeAt (K : PySem.W.Frag) (H : Hp) (v : V) (t : Te) : Prop := ∃ p x y, v = .ref p ∧ SqT K H p [.str t.s, x, y] ∧ SuAt K H t.a x ∧ SuAt K H t.b y
section
variable {K : PySem.W.Frag} {H H' : Hp}
theorem TeAt.mono {t : Te} {v : V} (h : TeAt K H v t) (k : ∀ a xs, SqT K H a xs → SqT K H' a xs) : TeAt K H' v t := by
  obtain ⟨p, x, y, rfl, h, h1, h2⟩ := h
  exact ⟨p, x, y, rfl, k _ _ h, h1.mono k, h2.mono k⟩
theorem TeAt.same {t : Te} {v : V} (h : TeAt K H v t) (k : Same H H') : TeAt K H' v t := h.mono fun _ _ x => Same.sqT k x
theorem TeAt.kx {p l : Addr} {c : Int} {t : Te} {v : V} (h : TeAt K H v t) (k : Kx p l H H') (P : PoolAt H p l c) : TeAt K H' v t := h.mono fun _ _ x => k.sqT P x
end
def gone (bx : List (Int × Int)) (t : Te) : Bool :=
  let l := ends bx t.a
  let r := ends bx t.b
  if t.s = "<" then decide (l.1 ≥ r.2) else if t.s = "=<" then decide (l.1 > r.2) else if t.s = "==" then (decide (l.2 < r.1) || decide (r.2 < l.1))
  else (decide (l.1 = l.2) && (decide (r.1 = r.2) && decide (l.1 = r.1)))
def hold (pls : List (Option Int)) (t : Te) : Bool :=
  match worth pls t.a, worth pls t.b with
  | some l, some r => if t.s = "<" then decide (l < r) else if t.s = "=<" then decide (l ≤ r) else if t.s = "==" then decide (l = r) else !decide (l = r)
  | _, _ => false
theorem gone_hold {bx : List (Int × Int)} {pt : List Int} {t : Te} (hp : PtIn pt bx) (hok : t.Ok bx.length) (h : gone bx t = true) : hold (pt.map some) t = false := by
  unfold hold
  split
  · next l r e1 e2 =>
    have i1 := worth_in hp hok.2.1 e1
    have i2 := worth_in hp hok.2.2 e2
    unfold In at i1 i2
    unfold gone at h
    split
    · next c =>
      rw [if_pos c] at h
      have := of_decide_eq_true h
      exact decide_eq_false (by omega)
    next c1 =>
    rw [if_neg c1] at h
    split
    · next c =>
      rw [if_pos c] at h
      have := of_decide_eq_true h
      exact decide_eq_false (by omega)
    next c2 =>
    rw [if_neg c2] at h
    split
    · next c =>
      rw [if_pos c, Bool.or_eq_true, decide_eq_true_eq, decide_eq_true_eq] at h
      exact decide_eq_false (by omega)
    · next c =>
      rw [if_neg c, Bool.and_eq_true, Bool.and_eq_true, decide_eq_true_eq, decide_eq_true_eq, decide_eq_true_eq] at h
      rw [decide_eq_true (show l = r by omega)]
      rfl
  · rfl
theorem hold_none1 {pls : List (Option Int)} {s : Str} {a b : Su} (h : worth pls a = none) : hold pls ⟨s, a, b⟩ = false := by
  unfold hold
  dsimp only
  rw [h]
theorem hold_none2 {pls : List (Option Int)} {s : Str} {a b : Su} (h : worth pls b = none) : hold pls ⟨s, a, b⟩ = false := by
  unfold hold
  dsimp only
  rw [h]
  cases worth pls a <;> rfl
theorem hold_some {pls : List (Option Int)} {s : Str} {a b : Su} {l r : Int} (h : worth pls a = some l) (k : worth pls b = some r) : hold pls ⟨s, a, b⟩ = (if s = "<" then decide (l < r) else if s = "=<" then decide (l ≤ r) else if s = "==" then decide (l = r) else !decide (l = r)) := by
  unfold hold
  dsimp only
  rw [h, k]
end Gs

namespace Gs
open PySem PySem.Spec PyProof.Rows L2
/-! ### ranges of great numbers -/
theorem turn_rangeL {P : Program} {w : World} {K : PySem.W.Frag} {tg : Expr} (it : Addr) (lo : Int) (n : Nat) : Turn P w K tg (Itr lo n) [it] it (fun i h => IsLongIter h it (lo + (i : Nat) * 1) ((n : Int) - (i : Nat)) 1) where
  mem := by simp
  obj := fun i h st b hb => by
    have e : b = it := by simpa using hb
    subst e
    exact ⟨_, st, fun v z => nomatch z⟩
  keep := fun i h h' st k => k it (by simp) _ st
  item := by
    intro X hP hw hK hc i pins s σ H E I hf st hg
    subst hP hw hK
    obtain ⟨f0, f1, f2, f3, f4, f5⟩ := hf it (by simp)
    have W := Walks.longrange (prog := X.prog) (w := X.w) (I.ok.hd hc) it lo 1 n
    refine W.item i s _ _ hg st fun v h' tk hv st' kk => ?_
    obtain ⟨t, rfl⟩ := hv
    have I1 : Inv X pins σ H { s with heap := h', toks := tk } := I.turned (fun b o hb e => kk b o (by simpa using hb) e) f0 f1 f3 f4 f5
    refine ⟨_, rfl, go_of (s := { s with heap := h', toks := tk }) (n := "longrange_iterator") st' rfl rfl (by decide) ⟨.int (lo + i), H, I1, ⟨t, ?_⟩, ⟨rfl, rfl⟩, st', fun b hb => (hf b hb).1⟩⟩
    rw [Int.mul_one]
  done := by
    intro X hP hw hK hc i pins s σ H E I hf st hg
    subst hP hw hK
    obtain ⟨f0, f1, f2, f3, f4, f5⟩ := hf it (by simp)
    exact wpAny_pyNext_long_end (I.ok.hd hc) st (by have : n ≤ i := hg; omega) fun h' eb => ⟨rfl, I.turned (t' := s.toks) (fun b o hb e => eb b o hb e) f0 f1 f3 f4 f5⟩
  self := fun _ _ _ _ _ st h => wpAny_pyIter_longiter st h
section
variable {X : Cx} {tg : Expr}
theorem range_itL {pins : List (Addr × Obj)} {σ : L2.St} {H : Hp} {s : Shared} {R : It → Hp → Prop} {E : Value → Shared → Prop} {lo hi : Int} {t u v : Tok} {tk : Nat} (I : Inv X pins σ H s) 
    (q : R (Itr lo (hi - lo).toNat) H) : wpAny (model X.prog X.w) X.A (pyIter (.ref s.heap.objs.size)) (PIE X pins σ tg R) E { s with heap := s.heap.push { cls := .type "range", data := .fields #[.int lo t, .int hi u, .int 1 v] }, toks := tk } := by
  have I1 : Inv X pins σ H { s with heap := s.heap.push { cls := .type "range", data := .fields #[.int lo t, .int hi u, .int 1 v] }, toks := tk } := I.kept fun b o e => Heap.get?_push_of_some _ e
  have e1 : lo + ((0 : Nat) : Int) * 1 = lo := by simp
  have e2 : (((hi - lo).toNat : Nat) : Int) - ((0 : Nat) : Int) = Builtin.Range.rangeSize lo hi 1 := by rw [rangeSize_one]; split <;> omega
  cases hs : Builtin.Range.small lo hi 1 with
  | true =>
    refine wpAny_pyIter_range (IsRange.new ..) hs ?_
    refine ⟨(s.heap.push { cls := .type "range", data := .fields #[.int lo t, .int hi u, .int 1 v] }).objs.size, [(s.heap.push { cls := .type "range", data := .fields #[.int lo t, .int hi u, .int 1 v] }).objs.size], _, _, H, rfl,
      I1.kept (t' := tk) fun b o e => Heap.get?_push_of_some _ e, turn_range _ lo (hi - lo).toNat, ?_, fun b hb => ?_, q⟩
    · show IsRangeIter _ _ (lo + ((0 : Nat) : Int) * 1) ((((hi - lo).toNat : Nat) : Int) - ((0 : Nat) : Int)) 1
      rw [e1, e2]
      exact Heap.get?_push_size _ rfl
    · have e : b = (s.heap.push { cls := .type "range", data := .fields #[.int lo t, .int hi u, .int 1 v] }).objs.size := by simpa using hb
      subst e
      exact I1.fpOk (Nat.le_refl _) (I1.hok.fresh (Nat.le_refl _))
  | false =>
    refine wpAny_pyIter_longrange (IsRange.new ..) hs ?_
    refine ⟨(s.heap.push { cls := .type "range", data := .fields #[.int lo t, .int hi u, .int 1 v] }).objs.size, [(s.heap.push { cls := .type "range", data := .fields #[.int lo t, .int hi u, .int 1 v] }).objs.size], _, _, H, rfl,
      I1.kept (t' := tk) fun b o e => Heap.get?_push_of_some _ e, turn_rangeL _ lo (hi - lo).toNat, ?_, fun b hb => ?_, q⟩
    · show IsLongIter _ _ (lo + ((0 : Nat) : Int) * 1) ((((hi - lo).toNat : Nat) : Int) - ((0 : Nat) : Int)) 1
      rw [e1, e2]
      exact Heap.get?_push_size _ rfl
    · have e : b = (s.heap.push { cls := .type "range", data := .fields #[.int lo t, .int hi u, .int 1 v] }).objs.size := by simpa using hb
      subst e
      exact I1.fpOk (Nat.le_refl _) (I1.hok.fresh (Nat.le_refl _))
def iRngW (ta : TA) : TI := fun σ H R => ta σ H fun vs H1 => ∃ i j : Int, vs = [.int i, .int j] ∧ R (Itr i (j - i).toNat) H1
theorem pi_rangeW {a b : Expr} {ta : TA} {p pos : Pos} (hg : Gl X "range") (hm : X.mg "range" = none) (ha : PA X [a, b] ta) (hs : starEach [a, b] X.env = [(false, eval a X.env), (false, eval b X.env)] := by rfl) (hs2 : starEach [b] X.env = [(false, eval b X.env)] := by rfl) :
    PI X tg (.Call (.Name "range" p) [a, b] [] pos) (iRngW ta) := by
  refine ⟨fun pins s σ H R I h => ?_⟩
  refine Call_ (ld_blt I hg hm boot_range (PyProof.Rows.callWith_type1 (thn (ha.run pos pins s σ H _ I h) fun us s1 ⟨vs, H1, I1, r1, q1⟩ => ?_) (by rw [hs, hs2]) (by rw [hs2]; rfl)))
  obtain ⟨i, j, e, q⟩ := q1
  subst e
  cases r1 with
  | cons r rr =>
    cases rr with
    | cons r' rr =>
      cases rr
      obtain ⟨t, rfl⟩ := r
      obtain ⟨t', rfl⟩ := r'
      exact call_range_2 (range_itL I1 q)
end
section
variable {σ : L2.St} {H : Hp} {g : TG} {tt : TT} {ta : TA} {te : TE} {K : PySem.W.Frag} {vs : List Nat}
theorem x_rngW {R : It → Hp → Prop} (q : ta σ H fun vs H1 => ∃ i j : Int, vs = [.int i, .int j] ∧ R (Itr i (j - i).toNat) H1) : iRngW ta σ H R := q
theorem x_lcRW {lo hi : Int} {Qd : Addr → Hp → Prop} (Pv : Addr → Nat → Hp → Prop) (h0 : ∀ D, H D = none → Pv D 0 (upd H D (.lst [])))
    (hs : ∀ D, H D = none → ∀ (i : Nat) H', i < (hi - lo).toNat → Pv D i H' → g (.int (lo + (i : Int))) (wipe σ vs) H' fun σ2 H2 => wipe σ2 vs = wipe σ vs ∧ tt σ2 H2 fun b H3 =>
      if b = true then te σ2 H3 fun y H4 => ∃ acc, H4 D = some (.lst acc) ∧ acc.length < sizeLine ∧ Pv D (i + 1) (upd H4 D (.lst (acc ++ [y]))) else Pv D (i + 1) H3) (hd : ∀ D, H D = none → ∀ H', Pv D (hi - lo).toNat H' → Qd D H') :
    ∃ i j : Int, [V.int lo, V.int hi] = [.int i, .int j] ∧ ∀ D, H D = none → ∃ W : Nat → Nat → Hp → Prop, (∃ m, W 0 m (upd H D (.lst []))) ∧ ∀ i' m H, W i' m H →
      ((Itr i (j - i).toNat).stop i' H ∧ Qd D H) ∨ ((Itr i (j - i).toNat).go i' H ∧ ∃ Nx : Hp → Prop, (∀ H', Nx H' → ∃ m', m' < m ∧ W (i' + 1) m' H') ∧ ∀ x H', (Itr i (j - i).toNat).yld i' H x H' → g x (wipe σ vs) H' fun σ2 H2 => wipe σ2 vs = wipe σ vs ∧ tt σ2 H2 fun b H3 =>
        if b = true then te σ2 H3 fun y H4 => ∃ acc, H4 D = some (.lst acc) ∧ acc.length < sizeLine ∧ Nx (upd H4 D (.lst (acc ++ [y]))) else Nx H3) :=
  ⟨lo, hi, rfl, fun D hD => lc_range (lo := lo) (n := (hi - lo).toNat) (Pv D) (h0 D hD) (fun i H' hi p => hs D hD i H' hi p) (hd D hD)⟩
end
end Gs

namespace Gs
open PySem PySem.Spec PyProof.Rows L2 TL
/-! ### boxes, tests over them -/
theorem ip_mulW {X : Cx} : PIp X .Mult (rI CMulW fun i j => .int (i * j)) := fun pins s σ H x y v u Q I rx ry h => by
  obtain ⟨i, j, rfl, rfl, hc, q⟩ := h
  obtain ⟨t, rfl⟩ := rx
  obtain ⟨t', rfl⟩ := ry
  exact imul_int ⟨.int _, H, I.tok s.toks.succ, ⟨_, rfl⟩, q⟩ hc.ok
def TesAt (K : PySem.W.Frag) (H : Hp) (a : Addr) (ts : List Te) : Prop := ∃ vs, SqT K H a vs ∧ AllAt (TeAt K H) vs ts
theorem TesAt.mono {K : PySem.W.Frag} {H H' : Hp} {a : Addr} {ts : List Te} (h : TesAt K H a ts) (k : ∀ a xs, SqT K H a xs → SqT K H' a xs) : TesAt K H' a ts := by
  obtain ⟨vs, h1, h2⟩ := h
  exact ⟨vs, k _ _ h1, h2.mono fun _ _ x => x.mono k⟩
theorem TesAt.same {K : PySem.W.Frag} {H H' : Hp} {a : Addr} {ts : List Te} (h : TesAt K H a ts) (k : Same H H') : TesAt K H' a ts := h.mono fun _ _ x => Same.sqT k x
theorem TesAt.kx {K : PySem.W.Frag} {p l : Addr} {c : Int} {H H' : Hp} {a : Addr} {ts : List Te} (h : TesAt K H a ts) (k : Kx p l H H') (P : PoolAt H p l c) : TesAt K H' a ts := h.mono fun _ _ x => k.sqT P x
def TesOk (M : Nat) (ts : List Te) : Prop := ∀ t ∈ ts, t.Ok M ∧ t.dep < 5 ∧ t.wt ≤ 3000
/-- how many points stand in a box -/
def many : List (Int × Int) → Int
  | [] => 1
  | e :: r => max 0 (e.2 - e.1 + 1) * many r
def noneOut (ts : List Te) (bx : List (Int × Int)) : Bool := ts.all fun t => !gone bx t
theorem many_append : ∀ (a b : List (Int × Int)), many (a ++ b) = many a * many b
  | [], b => by simp [many]
  | e :: r, b => by
    rw [List.cons_append, many, many, many_append r b, Int.mul_assoc]
theorem many_nn : ∀ (a : List (Int × Int)), 0 ≤ many a
  | [] => by decide
  | e :: r => Int.mul_nonneg (by omega) (many_nn r)
theorem many_take {bx : List (Int × Int)} {i : Nat} {e : Int × Int} (h : bx[i]? = some e) : many (bx.take (i + 1)) = many (bx.take i) * max 0 (e.2 - e.1 + 1) := by
  rw [take_moreP h, many_append]
  simp [many]
/-- boxes that are not empty -/
def BxNe (bx : List (Int × Int)) : Prop := ∀ e ∈ bx, e.1 ≤ e.2
theorem BxSub.ne {a b : List (Int × Int)} (h : BxSub a b) : BxNe a := fun e he => by
  obtain ⟨i, hi, rfl⟩ := List.getElem_of_mem he
  have hi' : i < b.length := by rw [← h.1]; exact hi
  exact (h.2 i _ _ (List.getElem?_eq_getElem hi) (List.getElem?_eq_getElem hi')).2.1
theorem BxSub.refl {a : List (Int × Int)} (h : BxNe a) : BxSub a a := ⟨rfl, fun i e f h1 h2 => by
  rw [h1] at h2
  cases h2
  exact ⟨Int.le_refl _, h e (List.mem_of_getElem? h1), Int.le_refl _⟩⟩
theorem BxSub.trans {a b c : List (Int × Int)} (h : BxSub a b) (k : BxSub b c) : BxSub a c := ⟨h.1.trans k.1, fun i e g h1 h2 => by
  have hi : i < b.length := by rw [← h.1]; exact (List.getElem?_eq_some_iff.mp h1).1
  have x := h.2 i e _ h1 (List.getElem?_eq_getElem hi)
  have y := k.2 i _ g (List.getElem?_eq_getElem hi) h2
  unfold Sub at *
  omega⟩
theorem BxSub.antisymm {a b : List (Int × Int)} (h : BxSub a b) (k : BxSub b a) : a = b := by
  apply List.ext_getElem? 
  intro i
  by_cases c : i < a.length
  · have c' : i < b.length := by rw [← h.1]; exact c
    have x := h.2 i _ _ (List.getElem?_eq_getElem c) (List.getElem?_eq_getElem c')
    have y := k.2 i _ _ (List.getElem?_eq_getElem c') (List.getElem?_eq_getElem c)
    rw [List.getElem?_eq_getElem c, List.getElem?_eq_getElem c']
    unfold Sub at *
    exact congrArg some (Prod.ext (by omega) (by omega))
  · rw [List.getElem?_eq_none (by omega), List.getElem?_eq_none (by rw [← h.1]; omega)]
/-- what a smaller box lets out -/
theorem gone_mono {a b : List (Int × Int)} {t : Te} (h : BxSub a b) (hok : t.Ok b.length) (g : gone b t = true) : gone a t = true := by
  have x := ends_mono (t := t.a) h hok.2.1
  have y := ends_mono (t := t.b) h hok.2.2
  unfold Sub at x y
  unfold gone at g ⊢
  dsimp only at g ⊢
  generalize ends b t.a = l at *
  generalize ends b t.b = r at *
  generalize ends a t.a = l' at *
  generalize ends a t.b = r' at *
  split
  · next c =>
    rw [if_pos c] at g
    have := of_decide_eq_true g
    exact decide_eq_true (by omega)
  next c1 =>
  rw [if_neg c1] at g
  split
  · next c =>
    rw [if_pos c] at g
    have := of_decide_eq_true g
    exact decide_eq_true (by omega)
  next c2 =>
  rw [if_neg c2] at g
  split
  · next c =>
    rw [if_pos c, Bool.or_eq_true, decide_eq_true_eq, decide_eq_true_eq] at g
    rw [Bool.or_eq_true, decide_eq_true_eq, decide_eq_true_eq]
    omega
  · next c =>
    rw [if_neg c, Bool.and_eq_true, Bool.and_eq_true, decide_eq_true_eq, decide_eq_true_eq, decide_eq_true_eq] at g
    rw [Bool.and_eq_true, Bool.and_eq_true, decide_eq_true_eq, decide_eq_true_eq, decide_eq_true_eq]
    omega
theorem noneOut_mono {a b : List (Int × Int)} {ts : List Te} (h : BxSub a b) (hok : TesOk b.length ts) (g : noneOut ts a = true) : noneOut ts b = true := by
  unfold noneOut at *
  rw [List.all_eq_true] at *
  intro t ht
  have := g t ht
  cases e : gone b t with
  | false => rfl
  | true =>
    rw [gone_mono h (hok t ht).1 e] at this
    cases this
/-- the box with a pair put in -/
def held (ts : List Te) (bx : List (Int × Int)) (k : Nat) (v : Int) : Bool := noneOut ts (bx.set k (v, v))
theorem set_sub {a b : List (Int × Int)} {k : Nat} {e f : Int × Int} (h : BxSub a b) (he : Sub e f) : BxSub (a.set k e) (b.set k f) := by
  refine ⟨by rw [List.length_set, List.length_set]; exact h.1, fun i x y h1 h2 => ?_⟩
  by_cases c : k = i
  · subst c
    rw [List.getElem?_set] at h1 h2
    rw [if_pos rfl] at h1 h2
    split at h1
    · split at h2
      · cases h1
        cases h2
        exact he
      · cases h2
    · cases h1
  · rw [List.getElem?_set_ne c] at h1 h2
    exact h.2 i x y h1 h2
theorem held_mono {a b : List (Int × Int)} {ts : List Te} {k : Nat} {v : Int} (h : BxSub a b) (hok : TesOk b.length ts) (g : held ts a k v = true) : held ts b k v = true :=
  noneOut_mono (set_sub h ⟨Int.le_refl _, Int.le_refl _, Int.le_refl _⟩) (by rw [List.length_set]; exact hok) g
/-- each end of it held -/
def Tight (ts : List Te) (bx : List (Int × Int)) : Prop := BxNe bx ∧ ∀ (k : Nat) e, bx[k]? = some e → held ts bx k e.1 = true ∧ held ts bx k e.2 = true
/-- all tight boxes within it lie within the other one -/
def Keeps (ts : List Te) (a b : List (Int × Int)) : Prop := ∀ T, Tight ts T → BxSub T a → BxSub T b
theorem Keeps.refl {ts : List Te} {a : List (Int × Int)} : Keeps ts a a := fun _ _ h => h
theorem Keeps.trans {ts : List Te} {a b c : List (Int × Int)} (h : Keeps ts a b) (k : Keeps ts b c) : Keeps ts a c := fun T hT hs => k T hT (h T hT hs)
theorem get_set {a : List (Int × Int)} {k i : Nat} {e x : Int × Int} (h : (a.set k e)[i]? = some x) : (k = i ∧ x = e) ∨ (k ≠ i ∧ a[i]? = some x) := by
  by_cases c : k = i
  · rw [List.getElem?_set, if_pos c] at h
    split at h
    · cases h
      exact .inl ⟨c, rfl⟩
    · cases h
  · rw [List.getElem?_set_ne c] at h
    exact .inr ⟨c, h⟩
theorem trim_lo {ts : List Te} {a : List (Int × Int)} {k : Nat} {e : Int × Int} (hok : TesOk a.length ts) (he : a[k]? = some e) (h : held ts a k e.1 = false) : Keeps ts a (a.set k (e.1 + 1, e.2)) := fun T hT hs => by
  have hk : k < T.length := by rw [hs.1]; exact (List.getElem?_eq_some_iff.mp he).1
  have x := hs.2 k _ e (List.getElem?_eq_getElem hk) he
  have hne : T[k].1 ≠ e.1 := by
    intro z
    have := (hT.2 k _ (List.getElem?_eq_getElem hk)).1
    rw [z, ] at this
    rw [held_mono hs hok this] at h
    cases h
  refine ⟨by rw [List.length_set]; exact hs.1, fun i y z h1 h2 => ?_⟩
  rcases get_set h2 with ⟨rfl, rfl⟩ | ⟨c, h3⟩
  · rw [List.getElem?_eq_getElem hk] at h1
    cases h1
    unfold Sub at *
    dsimp only
    omega
  · exact hs.2 i y z h1 h3
theorem trim_hi {ts : List Te} {a : List (Int × Int)} {k : Nat} {e : Int × Int} (hok : TesOk a.length ts) (he : a[k]? = some e) (h : held ts a k e.2 = false) : Keeps ts a (a.set k (e.1, e.2 - 1)) := fun T hT hs => by
  have hk : k < T.length := by rw [hs.1]; exact (List.getElem?_eq_some_iff.mp he).1
  have x := hs.2 k _ e (List.getElem?_eq_getElem hk) he
  have hne : T[k].2 ≠ e.2 := by
    intro z
    have := (hT.2 k _ (List.getElem?_eq_getElem hk)).2
    rw [z] at this
    rw [held_mono hs hok this] at h
    cases h
  refine ⟨by rw [List.length_set]; exact hs.1, fun i y z h1 h2 => ?_⟩
  rcases get_set h2 with ⟨rfl, rfl⟩ | ⟨c, h3⟩
  · rw [List.getElem?_eq_getElem hk] at h1
    cases h1
    unfold Sub at *
    dsimp only
    omega
  · exact hs.2 i y z h1 h3
/-- what is told: the greatest tight box within, or that there is none -/
def IsTight (ts : List Te) (bx : List (Int × Int)) : Option (List (Int × Int)) → Prop
  | none => ∀ T, Tight ts T → ¬ BxSub T bx
  | some R => Tight ts R ∧ BxSub R bx ∧ Keeps ts bx R
theorem IsTight.uniq {ts : List Te} {bx : List (Int × Int)} {r r' : Option (List (Int × Int))} (h : IsTight ts bx r) (k : IsTight ts bx r') : r = r' := by
  cases r with
  | none =>
    cases r' with
    | none => rfl
    | some R => exact absurd k.2.1 (h R k.1)
  | some R =>
    cases r' with
    | none => exact absurd h.2.1 (k R h.1)
    | some R' => rw [BxSub.antisymm (k.2.2 R h.1 h.2.1) (h.2.2 R' k.1 k.2.1)]
/-- a point at which all tests hold is a tight box -/
theorem single_tight {ts : List Te} {pt : List Int} (hok : TesOk pt.length ts) (h : ∀ t ∈ ts, hold (pt.map some) t = true) : Tight ts (pt.map fun x => (x, x)) := by
  have hin : PtIn pt (pt.map fun x => (x, x)) := ⟨by rw [List.length_map], fun i x e h1 h2 => by
    rw [List.getElem?_map, h1] at h2
    cases h2
    exact ⟨Int.le_refl _, Int.le_refl _⟩⟩
  have all : noneOut ts (pt.map fun x => (x, x)) = true := by
    unfold noneOut
    rw [List.all_eq_true]
    intro t ht
    cases e : gone (pt.map fun x => (x, x)) t with
    | false => rfl
    | true =>
      have := gone_hold hin (by rw [List.length_map]; exact (hok t ht).1) e
      rw [h t ht] at this
      cases this
  refine ⟨fun e he => ?_, fun k e he => ?_⟩
  · obtain ⟨x, _, rfl⟩ := List.mem_map.mp he
    exact Int.le_refl _
  · have hs : (pt.map fun x => (x, x)).set k (e.1, e.1) = pt.map fun x => (x, x) := by
      rw [List.getElem?_map] at he
      cases hx : pt[k]? with
      | none =>
        rw [hx] at he
        cases he
      | some x =>
        rw [hx] at he
        cases he
        apply List.ext_getElem?
        intro i
        rw [List.getElem?_set]
        split
        · next c =>
          subst c
          rw [List.getElem?_map, hx]
          split
          · rfl
          · next c2 =>
            rw [List.length_map] at c2
            exact absurd (List.getElem?_eq_some_iff.mp hx).1 c2
        · rfl
    have he2 : e.2 = e.1 := by
      rw [List.getElem?_map] at he
      cases hx : pt[k]? with
      | none =>
        rw [hx] at he
        cases he
      | some x =>
        rw [hx] at he
        cases he
        rfl
    unfold held
    rw [he2, hs]
    exact ⟨all, all⟩
/-! ### trimmed pairs -/
def HpOk (ts : List Te) (bx : List (Int × Int)) (j : Nat) (e : Int × Int) : Option (Int × Int) → Prop
  | none => ∀ v, e.1 ≤ v → v ≤ e.2 → held ts bx j v = false
  | some f => Sub f e ∧ held ts bx j f.1 = true ∧ held ts bx j f.2 = true ∧ (∀ v, e.1 ≤ v → v < f.1 → held ts bx j v = false) ∧ (∀ v, f.2 < v → v ≤ e.2 → held ts bx j v = false)
theorem hp_none {ts : List Te} {bx : List (Int × Int)} {j : Nat} {e : Int × Int} (hok : TesOk bx.length ts) (he : bx[j]? = some e) (h : HpOk ts bx j e none) : ∀ T, Tight ts T → ¬ BxSub T bx := fun T hT hs => by
  have hk : j < T.length := by rw [hs.1]; exact (List.getElem?_eq_some_iff.mp he).1
  have x := hs.2 j _ e (List.getElem?_eq_getElem hk) he
  have := h T[j].1 x.1 (Int.le_trans x.2.1 x.2.2)
  rw [held_mono hs hok (hT.2 j _ (List.getElem?_eq_getElem hk)).1] at this
  cases this
theorem hp_keep {ts : List Te} {bx : List (Int × Int)} {j : Nat} {e f : Int × Int} (hok : TesOk bx.length ts) (he : bx[j]? = some e) (h : HpOk ts bx j e (some f)) : Keeps ts bx (bx.set j f) := fun T hT hs => by
  have hk : j < T.length := by rw [hs.1]; exact (List.getElem?_eq_some_iff.mp he).1
  have x := hs.2 j _ e (List.getElem?_eq_getElem hk) he
  obtain ⟨h1, h2⟩ := hT.2 j _ (List.getElem?_eq_getElem hk)
  have g1 := held_mono hs hok h1
  have g2 := held_mono hs hok h2
  obtain ⟨s1, s2, s3, s4, s5⟩ := h
  have c1 : ¬ T[j].1 < f.1 := fun c => by
    rw [s4 _ x.1 c] at g1
    cases g1
  have c2 : ¬ f.2 < T[j].2 := fun c => by
    rw [s5 _ c x.2.2] at g2
    cases g2
  refine ⟨by rw [List.length_set]; exact hs.1, fun i y z h1 h2 => ?_⟩
  rcases get_set h2 with ⟨rfl, rfl⟩ | ⟨c, h3⟩
  · rw [List.getElem?_eq_getElem hk] at h1
    cases h1
    unfold Sub at *
    omega
  · exact hs.2 i y z h1 h3
theorem hp_sub {ts : List Te} {bx : List (Int × Int)} {j : Nat} {e f : Int × Int} (hn : BxNe bx) (he : bx[j]? = some e) (h : Sub f e) : BxSub (bx.set j f) bx := by
  refine ⟨List.length_set, fun i y z h1 h2 => ?_⟩
  rcases get_set h1 with ⟨rfl, rfl⟩ | ⟨c, h3⟩
  · rw [he] at h2
    cases h2
    exact h
  · rw [h3] at h2
    cases h2
    exact ⟨Int.le_refl _, hn _ (List.mem_of_getElem? h3), Int.le_refl _⟩
theorem many_ne : ∀ {bx : List (Int × Int)}, many bx ≠ 0 → BxNe bx
  | [], _ => fun e h => by cases h
  | e :: r, h => fun x hx => by
    rw [many] at h
    have h1 : max 0 (e.2 - e.1 + 1) ≠ 0 := fun z => h (by rw [z, Int.zero_mul])
    have h2 : many r ≠ 0 := fun z => h (by rw [z, Int.mul_zero])
    rcases List.mem_cons.mp hx with rfl | hx
    · omega
    · exact many_ne h2 x hx
theorem many_zero : ∀ {bx : List (Int × Int)}, many bx = 0 → ∃ e ∈ bx, e.2 < e.1
  | [], h => by simp [many] at h
  | e :: r, h => by
    rw [many] at h
    rcases Int.mul_eq_zero.mp h with h | h
    · exact ⟨e, List.mem_cons_self .., by omega⟩
    · obtain ⟨x, hx, hl⟩ := many_zero h
      exact ⟨x, List.mem_cons_of_mem _ hx, hl⟩
theorem zero_none {ts : List Te} {bx : List (Int × Int)} (h : many bx = 0) : IsTight ts bx none := fun T _ hs => by
  obtain ⟨e, he, hl⟩ := many_zero h
  obtain ⟨i, hi, rfl⟩ := List.getElem_of_mem he
  have hi' : i < T.length := by rw [hs.1]; exact hi
  have := hs.2 i _ _ (List.getElem?_eq_getElem hi') (List.getElem?_eq_getElem hi)
  unfold Sub at this
  omega
/-- how wide a box is, its pairs together -/
def total : List (Int × Int) → Nat
  | [] => 0
  | e :: r => (e.2 - e.1).toNat + total r
theorem total_sub : ∀ {a b : List (Int × Int)}, BxSub a b → total a ≤ total b ∧ (total a = total b → a = b)
  | [], [], _ => ⟨Nat.le_refl _, fun _ => rfl⟩
  | [], _ :: _, h => by cases h.1
  | _ :: _, [], h => by cases h.1
  | e :: r, f :: q, h => by
    have h0 := h.2 0 e f rfl rfl
    have hr : BxSub r q := ⟨Nat.succ.inj h.1, fun i x y h1 h2 => h.2 (i + 1) x y h1 h2⟩
    obtain ⟨ih1, ih2⟩ := total_sub hr
    unfold Sub at h0
    rw [total, total]
    refine ⟨by omega, fun hh => ?_⟩
    rw [ih2 (by omega), show e = f from Prod.ext (by omega) (by omega)]
/-! ### boxes as data -/
theorem dpAll_of' {K : PySem.W.Frag} {H : Hp} : ∀ {vs : List V} {ds : List PyData}, vs.length = ds.length → (∀ (i : Nat) v d, vs[i]? = some v → ds[i]? = some d → Dp K H v d) → DpAll K H vs ds
  | [], [], _, _ => .nil
  | v :: vs, d :: ds, hl, h => .cons (h 0 v d rfl rfl) (dpAll_of' (Nat.succ.inj hl) fun i v' d' h1 h2 => h (i + 1) v' d' h1 h2)
def pairD (e : Int × Int) : PyData := .tuple [.int e.1, .int e.2]
def boxD (bx : List (Int × Int)) : PyData := .tuple (bx.map pairD)
theorem eqv_pair (e f : Int × Int) : PyData.eqv (pairD e) (pairD f) = decide (e = f) := by
  unfold pairD
  simp only [PyData.eqv, PyData.eqvAll, Bool.and_true]
  obtain ⟨a, b⟩ := e
  obtain ⟨c, d⟩ := f
  by_cases h1 : a = c
  · by_cases h2 : b = d
    · simp [h1, h2]
    · simp [h1, h2]
  · simp [h1]
theorem eqvAll_map' {α : Type} [DecidableEq α] {D : α → PyData} (h : ∀ a b, PyData.eqv (D a) (D b) = decide (a = b)) : ∀ (xs ys : List α), PyData.eqvAll (xs.map D) (ys.map D) = decide (xs = ys)
  | [], [] => rfl
  | [], _ :: _ => rfl
  | _ :: _, [] => rfl
  | x :: xs, y :: ys => by
    rw [List.map_cons, List.map_cons, PyData.eqvAll, h, eqvAll_map' h xs ys]
    by_cases c1 : x = y
    · by_cases c2 : xs = ys
      · simp [c1, c2]
      · simp [c1, c2]
    · simp [c1]
theorem eqv_box (a b : List (Int × Int)) : PyData.eqv (boxD a) (boxD b) = decide (a = b) := by
  unfold boxD
  show PyData.eqvAll (a.map pairD) (b.map pairD) = _
  exact eqvAll_map' eqv_pair a b
theorem canAll_map {α : Type} {D : α → PyData} (h : ∀ a, PyData.canLay0 (D a) = true) : ∀ xs : List α, PyData.canLayAll0 (xs.map D) = true
  | [] => rfl
  | x :: r => by
    rw [List.map_cons]
    show (PyData.canLay0 (D x) && PyData.canLayAll0 (r.map D)) = true
    rw [h, canAll_map h r]
    rfl
theorem depAll_map {α : Type} {D : α → PyData} {k : Nat} (h : ∀ a, PyData.depth (D a) ≤ k) : ∀ xs : List α, PyData.depthAll (xs.map D) ≤ k
  | [] => Nat.zero_le _
  | x :: r => by
    rw [List.map_cons]
    have := depAll_map h r
    have := h x
    simp only [PyData.depthAll]
    omega
theorem box_shaped (a : List (Int × Int)) : SeqAt.shaped (boxD a) = true := by
  have h1 := canAll_map (D := pairD) (fun e => rfl) a
  have h2 := depAll_map (D := pairD) (k := 1) (fun e => by simp [pairD, PyData.depth, PyData.depthAll]) a
  show (PyData.canLayAll0 (a.map pairD) && decide (PyData.depth (boxD a) ≤ 64)) = true
  rw [h1, Bool.true_and]
  have : PyData.depth (boxD a) ≤ 2 := by
    unfold boxD
    simp only [PyData.depth]
    omega
  exact decide_eq_true (by omega)
theorem BoxAt.dp {K : PySem.W.Frag} {H : Hp} {b : Addr} {bx : List (Int × Int)} (h : BoxAt K H b bx) : Dp K H (.ref b) (boxD bx) := by
  obtain ⟨vs, s, a⟩ := h
  refine .tup s (dpAll_of' (by rw [List.length_map, a.1]) fun i v d h1 h2 => ?_)
  rw [List.getElem?_map] at h2
  cases e : bx[i]? with
  | none =>
    rw [e] at h2
    cases h2
  | some u =>
    rw [e] at h2
    cases h2
    obtain ⟨p, rfl, sp⟩ := a.2 i v u h1 e
    exact .tup sp (dpInts [u.1, u.2])
end Gs

namespace Gs
open PySem PySem.Spec PyProof.Rows L2
/-! ### the points of a box -/
def stretch (ps : List (List Int)) (e : Int × Int) : List (List Int) := ps.flatMap fun p => (List.range (e.2 + 1 - e.1).toNat).map fun (k : Nat) => p ++ [e.1 + (k : Int)]
def ptsOf (bx : List (Int × Int)) : List (List Int) := bx.foldl stretch [[]]
theorem ptsOf_take {bx : List (Int × Int)} {i : Nat} {e : Int × Int} (h : bx[i]? = some e) : ptsOf (bx.take (i + 1)) = stretch (ptsOf (bx.take i)) e := by
  unfold ptsOf
  rw [take_moreP h, List.foldl_append]
  rfl
theorem stretch_len : ∀ (ps : List (List Int)) (e : Int × Int), ((stretch ps e).length : Int) = ps.length * max 0 (e.2 - e.1 + 1)
  | [], e => by simp [stretch]
  | p :: ps, e => by
    have ih := stretch_len ps e
    have h : stretch (p :: ps) e = ((List.range (e.2 + 1 - e.1).toNat).map fun (k : Nat) => p ++ [e.1 + (k : Int)]) ++ stretch ps e := rfl
    rw [h, List.length_append, List.length_map, List.length_range, List.length_cons, Int.natCast_add, ih, Int.natCast_add, Int.add_mul]
    have : ((e.2 + 1 - e.1).toNat : Int) = max 0 (e.2 - e.1 + 1) := by omega
    rw [this]
    omega
theorem fold_len : ∀ (bx : List (Int × Int)) (ps : List (List Int)), ((bx.foldl stretch ps).length : Int) = ps.length * many bx
  | [], ps => by simp [many]
  | e :: r, ps => by
    rw [List.foldl_cons, fold_len r, stretch_len, many, Int.mul_assoc]
theorem ptsOf_len (bx : List (Int × Int)) : ((ptsOf bx).length : Int) = many bx := by
  unfold ptsOf
  rw [fold_len]
  simp
theorem many_pos : ∀ {bx : List (Int × Int)}, BxNe bx → 1 ≤ many bx
  | [], _ => by decide
  | e :: r, h => by
    have h1 := many_pos (bx := r) fun x hx => h x (List.mem_cons_of_mem _ hx)
    have h2 := h e (List.mem_cons_self ..)
    rw [many]
    have : (1 : Int) * 1 ≤ max 0 (e.2 - e.1 + 1) * many r := Int.mul_le_mul (by omega) h1 (by decide) (by omega)
    omega
theorem many_take_le {bx : List (Int × Int)} (h : BxNe bx) (i : Nat) : many (bx.take i) ≤ many bx := by
  have e : many bx = many (bx.take i) * many (bx.drop i) := by rw [← many_append, List.take_append_drop]
  have h1 := many_pos (bx := bx.drop i) fun x hx => h x (List.mem_of_mem_drop hx)
  have := Int.mul_le_mul_of_nonneg_left h1 (many_nn (bx.take i))
  omega
theorem PtIn.consP {x : Int} {pt : List Int} {e : Int × Int} {r : List (Int × Int)} (h : e.1 ≤ x ∧ x ≤ e.2) (k : PtIn pt r) : PtIn (x :: pt) (e :: r) := ⟨by rw [List.length_cons, List.length_cons, k.1], fun i y f h1 h2 => by
  cases i with
  | zero =>
    cases h1
    cases h2
    exact h
  | succ i => exact k.2 i y f h1 h2⟩
theorem fold_mem : ∀ {bx : List (Int × Int)} {ps : List (List Int)} {pt : List Int}, pt ∈ bx.foldl stretch ps → ∃ p0 ∈ ps, ∃ t, pt = p0 ++ t ∧ PtIn t bx
  | [], ps, pt, h => ⟨pt, h, [], by simp, rfl, fun i x e h1 => by cases h1⟩
  | e :: r, ps, pt, h => by
    obtain ⟨p1, h1, t, rfl, ht⟩ := fold_mem (bx := r) h
    obtain ⟨p0, h0, h2⟩ := List.mem_flatMap.mp h1
    obtain ⟨k, hk, rfl⟩ := List.mem_map.mp h2
    have := List.mem_range.mp hk
    exact ⟨p0, h0, (e.1 + (k : Int)) :: t, by simp, ht.consP ⟨by omega, by omega⟩⟩
theorem ptsOf_in {bx : List (Int × Int)} {pt : List Int} (h : pt ∈ ptsOf bx) : PtIn pt bx := by
  obtain ⟨p0, h0, t, rfl, ht⟩ := fold_mem h
  rw [List.mem_singleton.mp h0]
  exact ht
def PtA (K : PySem.W.Frag) (H : Hp) (v : V) (pt : List Int) : Prop := ∃ p, v = .ref p ∧ SqT K H p (pt.map V.int)
theorem PtA.mono {K : PySem.W.Frag} {H H' : Hp} {v : V} {pt : List Int} (h : PtA K H v pt) (k : ∀ a xs, SqT K H a xs → SqT K H' a xs) : PtA K H' v pt := by
  obtain ⟨p, h1, h2⟩ := h
  exact ⟨p, h1, k _ _ h2⟩
abbrev PtsAt' (K : PySem.W.Frag) (H : Hp) (vs : List V) (ps : List (List Int)) : Prop := AllAt (PtA K H) vs ps
theorem ptsA_mono {K : PySem.W.Frag} {H H' : Hp} {vs : List V} {ps : List (List Int)} (h : AllAt (PtA K H) vs ps) (k : ∀ a xs, SqT K H a xs → SqT K H' a xs) : AllAt (PtA K H') vs ps := h.mono fun _ _ x => x.mono k
def okAt (ts : List Te) (pt : List Int) : Bool := ts.all fun t => hold (pt.map some) t
theorem stretch_more {ps : List (List Int)} {j : Nat} {p : List Int} {e : Int × Int} (h : ps[j]? = some p) : stretch (ps.take (j + 1)) e = stretch (ps.take j) e ++ (List.range (e.2 + 1 - e.1).toNat).map fun (k : Nat) => p ++ [e.1 + (k : Int)] := by
  unfold stretch
  rw [take_moreP h, List.flatMap_append]
  simp
theorem stretch_le {ps : List (List Int)} {e : Int × Int} (h : e.1 ≤ e.2) {j : Nat} : (stretch (ps.take j) e).length ≤ (stretch ps e).length := by
  have e1 : stretch ps e = stretch (ps.take j) e ++ stretch (ps.drop j) e := by
    unfold stretch
    rw [← List.flatMap_append, List.take_append_drop]
  rw [e1, List.length_append]
  omega
end Gs

namespace Gs
open PySem PySem.Spec PyProof.Rows L2
/-! ### enumerate(a tuple) -/
set_option maxHeartbeats 1000000 in
theorem en_new {x : Value} {ob : Obj} {C : Heap → Prop} (B : Begins x ob C) :
    Meets (Builtin.«enumerate.__new__» ⟨[.type "enumerate", x], []⟩) (fun _ R st => C st.heap ∧
      R (.ok (.ret (.ref (st.heap.push ob).objs.size))) { st with heap := (st.heap.push ob).push { cls := .type "enumerate", data := .fields #[.none, .bool false, .ref st.heap.objs.size, rawInt 0, .none, .none] } }) :=
  .of_wp fun prog w A R st ho => by
    obtain ⟨g0, gn, dr, tk, os⟩ := st
    obtain ⟨c1, c2⟩ := ho
    have hsub := sub_enumerate
    have qq : ∀ {A' : Around} {E : Value → Shared → Prop} {Q : Value → Shared → Prop}, Q (.ref g0.objs.size) ⟨g0.push ob, gn, dr, tk, os⟩ → wpAny (model prog w) A' (pyIter x) Q E ⟨g0, gn, dr, tk, os⟩ :=
      fun q => B.iter prog w _ _ ⟨g0, gn, dr, tk, os⟩ _ c1 q
    wp_walk using qq
    refine wpAny_stack_any fun _ => wpAny_pure ?_
    split
    · rename_i cc _ _ _ _ _
      cases (cc == Value.type "enumerate")
      · wp_walk using qq
        exact ⟨_, rfl, c2⟩
      · wp_walk using qq
        exact ⟨_, rfl, c2⟩
    · wp_walk using qq
      exact ⟨_, rfl, c2⟩
section
variable {prog : Program} {w : World} {A : Around} {E : Value → Shared → Prop} {s : Shared}
theorem en_call {x : Value} {ob : Obj} {C : Heap → Prop} {Q : Value → Shared → Prop} (B : Begins x ob C) (c1 : C s.heap)
    (q : ∀ g, IsEnum g (s.heap.objs.size + 1) s.heap.objs.size 0 .none → g.get? s.heap.objs.size = some ob → (∀ b o, s.heap.get? b = some o → g.get? b = some o) → Q (.ref (s.heap.objs.size + 1)) { s with heap := g }) :
    wpAny (model prog w) A (call (.type "enumerate") [x]) Q E s := by
  refine callType_new F.called_enumerate (by decide) (F.typeCall_enumerate_1 _) (F.newCall_enumerate_1 _) (fun obj => F.args_object_init_2 obj _) F.entry_enumerate_new (en_new B) ⟨c1, ?_⟩
  have ez : (s.heap.push ob).objs.size = s.heap.objs.size + 1 := Heap.size_push ..
  show _ ∧ _
  rw [ez]
  have ie : IsEnum ((s.heap.push ob).push { cls := .type "enumerate", data := .fields #[.none, .bool false, .ref s.heap.objs.size, rawInt 0, .none, .none] }) (s.heap.objs.size + 1) s.heap.objs.size 0 .none := by
    have h := Heap.get?_push_size (s.heap.push ob) (o := { cls := .type "enumerate", data := .fields #[.none, .bool false, .ref s.heap.objs.size, rawInt 0, .none, .none] }) rfl
    rw [ez] at h
    exact h
  exact ⟨⟨_, ie, rfl⟩, q _ ie (Heap.get?_push_of_some _ (Heap.get?_push_size _ B.free)) fun b o h => Heap.get?_push_of_some _ (Heap.get?_push_of_some _ h)⟩
end
def IteT (K : PySem.W.Frag) (a : Addr) : It := ⟨fun n H => ∃ (xs : List V) (x : V), SqT K H a xs ∧ xs[n]? = some x,
  fun n H v H' => ∃ T x, v = .ref T ∧ H T = none ∧ H' = upd H T (.tup [.int (n : Nat), x]) ∧ ∀ xs, SqT K H a xs → xs[n]? = some x, fun n H => ∃ xs : List V, SqT K H a xs ∧ xs.length ≤ n⟩
theorem turn_enumT {P : Program} {w : World} {K : PySem.W.Frag} {elts : List PySem.Expr} {kk : Nat} {tpos : Pos} (a e it : Addr) :
    Turn P w K (.Tuple elts kk tpos) (IteT K a) [e, it] e (fun n h => (∃ old, IsEnum h e it ((n : Nat) : Int) old) ∧ h.IsTupleIter it a n ∧ e ≠ it) where
  mem := by simp
  obj := fun n h st b hb => by
    obtain ⟨⟨old, he⟩, ⟨o, ho, _, hd⟩, _⟩ := st
    rcases (by simpa using hb : b = e ∨ b = it) with rfl | rfl
    · exact ⟨_, he, fun v q => nomatch q⟩
    · exact ⟨o, ho, fun v q => by rw [hd] at q; cases q⟩
  keep := fun n h h' st k => by
    obtain ⟨⟨old, he⟩, ⟨o, ho, r⟩, hne⟩ := st
    exact ⟨⟨old, k e (by simp) _ he⟩, ⟨o, k it (by simp) o ho, r⟩, hne⟩
  item := by
    intro X hP hw hK hc n pins s σ H E I hf st hg
    subst hP hw hK
    obtain ⟨⟨old, he⟩, hit, hne⟩ := st
    obtain ⟨xs, x, hq, hx⟩ := hg
    obtain ⟨its, rv, p, hz⟩ := I.tuple hq
    obtain ⟨u, hu, ru⟩ := rv.get hx
    have pt : s.heap.IsTuple a its.toArray := p
    have nea : a ≠ it := fun z => by
      subst z
      obtain ⟨o1, h1, c1, _⟩ := pt
      obtain ⟨o2, h2, c2, _⟩ := hit
      rw [h1] at h2
      cases h2
      rw [c1] at c2
      exact absurd c2 (by decide)
    have nee : e ≠ a := fun z => by
      subst z
      obtain ⟨o1, h1, c1, _⟩ := pt
      rw [he] at h1
      cases h1
      have c2 : Value.type "enumerate" = .type "tuple" := c1
      exact absurd c2 (by decide)
    have il : it < s.heap.objs.size := by obtain ⟨_, q, _⟩ := hit; exact Heap.lt_size q
    have el : e < s.heap.objs.size := Heap.lt_size he
    have un : n < its.toArray.size := by
      have := (List.getElem?_eq_some_iff.mp hu).1
      simpa using this
    refine wpAny_pyNext_enum_itemD (Draws.tuple (A := X.A.in1) (show X.A.in1.handled = none from I.ok.hd hc) it a nea its.toArray) he ⟨hit, pt⟩ un hne (by simp [hne, nee]) fun y g tk hy ho st2 hT _ hk => ?_
    have ey : y = u := by
      have h1 : its.toArray[n]? = some u := by simpa using hu
      rw [h1] at hy
      exact (Option.some.inj hy).symm
    subst ey
    refine ⟨_, rfl, wpAny_letOwnedTupleGo_enum (s := { s with heap := g, toks := tk + 1 }) ho fun g2 he2 sb => ?_⟩
    have hT2 : g2.get? s.heap.objs.size = some { cls := .type "tuple", data := .seq #[.int n tk, y] } := (sb.2 _ (Nat.ne_of_gt el)).trans hT
    have nw : ObjOk X.prog X.w (upd H s.heap.objs.size (.tup [.int (n : Nat), x])) g2 s.heap.objs.size (.tup [.int (n : Nat), x]) :=
      ⟨by show 2 ≤ sizeLine; decide, [.int n tk, y], .cons ⟨_, rfl⟩ (.cons ru .nil), ⟨_, hT2, rfl, _, rfl⟩⟩
    have I1 : Inv X pins σ (upd H s.heap.objs.size (.tup [.int (n : Nat), x])) { s with heap := g2, toks := tk + 1 } :=
      I.turnedNew (ch := [e, it]) (fun b ob hb q => (sb.2 b (fun h => hb (by simp [h]))).trans (hk b ob (fun h => hb (by simp [h])) (fun h => hb (by simp [h])) q)) hf (Nat.le_refl _) nw
    refine ⟨.ref s.heap.objs.size, _, I1, rfl, ⟨_, x, rfl, I.hok.fresh (Nat.le_refl _), rfl, fun ys hys => by rw [I.tuple_inj hys hq]; exact hx⟩, ⟨⟨y, ?_⟩, ?_, hne⟩, fun b hb => ?_⟩
    · rw [show ((n + 1 : Nat) : Int) = (n : Int) + 1 by omega]
      exact he2
    · obtain ⟨oi, hoi, r⟩ := st2.1
      exact ⟨oi, (sb.2 it (Ne.symm hne)).trans hoi, r⟩
    · have lt : b < s.heap.objs.size := by
        rcases (by simpa using hb : b = e ∨ b = it) with rfl | rfl
        · exact el
        · exact il
      rw [upd_ne (Nat.ne_of_lt lt)]
      exact (hf b hb).1
  done := by
    intro X hP hw hK hc n pins s σ H E I hf st hg
    subst hP hw hK
    obtain ⟨⟨old, he⟩, hit, hne⟩ := st
    obtain ⟨xs, hq, hx⟩ := hg
    obtain ⟨its, rv, p, hz⟩ := I.tuple hq
    have pt : s.heap.IsTuple a its.toArray := p
    have hl := rv.length
    obtain ⟨f0, f1, f2, f3, f4, f5⟩ := hf it (by simp)
    have hT : s.TypeIs (.ref e) "enumerate" := ⟨_, he, rfl⟩
    unfold pyNext
    refine wpAny_bind (wpAny_attempt (wpAny_callSpecial?_slot (name := Str.ofString "__next__") hT F.slot_enumerate_next (wpAny_call_entry F.slot_enumerate_next hT F.entry_enumerate_next ?_ (F.args_enumerate_next_1 _))))
    show wpAny _ _ (field (.ref e) 2 >>= _) _ _ _
    refine wpAny_bind (wpAny_field he rfl (x := .ref it) rfl (wpAny_bind (wpAny_nextOf_tuple_end (I.ok.hd hc) hit pt (by simp; omega) fun g y eb hy => ?_)))
    obtain ⟨oy, hoy, hcy⟩ := hy
    exact wpAny_bind (wpAny_isInstance (T := "StopIteration") (b := true) ⟨oy, hoy, hcy⟩ isSubtype_stop (wpAny_pure ⟨rfl, I.turned (t' := s.toks) (fun b o hb q => eb b o hb q) f0 f1 f3 f4 f5⟩))
  self := fun A n s Q E st h => by
    obtain ⟨⟨_, he⟩, _⟩ := st
    exact wpAny_pyIter_enum he h
def iEnumT (K : PySem.W.Frag) (te : TA) : TI := fun σ H R => te σ H fun vs H1 => ∃ a xs, vs = [.ref a] ∧ SqT K H1 a xs ∧ R (IteT K a) H1
theorem pi_enumT {X : Cx} {e : PySem.Expr} {ta : TA} {p pos tpos : Pos} {elts : List PySem.Expr} {kk : Nat} (hg : Gl X "enumerate") (hm : X.mg "enumerate" = none) (ha : PA X [e] ta) (hs : starEach [e] X.env = [(false, eval e X.env)] := by rfl) :
    PI X (.Tuple elts kk tpos) (.Call (.Name "enumerate" p) [e] [] pos) (iEnumT X.K ta) := by
  refine ⟨fun pins s σ H R I h => ?_⟩
  refine Call_ (ld_blt I hg hm boot_enumerate (PyProof.Rows.callWith_type1 (thn (ha.run pos pins s σ H _ I h) fun us s1 ⟨vs, H1, I1, r1, q1⟩ => ?_) hs rfl))
  obtain ⟨a, xs, rfl, hq, q⟩ := q1
  obtain ⟨u, rfl, ru⟩ := r1.one
  cases ru
  obtain ⟨its, rv, p', hz⟩ := I1.tuple hq
  have pt : s1.heap.IsTuple a its.toArray := p'
  refine en_call (begins_tuple a its.toArray) pt fun g he hit hk => wpAny_pyIter_enum he ?_
  have I2 : Inv X pins σ H1 { s1 with heap := g } := I1.kept (t' := s1.toks) hk
  refine ⟨s1.heap.objs.size + 1, [s1.heap.objs.size + 1, s1.heap.objs.size], _, _, H1, rfl, I2, turn_enumT a (s1.heap.objs.size + 1) s1.heap.objs.size, ⟨⟨.none, he⟩, ⟨_, hit, rfl, rfl⟩, Nat.succ_ne_self _⟩, fun b hb => ?_, q⟩
  have le : s1.heap.objs.size ≤ b := by
    rcases (by simpa using hb : b = s1.heap.objs.size + 1 ∨ b = s1.heap.objs.size) with rfl | rfl
    · exact Nat.le_add_right _ _
    · exact Nat.le_refl _
  exact I1.fpOk le (I1.hok.fresh le)
theorem x_enumT {K : PySem.W.Frag} {σ : L2.St} {H : Hp} {ta : TA} {R : It → Hp → Prop} (q : ta σ H fun vs H1 => ∃ a xs, vs = [.ref a] ∧ SqT K H1 a xs ∧ R (IteT K a) H1) : iEnumT K ta σ H R := q
theorem x_forET {K : PySem.W.Frag} {σ : L2.St} {H : Hp} {g : TG} {tb : TS} {a : Addr} {xs : List V} {X : L2.St → Hp → Prop} {rt : VK} (Pv : Nat → L2.St → Hp → Prop) (hS : SqT K H a xs) (h0 : Pv 0 σ H) (hl : ∀ i σ H, i ≤ xs.length → Pv i σ H → SqT K H a xs)
    (hs : ∀ i x σ H T, xs[i]? = some x → Pv i σ H → H T = none → g (.ref T) σ (upd H T (.tup [.int (i : Int), x])) fun σ2 H2 => tb { nx := Pv (i + 1), rt := rt, bk := X, ct := Pv (i + 1) } σ2 H2) (hd : ∀ σ H, Pv xs.length σ H → X σ H) :
    ∃ b ys, [V.ref a] = [V.ref b] ∧ SqT K H b ys ∧ ∃ W : Nat → Nat → L2.St → Hp → Prop, (∃ m, W 0 m σ H) ∧ ∀ i m σ H, W i m σ H →
      ((IteT K b).stop i H ∧ X σ H) ∨ ((IteT K b).go i H ∧ ∃ N : L2.St → Hp → Prop, (∀ σ' H', N σ' H' → ∃ m', m' < m ∧ W (i + 1) m' σ' H') ∧ ∀ x H', (IteT K b).yld i H x H' → g x σ H' fun σ2 H2 => tb { nx := N, rt := rt, bk := X, ct := N } σ2 H2) := by
  refine ⟨a, xs, rfl, hS, fun i m σ H => i + m = xs.length ∧ Pv i σ H, ⟨xs.length, Nat.zero_add _, h0⟩, ?_⟩
  rintro i m σ H ⟨em, p⟩
  have sq := hl i σ H (by omega) p
  by_cases c : i < xs.length
  · refine .inr ⟨⟨xs, xs[i], sq, List.getElem?_eq_getElem c⟩, Pv (i + 1), fun σ' H' p' => ⟨m - 1, by omega, by omega, p'⟩, ?_⟩
    rintro x H' ⟨T, y, rfl, hT, rfl, hy⟩
    exact hs i y σ H T (hy xs sq) p hT
  · obtain rfl : i = xs.length := by omega
    exact .inl ⟨⟨xs, sq, Nat.le_refl _⟩, hd σ H p⟩
end Gs

namespace Gs
open PySem PySem.Spec PyProof.Rows L2
/-! ### an own exception class without own __init__: raised with nothing, caught by a class above it -/
def errM : List Value := [.type "ValueError", .type "Exception", .type "BaseException", .type "object"]
theorem pmk_own0 {X : Cx} {C : Addr} {x : Str} {p pos : Pos} (q : PySem.W.excIn X.K C errM "ValueError.__new__" = true) (gC : X.mg x = some (.ref C)) (kC : PySem.W.keepIn X.K (.ref C) = true) (r : Raises X (.ref C)) (hg : Gl X x)
    (hdb : (x == ("__debug__" : Str)) = false := by decide) : PMk X (.Call (.Name x p) [] [] pos) (fun _ H Q => Q (.ref C) none H) := by
  intro pins s σ H Q I h
  refine wpAny_Call_Name_kw (ld_glob I hg gC ?_ hdb)
  refine PySem.W.callWith_K0 I.kIn kC ?_
  obtain ⟨g0, gn, dr, tk, os⟩ := s
  obtain ⟨bm, N, nm, qn, bs, hdct, sn, sub, ab, col, dd, k0, k1, k2, k3, k5, mN, hC, hN, hni, T⟩ := exc_obj I.kIn q
  show wpAny _ _ (call (.ref C) []) _ _ _
  exact wpAny_call_exc_subT PySem.F.excBase_ValueError T hC hN hni (fun h' e hm => mk_of I hm r h (I.hok.gone hm.new)) (Nat.zero_le _)
structure OpenC (K : PySem.W.Frag) (mg : Str → Option Value) (O G R : Addr) : Prop where
  mO : mg "Open" = some (.ref O)
  mG : mg "GoalError" = some (.ref G)
  mR : mg "Round" = some (.ref R)
  ex : PySem.W.excIn K O errM "ValueError.__new__" = true
  kO : PySem.W.keepIn K (.ref O) = true
  sub : PySem.W.subIn K (.ref O) (.type "BaseException") = some true
  ty : PySem.W.typeIn K (.ref O) = some (.type "type")
  ec : ExcC K O
  exm : PySem.W.exmOne K (.ref O) (.ref G) = some true
  iO : PySem.W.kitOne K (.ref O) (.ref O) = some true
  iV : PySem.W.kitOne K (.ref O) (.type "ValueError") = some true
  iR : PySem.W.kitOne K (.ref O) (.ref R) = some false
theorem ps_raise0 {X : Cx} {W : WX} {O G R : Addr} {p pos pos2 : Pos} (C : OpenC X.K X.mg O G R) (hc : X.calm = true) (tk : Takes X W) (hg : Gl X "Open" := by rfl) : PS X (.Raise (some (.Call (.Name "Open" p) [] [] pos)) none pos2) (fun _ σ H => W (.ref O) none σ H) :=
  ps_raise hc tk (pmk_own0 C.ex C.mO C.kO (raises_own C.sub C.ty) hg)
/-- what the suite says where the class is known -/
def tsD (D : Addr) (ts : Addr → TS) : Addr → Value → Option Addr → TS := fun a cls d En σ H => cls = .ref D ∧ d = none ∧ ts a En σ H
theorem ps_try_asD {X : Cx} {x n : Str} {c : Value} {i : Nat} {D : Addr} {body suite : List Stmt} {b₀ : Stmt} {np pos pos' : Pos} {tb : WX → TS} {ts : Addr → TS} (hs : X.stack = X.env :: X.outer) (hf : X.env.frame = some X.env.locals) (hN : X.N.Nodup) (hi : X.N[i]? = some n) (hln : X.env.kindOf n = some .local) (hc : Names X x c)
    (hb : ∀ (W : WX) (pn : List (Addr × Obj)) (xe : Value → Shared → Prop), Takes (X.tr pn xe) W → PassesOwn (model X.prog X.w) X.A X.env xe → PSs (X.tr pn xe) body (tb W))
    (hsu : ∀ (a : Addr) (oe : Obj) (pn : List (Addr × Obj)), Zc (.ref D) none oe → (∃ vs, oe.data = .fields vs) → PSs (X.suite a ((a, oe) :: pn)) (b₀ :: suite) (ts a)) :
    PS X (.Try body [.ExceptHandler (some (.Name x np)) (some n) (b₀ :: suite) pos'] [] [] pos) (fun Dn σ H => tb (wAs X.K c i (tsD D ts) (fun _ _ _ _ => False) Dn) Dn σ H) :=
  ps_try_as hs hf hN hi hln hc takes0 hb fun a oe cls d pn hz hf => ⟨fun pins s σ H En I h => by
    obtain ⟨e1, e2, h⟩ := h
    subst e1 e2
    exact (hsu a oe pn hz hf).run pins s σ H En I h⟩
theorem pe_globR {X : Cx} {x : Str} {p : Pos} {C : Addr} (hg : Gl X x) (hm : X.mg x = some (.ref C)) (hd : (x == ("__debug__" : Str)) = false := by decide) : PE X (.Name x p) (tC (.ref C)) := pe_glob (v := .ref C) hg hm rfl hd
theorem x_isE {K : PySem.W.Frag} {H : Hp} {Q : VK} {D a C : Addr} {b : Bool} (h : PySem.W.kitOne K (.ref D) (.ref C) = some b) (q : Q (.bl b) H) : rIsE K D a [.ref a, .ref C] H Q := ⟨.ref C, .ref C, b, rfl, fun _ h => h, h, q⟩
theorem x_isET {K : PySem.W.Frag} {H : Hp} {Q : VK} {D a : Addr} {T : String} {b : Bool} (h : PySem.W.kitOne K (.ref D) (.type T) = some b) (q : Q (.bl b) H) : rIsE K D a [.ref a, .ty T] H Q := ⟨.ty T, .type T, b, rfl, fun _ h => h, h, q⟩
end Gs

namespace Gs
open PySem PySem.Spec PyProof.Rows L2
/-! ### max(xs, default=d) of a list of ints -/
section
variable {prog : Program} {w : World} {A : Around} {R : Result → Shared → Prop} {it : Addr} {fp wr : List Addr} {n : Nat} {P : Nat → Value → Prop} {St : Nat → Heap → Prop}
set_option maxHeartbeats 1000000 in
theorem mxd_loop (Wk : Walks prog w A.in1 it fp wr n P St) (bt : Nat → Nat → Bool) (hc : CmpOf prog w A.in1 .Gt P bt) (B : Addr) (hB : B ∉ fp) (ky : Str) (d : Value) :
    ∀ (m j : Nat) (z : Shared) (arr : Array Value) (c : Nat), n - j = m → j ≤ n → St j z.heap → ((j = 0 ∧ arr = #[]) ∨ ∃ vb, 0 < j ∧ P (argBest bt (j - 1)) vb ∧ arr = #[vb, vb]) →
    z.heap.get? B = some { cls := .type "list", dict := none, data := .seq arr c, slots := #[] } →
    (∀ v h' tk, ((n = 0 ∧ v = d) ∨ (0 < n ∧ P (argBest bt (n - 1)) v)) → (∀ b o, b ∉ wr → b ≠ B → z.heap.get? b = some o → h'.get? b = some o) → R (.ok (.ret v)) { z with heap := h', toks := tk }) →
    codeAny (model prog w) A (.builtin "max.loop" ⟨[.ref it, .none, .ref B], [(ky, d)]⟩) R z := by
  have hBw : B ∉ wr := fun h => hB (Wk.sub _ h)
  have nm : (toString "max" ++ toString ".loop" : String) = "max.loop" := by decide
  intro m
  induction m with
  | zero =>
    intro j z arr c hk hj hst hP hS hR
    have hjn : j = n := by omega
    subst hjn
    refine codeAny_builtin F.entry_max_loop ?_
    rw [Around.under_plainId F.plain_max_loop _]
    show wpAny _ A.in1 (seqItems? (.ref B) >>= _) _ _ z
    refine wpAny_bind (wpAny_seqItems hS rfl ?_)
    show wpAny _ A.in1 (tryCatch (pyNext (.ref it)) _ >>= _) _ _ z
    refine wpAny_bind (wpAny_tryCatch (Wk.done z _ _ hst fun h2 tk hkp => ?_))
    have hS2 := hkp B _ hBw hS
    rcases hP with ⟨h0, rfl⟩ | ⟨vb, h0, hb, rfl⟩
    · show wpAny _ A.in1 (rule _ >>= _) _ _ _
      refine wpAny_bind (wpAny_rule (wpAny_pure ?_))
      exact hR d _ tk (.inl ⟨h0, rfl⟩) fun b o hbw _ e => hkp b o hbw e
    · show wpAny _ A.in1 (updateSeq B (fun _ => #[]) >>= _) _ _ _
      refine wpAny_bind ?_
      refine wpAny_updateSeq hS2 rfl (wpAny_bind (wpAny_letGo (wpAny_pure ?_)))
      exact hR vb _ tk (.inr ⟨h0, hb⟩) fun b o hbw hbB e => (Heap.get?_update_other _ _ (Ne.symm hbB)).trans (hkp b o hbw e)
  | succ m ih =>
    intro j z arr c hk hj hst hP hS hR
    have hlt : j < n := by omega
    refine codeAny_builtin F.entry_max_loop ?_
    rw [Around.under_plainId F.plain_max_loop _]
    show wpAny _ A.in1 (seqItems? (.ref B) >>= _) _ _ z
    refine wpAny_bind (wpAny_seqItems hS rfl ?_)
    show wpAny _ A.in1 (tryCatch (pyNext (.ref it)) _ >>= _) _ _ z
    refine wpAny_bind (wpAny_tryCatch (Wk.item j z _ _ hlt hst fun v h2 tk hPv hst2 hkp => ?_))
    have hS2 := hkp B _ hBw hS
    rcases hP with ⟨h0, rfl⟩ | ⟨vb, h0, hb, rfl⟩
    · show wpAny _ A.in1 (updateSeq B (fun _ => #[v, v]) >>= _) _ _ _
      refine wpAny_bind ?_
      refine wpAny_updateSeq hS2 rfl ?_
      rw [nm]
      subst h0
      refine wpAny_pure ⟨plainId_quiet F.plain_max_loop _, ih 1 _ _ _ (by omega) (by omega) (Wk.frame _ _ _ hst2 fun b hbf o e => (Heap.get?_update_other _ _ (fun h : B = b => hB (by rw [h]; exact hbf))).trans e) (.inr ⟨v, by omega, hPv, rfl⟩) (Heap.get?_update_self _ hS2 rfl) fun v3 h3 tk3 hP3 hk3 => ?_⟩
      exact hR v3 h3 tk3 hP3 fun b o hbw hbB e => hk3 b o hbw hbB ((Heap.get?_update_other _ _ (Ne.symm hbB)).trans (hkp b o hbw e))
    · show wpAny _ A.in1 (tryCatch (holding [v, v] (richCompare .Gt v vb >>= _)) _ >>= _) _ _ _
      refine wpAny_bind (wpAny_tryCatch (wpAny_holding (wpAny_bind (hc j (argBest bt (j - 1)) v vb _ _ _ hPv hb (wpAny_bind (wpAny_holding (wpAny_truthy_bool (wpAny_bind (wpAny_letGo (wpAny_pure ?_))))))))))
      obtain ⟨j, rfl⟩ : ∃ i, j = i + 1 := ⟨j - 1, by omega⟩
      rw [Nat.add_sub_cancel] at hb ⊢
      cases hbt : bt (j + 1) (argBest bt j) with
      | true =>
        simp only [if_true]
        refine wpAny_bind ?_
        refine wpAny_updateSeq hS2 rfl (wpAny_bind (wpAny_letGo ?_))
        rw [nm]
        refine wpAny_pure ⟨plainId_quiet F.plain_max_loop _, ih (j + 2) _ _ _ (by omega) (by omega) (Wk.frame _ _ _ hst2 fun b hbf o e => (Heap.get?_update_other _ _ (fun h : B = b => hB (by rw [h]; exact hbf))).trans e) (.inr ⟨v, by omega, by show P (argBest bt (j + 1)) v; simp only [argBest, hbt, if_true]; exact hPv, rfl⟩) (Heap.get?_update_self _ hS2 rfl) fun v3 h3 tk3 hP3 hk3 => ?_⟩
        exact hR v3 h3 tk3 hP3 fun b o hbw hbB e => hk3 b o hbw hbB ((Heap.get?_update_other _ _ (Ne.symm hbB)).trans (hkp b o hbw e))
      | false =>
        simp only [Bool.false_eq_true, if_false]
        refine wpAny_bind (wpAny_letGo ?_)
        rw [nm]
        refine wpAny_pure ⟨plainId_quiet F.plain_max_loop _, ih (j + 2) _ _ c (by omega) (by omega) hst2 (.inr ⟨vb, by omega, by show P (argBest bt (j + 1)) vb; simp only [argBest, hbt, Bool.false_eq_true, if_false]; exact hb, rfl⟩) hS2 fun v3 h3 tk3 hP3 hk3 => ?_⟩
        exact hR v3 h3 tk3 hP3 fun b o hbw hbB e => hk3 b o hbw hbB (hkp b o hbw e)
end
section
variable {prog : Program} {w : World} {A : Around} {E : Value → Shared → Prop} {s : Shared}
theorem mxd_call {x d : Value} {Q : Value → Shared → Prop}
    (h : wpAny (model prog w) A.in1 (pyIter x) (fun i z => ∃ it fp wr n P St bt, i = .ref it ∧ Walks prog w A.in1 it fp wr n P St ∧ St 0 z.heap ∧ (∀ b ∈ fp, b < z.heap.objs.size) ∧ CmpOf prog w A.in1 .Gt P bt ∧
      ∀ v h' tk, ((n = 0 ∧ v = d) ∨ (0 < n ∧ P (argBest bt (n - 1)) v)) → (∀ b o, b ∉ wr → z.heap.get? b = some o → h'.get? b = some o) → Q v { z with heap := h', toks := tk }) E s) :
    wpAny (model prog w) A (call (.builtin "max") [x] [(Str.ofString "default", d)]) Q E s := by
  have nm : (toString "max" ++ toString ".loop" : String) = "max.loop" := by decide
  refine wpAny_call (codeAny_call_builtin F.plain_max F.entry_max ?_)
  have hbody : wpAny (model prog w) A.in1 (Builtin.max ⟨[x], [(Str.ofString "default", d)]⟩) (fun fin s' => match fin with
      | .done f => (match (Except.ok f : Result) with | .ok (.ret v) => Q v s' | .ok _ => False | .error e => E e s')
      | .again c' => c'.quiet = true ∧ codeAny (model prog w) A c' (fun r s' => match r with | .ok (.ret v) => Q v s' | .ok _ => False | .error e => E e s') s') E s := by
    show wpAny _ A.in1 (Builtin.Builtins.bindParams "max" ["key", "default"] 0 ⟨[], [(Str.ofString "default", d)]⟩ >>= _) _ _ s
    refine wpAny_bind (wpAny_of_eq (show Builtin.Builtins.bindParams "max" ["key", "default"] 0 ⟨[], [(Str.ofString "default", d)]⟩ = pure [none, some d] from by rfl) ?_)
    refine wpAny_bind (wpAny_pure ?_)
    refine wpAny_bind (wpAny_mono h (fun i z hz => ?_) fun _ _ e => e)
    obtain ⟨it, fp, wr, n, P, St, bt, rfl, Wk, hst, hfp, hc, hQ⟩ := hz
    refine wpAny_bind (wpAny_newObj_type ?_)
    have hB : z.heap.objs.size ∉ fp := fun hm => Nat.lt_irrefl _ (hfp _ hm)
    rw [nm]
    refine wpAny_pure ⟨plainId_quiet F.plain_max_loop _, mxd_loop Wk bt hc z.heap.objs.size hB _ d n 0 _ #[] 0 (Nat.sub_zero n) (Nat.zero_le n) (Wk.frame _ _ _ hst fun b _ o e => Heap.get?_push_of_some _ e) (.inl ⟨rfl, rfl⟩) (Heap.get?_push_size _ rfl) fun v h' tk hP hk => ?_⟩
    exact hQ v h' tk hP fun b o hbw e => hk b o hbw (Nat.ne_of_lt (Heap.lt_size e)) (Heap.get?_push_of_some _ e)
  simp only [checkBuiltinCall, F.kind_max]
  cases hsig : Manifest.signature? "max" with
  | none => exact wpAny_pure hbody
  | some sig =>
    have ha : argsOk "max" ⟨[x], [(Str.ofString "default", d)]⟩ := by unfold argsOk; kernel_rfl
    have ha2 : Bind.checkArgs "max" sig ⟨[x], [(Str.ofString "default", d)]⟩ = pure () := by simpa only [argsOk, hsig] using ha
    simp only [ha2]
    exact wpAny_pure hbody
end
section
variable {prog : Program} {w : World} {A : Around} {E : Value → Shared → Prop} {s : Shared}
theorem mxd_ints {l : Addr} {us : List Value} {ns : List Int} {d : Value} {Q : Value → Shared → Prop} (hh : A.handled = none) (hl : s.heap.IsList l us.toArray) (hi : IntsAre us ns)
    (q0 : ns = [] → ∀ h' tk, (∀ b o, s.heap.get? b = some o → h'.get? b = some o) → Q d { s with heap := h', toks := tk })
    (q : ∀ h' tk (M : Int) t', (∀ b o, s.heap.get? b = some o → h'.get? b = some o) → M ∈ ns → (∀ a, a ∈ ns → a ≤ M) → Q (.int M t') { s with heap := h', toks := tk }) : wpAny (model prog w) A (call (.builtin "max") [.ref l] [(Str.ofString "default", d)]) Q E s := by
  obtain ⟨zs, ez⟩ := hi.allInts.items
  have en : numsOf (intItems zs).toList = ns := by rw [← ez]; exact hi.numsOf
  rw [nums_intItems] at en
  subst en
  rw [ez] at hl
  refine mxd_call (iter_intList hl fun z e st hfp hne => ?_)
  subst e
  refine ⟨_, _, _, _, _, _, _, rfl, Walks.list (A := A.in1) hh _ l hne (intItems zs), st, hfp, CmpOf.ints_gt (numAt zs) (fun _ _ => intItems_at), fun v h' tk hP hk => ?_⟩
  have sz : (intItems zs).size = zs.size := by simp [intItems]
  rw [sz] at hP
  rcases hP with ⟨hn, rfl⟩ | ⟨hn, hv⟩
  · refine q0 ?_ h' tk (old_kept hk)
    have : zs.toList = [] := List.length_eq_zero_iff.mp (by rw [Array.length_toList]; exact hn)
    rw [this]
    rfl
  · obtain ⟨t, rfl⟩ := intItems_at hv
    obtain ⟨g1, g2⟩ := argBest_gt (numAt zs) (zs.size - 1)
    refine q h' tk _ t (old_kept hk) ?_ fun a ha => ?_
    · rw [numAt_eq]
      exact PySem.getD_mem (by rw [List.length_map, Array.length_toList]; omega)
    · obtain ⟨j, hj, rfl⟩ := mem_getD ha
      rw [List.length_map, Array.length_toList] at hj
      rw [← numAt_eq]
      exact g2 j (by omega)
end
def rMaxDef (K : PySem.W.Frag) : List V → List V → Hp → VK → Prop := fun vs zs H Q => ∃ (a : Addr) (ns : List Int) (d : V), vs = [.ref a] ∧ zs = [d] ∧ SqL K H a (ns.map V.int) ∧ (ns = [] → Q d H) ∧ ∀ m : Int, m ∈ ns → (∀ y, y ∈ ns → y ≤ m) → Q (.int m) H
theorem cr_maxDef {X : Cx} {K : PySem.W.Frag} (hc : X.calm = true) (h : X.K = K := by rfl) : CallRK X (.builtin "max") [Str.ofString "default"] (rMaxDef K) := by
  subst h
  intro pins s σ H vs zs us ws Q I r rz hh
  obtain ⟨a, ns, d, rfl, rfl, hs, q0, q⟩ := hh
  obtain ⟨its, rv, hl, _⟩ := I.list hs
  obtain ⟨u, rfl, ru⟩ := rz.one
  rw [Vals.ref1 r]
  exact mxd_ints (I.ok.hd hc) hl.isList rv.ints (fun e h' tk hk => ⟨d, H, I.kept hk, ru, q0 e⟩) fun h' tk m t' hk h1 h2 => ⟨.int _, H, I.kept hk, ⟨_, rfl⟩, q m h1 h2⟩
theorem x_ckw {r : List V → List V → Hp → VK → Prop} {t tk : TA} {σ : L2.St} {H : Hp} {Q : VK} (q : t σ H fun vs H1 => tk σ H1 fun zs H2 => r vs zs H2 Q) : tCKw r t tk σ H Q := q
theorem x_maxDef {K : PySem.W.Frag} {H : Hp} {Q : VK} {a : Addr} {ns : List Int} {d : V} (hs : SqL K H a (ns.map V.int)) (q0 : ns = [] → Q d H) (q : ∀ m : Int, m ∈ ns → (∀ y, y ∈ ns → y ≤ m) → Q (.int m) H) : rMaxDef K [.ref a] [d] H Q := ⟨a, ns, d, rfl, rfl, hs, q0, q⟩
end Gs

namespace Gs
open PySem PySem.Spec PyProof.Rows L2
/-! ### enumerate(a text of plain signs); text.rpartition(text) -/
section
variable {prog : Program} {w : World} {A : Around} {E : Value → Shared → Prop} {s : Shared}
theorem es_nextOf {it : Addr} {z : Str} {t : Tok} {n c : Nat} {Q : Value → Shared → Prop} (st : s.heap.IsStrIter it "str_ascii_iterator" z t n) (hc : z.cps[n]? = some c)
    (q : ∀ g, g.IsStrIter it "str_ascii_iterator" z t (n + 1) → Heap.SameBut it s.heap g → Q (.str ⟨#[c]⟩ s.toks) { s with heap := g, toks := s.toks + 1 }) : wpAny (model prog w) A (Builtin.SmallTypes.nextOf (.ref it)) Q E s := by
  obtain ⟨ob, e1, e2, e3⟩ := id st
  unfold Builtin.SmallTypes.nextOf
  refine wpAny_bind (wpAny_callSpecial?_slot (name := Str.ofString "__next__") st.typeIs F.slot_str_ascii_iterator_next (wpAny_call_entry F.slot_str_ascii_iterator_next st.typeIs F.entry_str_ascii_iterator_next ?_ (F.args_str_ascii_iterator_next_1 _)))
  show wpAny _ A.in1 (field (Value.ref it) 0 >>= _) _ E s
  refine wpAny_bind (wpAny_field e1 e3 (x := Value.str z t) rfl ?_)
  show wpAny _ A.in1 (field (Value.ref it) 1 >>= _) _ E s
  refine wpAny_bind (wpAny_field e1 e3 (x := Value.int n 0) rfl ?_)
  simp only [Int.toNat_natCast, hc]
  refine wpAny_bind (wpAny_setField e1 e3 (by simp) (wpAny_bind (wpAny_mkStr (wpAny_pure ⟨_, rfl, wpAny_pure (q _ ?_ (Heap.SameBut.update ..))⟩) (by show 1 ≤ sizeLine; decide))))
  refine ⟨_, Heap.get?_update_self _ e1 (Obj.isFreed_of_fields (Obj.data_mapFields e3 _)), (Obj.cls_mapFields ..).trans e2, ?_⟩
  rw [Obj.data_mapFields e3]
  simp [rawInt]
theorem es_next {e it : Addr} {z : Str} {t : Tok} {n c : Nat} {old : Value} {Q : Option Value → Shared → Prop} (he : IsEnum s.heap e it n old) (st : s.heap.IsStrIter it "str_ascii_iterator" z t n) (hc : z.cps[n]? = some c) (ne : e ≠ it)
    (q : ∀ g, IsEnumOut g e it ((n : Int) + 1) (.str ⟨#[c]⟩ s.toks) s.heap.objs.size → g.IsStrIter it "str_ascii_iterator" z t (n + 1) → g.get? s.heap.objs.size = some { cls := .type "tuple", data := .seq #[.int n (s.toks + 1), .str ⟨#[c]⟩ s.toks] } →
      (∀ b o, b ≠ e → b ≠ it → s.heap.get? b = some o → g.get? b = some o) → Q (some (.ref s.heap.objs.size)) { s with heap := g, toks := s.toks + 2 }) : wpAny (model prog w) A (pyNext (.ref e)) Q E s := by
  have ty : s.TypeIs (.ref e) "enumerate" := ⟨_, he, rfl⟩
  unfold pyNext
  refine wpAny_bind (wpAny_attempt (wpAny_callSpecial?_slot (name := Str.ofString "__next__") ty F.slot_enumerate_next (wpAny_call_entry F.slot_enumerate_next ty F.entry_enumerate_next ?_ (F.args_enumerate_next_1 _))))
  obtain ⟨g0, gn, dr, tk, os⟩ := s
  show wpAny _ _ (field (Value.ref e) 2 >>= _) _ _ _
  refine wpAny_bind (wpAny_field he rfl (x := Value.ref it) rfl (wpAny_bind (es_nextOf st hc fun g1 st1 sb1 => ?_)))
  replace sb1 : Heap.SameBut it g0 g1 := sb1
  have en1 : IsEnum g1 e it n old := (sb1.2 e ne).trans he
  show wpAny _ _ (field (Value.ref e) 3 >>= _) _ _ ⟨g1, gn, dr, tk + 1, os⟩
  refine wpAny_bind (wpAny_field en1 rfl (x := rawInt n) rfl ?_)
  show wpAny _ _ (field (Value.ref e) 4 >>= _) _ _ ⟨g1, gn, dr, tk + 1, os⟩
  refine wpAny_bind (wpAny_field en1 rfl (x := Value.none) rfl ?_)
  show wpAny _ _ (mkInt n >>= _) _ _ ⟨g1, gn, dr, tk + 1, os⟩
  refine wpAny_bind (wpAny_mkInt ?_)
  show wpAny _ _ (setField (Value.ref e) 3 (rawInt ((n : Int) + 1)) >>= _) _ _ ⟨g1, gn, dr, tk + 2, os⟩
  refine wpAny_bind (wpAny_setField_rec en1 (by simp) fun g2 en2 sb2 => ?_)
  replace sb2 : Heap.SameBut e g1 g2 := sb2
  replace en2 : IsEnum g2 e it ((n : Int) + 1) old := en2
  show wpAny _ _ (setField (Value.ref e) 4 Value.none >>= _) _ _ ⟨g2, gn, dr, tk + 2, os⟩
  refine wpAny_bind (wpAny_setField_rec en2 (by simp) fun g3 en3 sb3 => ?_)
  replace sb3 : Heap.SameBut e g2 g3 := sb3
  replace en3 : IsEnum g3 e it ((n : Int) + 1) old := en3
  show wpAny _ _ (newTuple [Value.int n (tk + 1), Value.str ⟨#[c]⟩ tk] >>= _) _ _ ⟨g3, gn, dr, tk + 2, os⟩
  refine wpAny_bind (wpAny_newTuple ?_)
  have sz : g3.objs.size = g0.objs.size := by rw [sb3.1, sb2.1, sb1.1]
  have hle : e < g0.objs.size := Heap.lt_size he
  obtain ⟨g4, eg4⟩ : ∃ g4, g4 = g3.push { cls := .type "tuple", data := .seq #[.int n (tk + 1), .str ⟨#[c]⟩ tk] } := ⟨_, rfl⟩
  have en4 : IsEnum g4 e it ((n : Int) + 1) old := by rw [eg4]; exact Heap.get?_push_of_some _ en3
  have tu4 : g4.get? g0.objs.size = some { cls := .type "tuple", data := .seq #[.int n (tk + 1), .str ⟨#[c]⟩ tk] } := by rw [eg4, ← sz]; exact Heap.get?_push_size _ rfl
  have kp4 : ∀ b o, b ≠ e → b ≠ it → g0.get? b = some o → g4.get? b = some o := fun b o be bi h => by
    rw [eg4]
    exact Heap.get?_push_of_some _ (sb3.extBut b o be (sb2.extBut b o be (sb1.extBut b o bi h)))
  have st4 : g4.IsStrIter it "str_ascii_iterator" z t (n + 1) := by
    rw [eg4]
    obtain ⟨o1, h1, r1⟩ := st1
    exact ⟨o1, Heap.get?_push_of_some _ (sb3.extBut it o1 (Ne.symm ne) (sb2.extBut it o1 (Ne.symm ne) h1)), r1⟩
  show wpAny _ _ (Builtin.SmallTypes.ownedTupleIsFree (Value.ref e) >>= _) _ _ ⟨_, gn, dr, tk + 2, os⟩
  rw [sz, ← eg4]
  clear eg4 en3 sb3 en2 sb2 en1 sb1 st1 sz g3 g2 g1
  refine wpAny_bind ?_
  unfold Builtin.SmallTypes.ownedTupleIsFree
  refine wpAny_bind (wpAny_field en4 rfl (x := Value.none) rfl (wpAny_pure ?_))
  simp only [if_true]
  refine wpAny_bind (wpAny_rule (wpAny_bind (wpAny_field en4 rfl (x := old) rfl ?_)))
  refine wpAny_bind (wpAny_setField_rec en4 (by simp) fun g5 en5 sb5 => ?_)
  replace sb5 : Heap.SameBut e g4 g5 := sb5
  replace en5 : IsEnum g5 e it ((n : Int) + 1) (.str ⟨#[c]⟩ tk) := en5
  show wpAny _ _ (Builtin.SmallTypes.ownedTupleHandOut (Value.ref e) (Value.ref g0.objs.size) >>= _) _ _ ⟨g5, gn, dr, tk + 2, os⟩
  refine wpAny_bind ?_
  unfold Builtin.SmallTypes.ownedTupleHandOut
  refine wpAny_bind (wpAny_setField_rec en5 (by simp) fun g6 en6 sb6 => ?_)
  replace sb6 : Heap.SameBut e g5 g6 := sb6
  replace en6 : IsEnumOut g6 e it ((n : Int) + 1) (.str ⟨#[c]⟩ tk) g0.objs.size := en6
  refine wpAny_setField_rec en6 (by simp) fun g7 en7 sb7 => ?_
  replace sb7 : Heap.SameBut e g6 g7 := sb7
  replace en7 : IsEnumOut g7 e it ((n : Int) + 1) (.str ⟨#[c]⟩ tk) g0.objs.size := en7
  have kp : ∀ b o, b ≠ e → g4.get? b = some o → g7.get? b = some o := fun b o be h => sb7.extBut b o be (sb6.extBut b o be (sb5.extBut b o be h))
  refine wpAny_bind (wpAny_letGo (wpAny_pure ⟨_, rfl, wpAny_pure (q g7 en7 ?_ (kp _ _ (Nat.ne_of_gt hle) tu4) fun b o be bi h => kp b o be (kp4 b o be bi h))⟩))
  obtain ⟨o4, h4, r4⟩ := st4
  exact ⟨o4, kp _ _ (Ne.symm ne) h4, r4⟩
theorem es_end {e it : Addr} {z : Str} {t : Tok} {n : Nat} {old : Value} {Q : Option Value → Shared → Prop} (hh : A.handled = none) (he : IsEnum s.heap e it n old) (st : s.heap.IsStrIter it "str_ascii_iterator" z t n) (hn : z.cps[n]? = none)
    (q : ∀ g, Heap.ExtBut it s.heap g → Q none { s with heap := g }) : wpAny (model prog w) A (pyNext (.ref e)) Q E s := by
  obtain ⟨ob, e1, e2, e3⟩ := id st
  have ty : s.TypeIs (.ref e) "enumerate" := ⟨_, he, rfl⟩
  unfold pyNext
  refine wpAny_bind (wpAny_attempt (wpAny_callSpecial?_slot (name := Str.ofString "__next__") ty F.slot_enumerate_next (wpAny_call_entry F.slot_enumerate_next ty F.entry_enumerate_next ?_ (F.args_enumerate_next_1 _))))
  show wpAny _ _ (field (Value.ref e) 2 >>= _) _ _ _
  refine wpAny_bind (wpAny_field he rfl (x := Value.ref it) rfl (wpAny_bind ?_))
  unfold Builtin.SmallTypes.nextOf
  refine wpAny_bind (wpAny_callSpecial?_slot (name := Str.ofString "__next__") st.typeIs F.slot_str_ascii_iterator_next (wpAny_call_entry F.slot_str_ascii_iterator_next st.typeIs F.entry_str_ascii_iterator_next ?_ (F.args_str_ascii_iterator_next_1 _)))
  show wpAny _ _ (field (Value.ref it) 0 >>= _) _ _ s
  refine wpAny_bind (wpAny_field e1 e3 (x := Value.str z t) rfl ?_)
  show wpAny _ _ (field (Value.ref it) 1 >>= _) _ _ s
  refine wpAny_bind (wpAny_field e1 e3 (x := Value.int n 0) rfl ?_)
  simp only [Int.toNat_natCast, hn]
  refine wpAny_bind (wpAny_rule (wpAny_bind (wpAny_setField e1 e3 (by simp) (wpAny_bind (wpAny_letGo ?_)))))
  show wpAny _ _ (newExc (Value.type "StopIteration") [] >>= _) _ _ _
  refine wpAny_bind ?_
  simp only [newExc, newTuple]
  refine wpAny_bind (wpAny_newObj_type (wpAny_bind (m := firstArgMember _ _) (wpAny_of_eq (a := Value.none) ?_ (wpAny_newObj_type ?_ (by size_fits)))) (by size_fits))
  · first
    | rfl
    | (simp only [firstArgMember]; rfl)
  simp only [raiseNew]
  refine wpAny_bind (wpAny_handled ?_)
  first
  | rw [show A.in1.in1.handled = none from hh]
  | rw [show A.in1.handled = none from hh]
  refine wpAny_bind (wpAny_pure (wpAny_throw ?_))
  refine wpAny_bind (wpAny_isInstance (T := "StopIteration") (b := true) (by exact ⟨_, Heap.get?_push_size _ rfl, rfl⟩) isSubtype_stop (wpAny_pure (q _ ?_)))
  exact ((Heap.SameBut.update ..).extBut.push _).push _
end
def IteS (z : Str) : It := ⟨fun n _ => n < z.cps.size, fun n H v H' => ∃ T c, v = .ref T ∧ H T = none ∧ H' = upd H T (.tup [.int (n : Nat), .str ⟨#[c]⟩]) ∧ z.cps[n]? = some c, fun n _ => z.cps.size ≤ n⟩
theorem turn_enumS {P : Program} {w : World} {K : PySem.W.Frag} {elts : List PySem.Expr} {kk : Nat} {tpos : Pos} (e it : Addr) (z : Str) (t : Tok) :
    Turn P w K (.Tuple elts kk tpos) (IteS z) [e, it] e (fun n h => (∃ old, IsEnum h e it ((n : Nat) : Int) old) ∧ h.IsStrIter it "str_ascii_iterator" z t n ∧ e ≠ it) where
  mem := by simp
  obj := fun n h st b hb => by
    obtain ⟨⟨old, he⟩, ⟨o, ho, _, hd⟩, _⟩ := st
    rcases (by simpa using hb : b = e ∨ b = it) with rfl | rfl
    · exact ⟨_, he, fun v q => nomatch q⟩
    · exact ⟨o, ho, fun v q => by rw [hd] at q; cases q⟩
  keep := fun n h h' st k => by
    obtain ⟨⟨old, he⟩, ⟨o, ho, r⟩, hne⟩ := st
    exact ⟨⟨old, k e (by simp) _ he⟩, ⟨o, k it (by simp) o ho, r⟩, hne⟩
  item := by
    intro X hP hw hK hc n pins s σ H E I hf st hg
    subst hP hw hK
    obtain ⟨⟨old, he⟩, hit, hne⟩ := st
    obtain ⟨c, hcn⟩ : ∃ c, z.cps[n]? = some c := ⟨_, Array.getElem?_eq_getElem hg⟩
    have el : e < s.heap.objs.size := Heap.lt_size he
    have il : it < s.heap.objs.size := by obtain ⟨_, q, _⟩ := hit; exact Heap.lt_size q
    refine es_next he hit hcn hne fun g ho hit' hT hk => ⟨_, rfl, wpAny_letOwnedTupleGo_enum (s := { s with heap := g, toks := s.toks + 2 }) ho fun g2 he2 sb => ?_⟩
    have hT2 : g2.get? s.heap.objs.size = some { cls := .type "tuple", data := .seq #[.int n (s.toks + 1), .str ⟨#[c]⟩ s.toks] } := (sb.2 _ (Nat.ne_of_gt el)).trans hT
    have nw : ObjOk X.prog X.w (upd H s.heap.objs.size (.tup [.int (n : Nat), .str ⟨#[c]⟩])) g2 s.heap.objs.size (.tup [.int (n : Nat), .str ⟨#[c]⟩]) :=
      ⟨by show 2 ≤ sizeLine; decide, [.int n (s.toks + 1), .str ⟨#[c]⟩ s.toks], .cons ⟨_, rfl⟩ (.cons ⟨_, rfl⟩ .nil), ⟨_, hT2, rfl, _, rfl⟩⟩
    have I1 : Inv X pins σ (upd H s.heap.objs.size (.tup [.int (n : Nat), .str ⟨#[c]⟩])) { s with heap := g2, toks := s.toks + 2 } :=
      I.turnedNew (ch := [e, it]) (fun b ob hb q => (sb.2 b (fun h => hb (by simp [h]))).trans (hk b ob (fun h => hb (by simp [h])) (fun h => hb (by simp [h])) q)) hf (Nat.le_refl _) nw
    refine ⟨.ref s.heap.objs.size, _, I1, rfl, ⟨_, c, rfl, I.hok.fresh (Nat.le_refl _), rfl, hcn⟩, ⟨⟨.str ⟨#[c]⟩ s.toks, ?_⟩, ?_, hne⟩, fun b hb => ?_⟩
    · rw [show ((n + 1 : Nat) : Int) = (n : Int) + 1 by omega]
      exact he2
    · obtain ⟨oi, hoi, r⟩ := hit'
      exact ⟨oi, (sb.2 it (Ne.symm hne)).trans hoi, r⟩
    · have lt : b < s.heap.objs.size := by
        rcases (by simpa using hb : b = e ∨ b = it) with rfl | rfl
        · exact el
        · exact il
      rw [upd_ne (Nat.ne_of_lt lt)]
      exact (hf b hb).1
  done := by
    intro X hP hw hK hc n pins s σ H E I hf st hg
    subst hP hw hK
    obtain ⟨⟨old, he⟩, hit, hne⟩ := st
    obtain ⟨f0, f1, f2, f3, f4, f5⟩ := hf it (by simp)
    exact es_end (I.ok.hd hc) he hit (Array.getElem?_eq_none hg) fun g eb => ⟨rfl, I.turned (t' := s.toks) (fun b o hb q => eb b o hb q) f0 f1 f3 f4 f5⟩
  self := fun A n s Q E st h => by
    obtain ⟨⟨_, he⟩, _⟩ := st
    exact wpAny_pyIter_enum he h
def iEnumS (te : TA) : TI := fun σ H R => te σ H fun vs H1 => ∃ z : Str, vs = [.str z] ∧ z.cps.all (· < 128) = true ∧ R (IteS z) H1
theorem pi_enumS {X : Cx} {e : PySem.Expr} {ta : TA} {p pos tpos : Pos} {elts : List PySem.Expr} {kk : Nat} (hg : Gl X "enumerate") (hm : X.mg "enumerate" = none) (ha : PA X [e] ta) (hs : starEach [e] X.env = [(false, eval e X.env)] := by rfl) :
    PI X (.Tuple elts kk tpos) (.Call (.Name "enumerate" p) [e] [] pos) (iEnumS ta) := by
  refine ⟨fun pins s σ H R I h => ?_⟩
  refine Call_ (ld_blt I hg hm boot_enumerate (PyProof.Rows.callWith_type1 (thn (ha.run pos pins s σ H _ I h) fun us s1 ⟨vs, H1, I1, r1, q1⟩ => ?_) hs rfl))
  obtain ⟨z, rfl, hz, q⟩ := q1
  obtain ⟨u, rfl, ru⟩ := r1.one
  obtain ⟨t, rfl⟩ := ru
  refine call_enumerate_str fun g he hit hsz hk => wpAny_pyIter_enum he ?_
  have ety : strIterType z = "str_ascii_iterator" := by
    unfold strIterType
    simp [hz]
  rw [ety] at hit
  have I2 : Inv X pins σ H1 { s1 with heap := g } := I1.kept (t' := s1.toks) hk
  refine ⟨s1.heap.objs.size + 1, [s1.heap.objs.size + 1, s1.heap.objs.size], _, _, H1, rfl, I2, turn_enumS (s1.heap.objs.size + 1) s1.heap.objs.size z t, ⟨⟨.none, he⟩, hit, Nat.succ_ne_self _⟩, fun b hb => ?_, q⟩
  have le : s1.heap.objs.size ≤ b := by
    rcases (by simpa using hb : b = s1.heap.objs.size + 1 ∨ b = s1.heap.objs.size) with rfl | rfl
    · exact Nat.le_add_right _ _
    · exact Nat.le_refl _
  exact I1.fpOk le (I1.hok.fresh le)
/-- a.rpartition(b) -/
theorem mt_rpartition {X : Cx} : MtR X "str.rpartition" (fun x xs H Q => ∃ a b, x = .str a ∧ xs = [.str b] ∧ (b.length == 0) = false ∧ a.length ≤ sizeLine ∧ ∀ p, H p = none → Q (.ref p) (upd H p (.tup [.str (Txt.rpartition a b).1, .str (Txt.rpartition a b).2.1, .str (Txt.rpartition a b).2.2]))) := by
  intro pins s σ H x xs v us Q I rx rs h
  obtain ⟨a, b, rfl, rfl, hb, hz, h⟩ := h
  obtain ⟨t, rfl⟩ := rx
  obtain ⟨u, rfl, ru⟩ := rs.one
  obtain ⟨u, rfl⟩ := ru
  refine call_meets F.slot_str_rpartition (typeIs_str _ _ _) F.entry_str_rpartition (F.args_str_rpartition_2 _ _) (meets_str_rpartition a b t u hb hz) ?_
  unfold Txt.rpartition at h
  revert h
  cases Builtin.Str.lastOccurrence a b 0 a.length with
  | none => exact fun h => laid_parts I h
  | some i => exact fun h => laid_parts I h
theorem x_forES {σ : L2.St} {H : Hp} {g : TG} {tb : TS} {z : Str} {X : L2.St → Hp → Prop} {rt : VK} (Pv : Nat → L2.St → Hp → Prop) (hz : z.cps.all (· < 128) = true) (h0 : Pv 0 σ H)
    (hs : ∀ (n c : Nat) (σ : L2.St) (H : Hp) (T : Addr), z.cps[n]? = some c → Pv n σ H → H T = none → g (.ref T) σ (upd H T (.tup [.int (n : Nat), .str ⟨#[c]⟩])) fun σ2 H2 => tb { nx := Pv (n + 1), rt := rt, bk := X, ct := Pv (n + 1) } σ2 H2) (hd : ∀ σ H, Pv z.cps.size σ H → X σ H) :
    ∃ y : Str, [V.str z] = [V.str y] ∧ y.cps.all (· < 128) = true ∧ ∃ W : Nat → Nat → L2.St → Hp → Prop, (∃ m, W 0 m σ H) ∧ ∀ n m σ H, W n m σ H →
      ((IteS y).stop n H ∧ X σ H) ∨ ((IteS y).go n H ∧ ∃ N : L2.St → Hp → Prop, (∀ σ' H', N σ' H' → ∃ m', m' < m ∧ W (n + 1) m' σ' H') ∧ ∀ x H', (IteS y).yld n H x H' → g x σ H' fun σ2 H2 => tb { nx := N, rt := rt, bk := X, ct := N } σ2 H2) := by
  refine ⟨z, rfl, hz, fun n m σ H => n + m = z.cps.size ∧ Pv n σ H, ⟨z.cps.size, Nat.zero_add _, h0⟩, fun n m σ H h => ?_⟩
  obtain ⟨hm, p⟩ := h
  by_cases c : n < z.cps.size
  · refine .inr ⟨c, Pv (n + 1), fun σ' H' p' => ⟨m - 1, by omega, by omega, p'⟩, fun x H' hy => ?_⟩
    obtain ⟨T, cc, rfl, hT, rfl, hc⟩ := hy
    exact hs n cc σ H T hc p hT
  · have e : n = z.cps.size := by omega
    subst e
    exact .inl ⟨Nat.le_refl _, hd _ _ p⟩
theorem x_ienumS {σ : L2.St} {H : Hp} {ta : TA} {R : It → Hp → Prop} (q : ta σ H fun vs H1 => ∃ z : Str, vs = [.str z] ∧ z.cps.all (· < 128) = true ∧ R (IteS z) H1) : iEnumS ta σ H R := q
end Gs

namespace Gs
open PySem PySem.Spec PyProof.Rows L2 TL
/-! ### titles: a name, a stroke, a number of places -/
theorem tl_lenP (z : Str) : (tl z).length = z.length := by
  show z.cps.toList.length = z.cps.size
  rw [Array.length_toList]
theorem tl_injP {a b : Str} (h : tl a = tl b) : a = b := by
  cases a
  cases b
  exact congrArg Str.mk (Array.toList_inj.mp h)
theorem slash_at {z : Str} {i : Nat} : StrLaws.At z ("/" : Str) z.length i ↔ (tl z)[i]? = some 47 := by
  have e1 : ("/" : Str).length = 1 := by decide +kernel
  have e2 : ("/" : Str).cps = #[47] := by decide +kernel
  unfold StrLaws.At Builtin.Str.subAt
  rw [e1, e2, ← tl_lenP]
  show i + 1 ≤ (tl z).length ∧ _ ↔ z.cps.toList[i]? = some 47
  constructor
  · rintro ⟨h1, h2⟩
    have h3 := congrArg Array.toList (eq_of_beq h2)
    rw [Array.toList_extract] at h3
    have h4 : (z.cps.toList.extract i (i + 1))[0]? = some 47 := by rw [h3]; rfl
    rw [List.extract_eq_drop_take, List.getElem?_take_of_lt (by omega), List.getElem?_drop] at h4
    exact h4
  · intro h
    have hl : i < z.cps.toList.length := (List.getElem?_eq_some_iff.mp h).1
    refine ⟨hl, ?_⟩
    have : z.cps.extract i (i + 1) = #[47] := by
      apply Array.toList_inj.mp
      rw [Array.toList_extract, List.extract_eq_drop_take]
      have e3 : z.cps.toList.drop i = 47 :: z.cps.toList.drop (i + 1) := by
        rw [List.drop_eq_getElem_cons hl]
        congr 1
        exact Option.some.inj ((List.getElem?_eq_getElem hl).symm.trans h)
      rw [e3, show i + 1 - i = 1 by omega]
      rfl
    rw [this]
    rfl
theorem rpart_slash {z nm : Str} {t : List Nat} (hz : tl z = tl nm ++ 47 :: t) (ht : ∀ c ∈ t, c ≠ 47) : (Txt.rpartition z ("/" : Str)).1 = nm := by
  unfold Txt.rpartition
  have hat : StrLaws.At z ("/" : Str) z.length (tl nm).length := by
    rw [slash_at, hz, List.getElem?_append_right (Nat.le_refl _), Nat.sub_self]
    rfl
  rcases StrLaws.last_spec z ("/" : Str) with ⟨h0, hn⟩ | ⟨i, h0, hi, hn⟩
  · exact absurd hat (hn _)
  · rw [h0]
    have hle : (tl nm).length ≤ i := by
      rcases Nat.lt_or_ge i (tl nm).length with h | h
      · exact absurd hat (hn _ h)
      · exact h
    have hge : ¬ (tl nm).length < i := by
      intro h
      have := slash_at.mp hi
      rw [hz, List.getElem?_append_right hle, show i - (tl nm).length = (i - (tl nm).length - 1) + 1 by omega, List.getElem?_cons_succ] at this
      exact ht _ (List.mem_of_getElem? this) rfl
    have e : i = (tl nm).length := by omega
    subst e
    apply tl_injP
    show (Builtin.Str.strSub z 0 (tl nm).length).cps.toList = tl nm
    unfold Builtin.Str.strSub
    rw [Array.toList_extract, List.extract_eq_drop_take]
    show ((tl z).drop 0).take ((tl nm).length - 0) = tl nm
    rw [hz, List.drop_zero, Nat.sub_zero, List.take_left]
/-! ### the parts at the + places and at the - places -/
def sel (c : Nat) (ms : List Nat) (out : List V) : List V := ((ms.zip out).filter fun e => e.1 == c).map (·.2)
def cntS (c : Nat) (ms : List Nat) : Nat := (ms.filter fun e => e == c).length
theorem sel_append {c : Nat} {a a' : List Nat} {b b' : List V} (h : a.length = b.length) : sel c (a ++ a') (b ++ b') = sel c a b ++ sel c a' b' := by
  unfold sel
  rw [List.zip_append h, List.filter_append, List.map_append]
theorem sel_len {c : Nat} : ∀ {a : List Nat} {b : List V}, a.length = b.length → (sel c a b).length = cntS c a
  | [], [], _ => rfl
  | x :: a, y :: b, h => by
    have ih := sel_len (c := c) (a := a) (b := b) (Nat.succ.inj h)
    unfold sel cntS at *
    rw [List.zip_cons_cons, List.filter_cons, List.filter_cons]
    by_cases e : (x == c) = true
    · rw [if_pos e, if_pos e, List.map_cons, List.length_cons, List.length_cons, ih]
    · rw [if_neg e, if_neg e, ih]
theorem sel_more {c m : Nat} {ms : List Nat} {out : List V} {v : V} {k : Nat} (h : ms.length = out.length) (hm : ms[k]? = some m) (hv : out[k]? = some v) : sel c (ms.take (k + 1)) (out.take (k + 1)) = sel c (ms.take k) (out.take k) ++ (if m = c then [v] else []) := by
  rw [List.take_succ, List.take_succ, hm, hv, sel_append (by rw [List.length_take, List.length_take, h])]
  congr 1
  show sel c [m] [v] = _
  unfold sel
  by_cases e : m = c
  · simp [e]
  · simp [e]
theorem cnt_more {c m : Nat} {ms : List Nat} {k : Nat} (hm : ms[k]? = some m) : cntS c (ms.take (k + 1)) = cntS c (ms.take k) + (if m = c then 1 else 0) := by
  unfold cntS
  rw [List.take_succ, hm, List.filter_append, List.length_append]
  congr 1
  by_cases e : m = c
  · simp [e]
  · simp [e]
theorem sel_at {c : Nat} {ms : List Nat} {out : List V} {k : Nat} (h : ms.length = out.length) (hm : ms[k]? = some c) : (sel c ms out)[cntS c (ms.take k)]? = out[k]? := by
  have hk : k < ms.length := (List.getElem?_eq_some_iff.mp hm).1
  have hv : out[k]? = some out[k] := List.getElem?_eq_getElem (by omega)
  have e := sel_append (c := c) (a := ms.take (k + 1)) (a' := ms.drop (k + 1)) (b := out.take (k + 1)) (b' := out.drop (k + 1)) (by rw [List.length_take, List.length_take, h])
  rw [List.take_append_drop, List.take_append_drop, sel_more h hm hv, if_pos rfl] at e
  have hl := sel_len (c := c) (a := ms.take k) (b := out.take k) (by rw [List.length_take, List.length_take, h])
  rw [e, hv, ← hl, List.append_assoc, List.getElem?_append_right (Nat.le_refl _), Nat.sub_self]
  rfl
theorem cnt_two : ∀ {ms : List Nat}, (∀ m ∈ ms, m = 43 ∨ m = 45) → cntS 43 ms + cntS 45 ms = ms.length
  | [], _ => rfl
  | m :: r, h => by
    have ih := cnt_two (ms := r) fun x hx => h x (List.mem_cons_of_mem _ hx)
    unfold cntS at *
    rcases h m (List.mem_cons_self ..) with rfl | rfl
    · simp only [List.filter_cons, List.length_cons, beq_self_eq_true, if_true, show ((43 : Nat) == 45) = false from rfl, Bool.false_eq_true, if_false]
      omega
    · simp only [List.filter_cons, List.length_cons, beq_self_eq_true, if_true, show ((45 : Nat) == 43) = false from rfl, Bool.false_eq_true, if_false]
      omega
def titleP : Pt → Str
  | .t nm ps => ((Str.empty ++ nm) ++ ("/" : Str)) ++ toString ((ps.length : Nat) : Int)
  | .s z => (Str.empty ++ z) ++ ("/0" : Str)
  | .i _ => Str.empty
theorem len_app (a b : Str) : (a ++ b).length = a.length + b.length := by rw [← tl_lenP, tl_append, List.length_append, tl_lenP, tl_lenP]
theorem digit_tl : ∀ n : Nat, n ≤ 9 → tl (toString ((n : Nat) : Int) : Str) = [48 + n] := by decide +kernel
theorem empty_len : Str.empty.length = 0 := rfl
theorem title_tl {nm : Str} {ps : List Pt} (h : ps.length ≤ 9) : tl (titleP (.t nm ps)) = tl nm ++ [47, 48 + ps.length] := by
  unfold titleP
  rw [tl_append, tl_append, tl_append, digit_tl _ h, show tl Str.empty = [] from rfl, show tl ("/" : Str) = [47] from by decide +kernel]
  simp
theorem title_tl0 {z : Str} : tl (titleP (.s z)) = tl z ++ [47, 48] := by
  unfold titleP
  rw [tl_append, tl_append, show tl Str.empty = [] from rfl, show tl ("/0" : Str) = [47, 48] from by decide +kernel]
  rfl
end Gs

namespace Gs
open PySem PySem.Spec PyProof.Rows L2 TL
/-! ### patterns as data, to be compared -/
mutual
def ptD : Pt → PyData
  | .i n => .int n
  | .s z => .str z
  | .t nm ps => .tuple (.str nm :: ptDL ps)
def ptDL : List Pt → List PyData
  | [] => []
  | p :: r => ptD p :: ptDL r
end
theorem ptDL_map : ∀ ps : List Pt, ptDL ps = ps.map ptD
  | [] => rfl
  | p :: r => by rw [ptDL, ptDL_map r, List.map_cons]
theorem dpAll_of {K : PySem.W.Frag} {H : Hp} : ∀ {vs : List V} {ds : List PyData}, vs.length = ds.length → (∀ (i : Nat) v d, vs[i]? = some v → ds[i]? = some d → Dp K H v d) → DpAll K H vs ds
  | [], [], _, _ => .nil
  | v :: vs, d :: ds, hl, h => .cons (h 0 v d rfl rfl) (dpAll_of (Nat.succ.inj hl) fun i v' d' h1 h2 => h (i + 1) v' d' h1 h2)
theorem PtAt.dpd {K : PySem.W.Frag} {H : Hp} : ∀ {k : Nat} {v : V} {p : Pt}, PtAt K H k v p → Dp K H v (ptD p)
  | 0, _, _, h => h.elim
  | _ + 1, _, .i n, h => by
    obtain rfl : _ = V.int n := h
    exact .int n
  | _ + 1, _, .s z, h => by
    obtain rfl : _ = V.str z := h
    exact .str z
  | k + 1, _, .t nm ps, ⟨a, vs, e, s, l, f⟩ => by
    subst e
    refine .tup s (.cons (.str nm) (dpAll_of (by rw [ptDL_map, List.length_map, l]) fun i v d h1 h2 => ?_))
    rw [ptDL_map, List.getElem?_map] at h2
    cases hu : ps[i]? with
    | none =>
      rw [hu] at h2
      cases h2
    | some u =>
      rw [hu] at h2
      cases h2
      exact (f i v u h1 hu).dpd
theorem PtsAt.dpd {K : PySem.W.Frag} {H : Hp} {k : Nat} {vs : List V} {ps : List Pt} (h : PtsAt K H k vs ps) : DpAll K H vs (ps.map ptD) :=
  dpAll_of (by rw [List.length_map, h.1]) fun i v d h1 h2 => by
    rw [List.getElem?_map] at h2
    cases hu : ps[i]? with
    | none =>
      rw [hu] at h2
      cases h2
    | some u =>
      rw [hu] at h2
      cases h2
      exact (h.2 i v u h1 hu).dpd
mutual
theorem ptD_lay {T N : Str → Prop} (hT : ∀ z, T z → okStr z = true) (hN : ∀ z, N z → okStr z = true) : ∀ {p : Pt}, okT T N p → PyData.canLay0 (ptD p) = true
  | .i _, _ => rfl
  | .s z, h => hT z h
  | .t nm ps, h => by
    rw [ptD]
    show (PyData.canLay0 (.str nm) && PyData.canLayAll0 (ptDL ps)) = true
    rw [Bool.and_eq_true]
    exact ⟨hN nm h.1, ptDL_lay hT hN h.2.2.2⟩
theorem ptDL_lay {T N : Str → Prop} (hT : ∀ z, T z → okStr z = true) (hN : ∀ z, N z → okStr z = true) : ∀ {ps : List Pt}, okL T N ps → PyData.canLayAll0 (ptDL ps) = true
  | [], _ => rfl
  | p :: r, h => by
    rw [ptDL]
    show (PyData.canLay0 (ptD p) && PyData.canLayAll0 (ptDL r)) = true
    rw [Bool.and_eq_true]
    exact ⟨ptD_lay hT hN h.1, ptDL_lay hT hN h.2⟩
end
mutual
theorem ptD_depth : ∀ p : Pt, PyData.depth (ptD p) ≤ dpT p
  | .i _ => by simp [ptD, PyData.depth, dpT]
  | .s _ => by simp [ptD, PyData.depth, dpT]
  | .t nm ps => by
    have h := ptDL_depth ps
    simp only [ptD, PyData.depth, PyData.depthAll, dpT]
    omega
theorem ptDL_depth : ∀ ps : List Pt, PyData.depthAll (ptDL ps) ≤ dpL ps
  | [] => by simp [ptDL, PyData.depthAll, dpL]
  | p :: r => by
    have h1 := ptD_depth p
    have h2 := ptDL_depth r
    simp only [ptDL, PyData.depthAll, dpL]
    omega
end
theorem ptD_shaped {T N : Str → Prop} (hT : ∀ z, T z → okStr z = true) (hN : ∀ z, N z → okStr z = true) {p : Pt} (h : okT T N p) (hd : dpT p ≤ 60) : SeqAt.shaped (ptD p) = true := by
  have := ptD_depth p
  show (PyData.canLay0 (ptD p) && decide (PyData.depth (ptD p) ≤ 64)) = true
  rw [Bool.and_eq_true]
  exact ⟨ptD_lay hT hN h, decide_eq_true (by omega)⟩
end Gs

namespace Gs
open PySem PySem.Spec PyProof.Rows L2 TL
/-! ### dicts of names and data compared -/
theorem hits_data {X : Cx} {pins : List (Addr × Obj)} {σ : L2.St} {H : Hp} {s : Shared} (I : Inv X pins σ H s) {A : Around} (hu : A.units + 1 + 64 < cLine) {kvs : List (Key × V)} {vb : List (Key × Value)} (rb : KV kvs vb) {ks : List (Key × V)} {va : List (Key × Value)} (ra : KV ks va) :
    (∀ p ∈ ks, ∃ u d, valV kvs p.1 = some u ∧ Dp X.K H p.2 d ∧ Dp X.K H u d ∧ SeqAt.shaped d = true) → PySem.W.KeqHits A.in1 s vb va true := by
  unfold KV at ra
  induction ra with
  | nil => intro _; exact .nil
  | @cons p q ps qs h t ih =>
    intro hp
    obtain ⟨h1, h2⟩ := h
    obtain ⟨u, d, e, f1, f2, f3⟩ := hp p List.mem_cons_self
    have rr : RelO (some u) (valueAt vb p.1) := by rw [← e]; exact rb.val p.1
    obtain ⟨y, hy, ry⟩ := rr.some_of
    obtain ⟨k, v⟩ := q
    have h1' : p.1 = k := h1
    rw [h1'] at hy
    obtain ⟨as, r1⟩ := Dp.reads I d _ _ f1 h2
    obtain ⟨bs, r2⟩ := Dp.reads I d _ _ f2 ry
    have x := PySem.W.keq_at (A := A) r1 r2 f3 f3 hu
    rw [SeqAt.eqv_refl _ (SeqAt.canLay_of_shaped f3)] at x
    show PySem.W.KeqHits A.in1 s vb ((k, v) :: qs) (true && true)
    exact .hit hy x (ih fun p' hm => hp p' (List.mem_cons_of_mem _ hm))
def rNeDD (K : PySem.W.Frag) : R2 := fun x y H Q => ∃ a b ks ls, x = .ref a ∧ y = .ref b ∧ H a = some (.dK ks) ∧ H b = some (.dK ls) ∧ ks.length = ls.length ∧ (∀ p ∈ ks, ∃ u d, valV ls p.1 = some u ∧ Dp K H p.2 d ∧ Dp K H u d ∧ SeqAt.shaped d = true) ∧ Q (.bl false) H
theorem op_neDD {X : Cx} (hu : X.A.units + 1 + 64 < cLine) : OpR X (compareOp .NotEq) (rNeDD X.K) := by
  intro pins s σ H x y v u Q I rx ry h
  obtain ⟨a, b, ks, ls, rfl, rfl, ea, eb, hlen, hp, q⟩ := h
  obtain rfl : v = Value.ref a := rx
  obtain rfl : u = Value.ref b := ry
  obtain ⟨_, ya, va, ra, da⟩ := (show ObjOk X.prog X.w H s.heap a (.dK ks) from I.hok a _ ea)
  obtain ⟨_, yb, vb, rb, db⟩ := (show ObjOk X.prog X.w H s.heap b (.dK ls) from I.hok b _ eb)
  have hl : va.length = vb.length := by rw [← ra.length, ← rb.length]; exact hlen
  exact PySem.W.keq_ne (knd := mixKind X.prog X.w) (r := true) ya yb da db (by omega) (fun _ => hits_data I hu rb ra hp) (fin_bl I q (by simp [hl]))
def rEqDD (K : PySem.W.Frag) : R2 := fun x y H Q => ∃ a b ks ls, x = .ref a ∧ y = .ref b ∧ H a = some (.dK ks) ∧ H b = some (.dK ls) ∧ ks.length = ls.length ∧ (∀ p ∈ ks, ∃ u d, valV ls p.1 = some u ∧ Dp K H p.2 d ∧ Dp K H u d ∧ SeqAt.shaped d = true) ∧ Q (.bl true) H
theorem op_eqDD {X : Cx} (hu : X.A.units + 1 + 64 < cLine) : OpR X (compareOp .Eq) (rEqDD X.K) := by
  intro pins s σ H x y v u Q I rx ry h
  obtain ⟨a, b, ks, ls, rfl, rfl, ea, eb, hlen, hp, q⟩ := h
  obtain rfl : v = Value.ref a := rx
  obtain rfl : u = Value.ref b := ry
  obtain ⟨_, ya, va, ra, da⟩ := (show ObjOk X.prog X.w H s.heap a (.dK ks) from I.hok a _ ea)
  obtain ⟨_, yb, vb, rb, db⟩ := (show ObjOk X.prog X.w H s.heap b (.dK ls) from I.hok b _ eb)
  have hl : va.length = vb.length := by rw [← ra.length, ← rb.length]; exact hlen
  exact PySem.W.keq_eq (knd := mixKind X.prog X.w) (r := true) ya yb da db (by omega) (fun _ => hits_data I hu rb ra hp) (fin_bl I q (by simp [hl]))
theorem op_eqDDK {X : Cx} {K : PySem.W.Frag} (hu : X.A.units + 1 + 64 < cLine) (h : X.K = K := by rfl) : OpR X (compareOp .Eq) (rEqDD K) := h ▸ op_eqDD hu
theorem op_neDDK {X : Cx} {K : PySem.W.Frag} (hu : X.A.units + 1 + 64 < cLine) (h : X.K = K := by rfl) : OpR X (compareOp .NotEq) (rNeDD K) := h ▸ op_neDD hu
theorem hu_w {A : Around} {k : Nat} (hr : Room k A) : A.units + 1 + 64 < cLine := by have := hr.un; omega
/-! ### what is bound to names -/
abbrev Fl := List (Str × Pt)
def look : Fl → Str → Option Pt
  | [], _ => none
  | (y, p) :: r, z => if y = z then some p else look r z
inductive StAt (K : PySem.W.Frag) (H : Hp) (k : Nat) : List (Key × V) → Fl → Prop
  | nil : StAt K H k [] []
  | cons {z : Str} {v : V} {p : Pt} {r : List (Key × V)} {f : Fl} : PtAt K H k v p → StAt K H k r f → StAt K H k ((Sum.inr z, v) :: r) ((z, p) :: f)
theorem StAt.len {K : PySem.W.Frag} {H : Hp} {k : Nat} {r : List (Key × V)} {f : Fl} (h : StAt K H k r f) : r.length = f.length := by
  induction h with
  | nil => rfl
  | cons a b ih => rw [List.length_cons, List.length_cons, ih]
theorem StAt.keys {K : PySem.W.Frag} {H : Hp} {k : Nat} {r : List (Key × V)} {f : Fl} (h : StAt K H k r f) : r.map (·.1) = (f.map (·.1)).map fun z => (Sum.inr z : Key) := by
  induction h with
  | nil => rfl
  | cons a b ih => rw [List.map_cons, List.map_cons, List.map_cons, ih]
theorem StAt.mono {K : PySem.W.Frag} {H H' : Hp} {k : Nat} {r : List (Key × V)} {f : Fl} (h : StAt K H k r f) (g : ∀ a xs, SqT K H a xs → SqT K H' a xs) : StAt K H' k r f := by
  induction h with
  | nil => exact .nil
  | cons a b ih => exact .cons (a.mono g) ih
theorem StAt.up {K : PySem.W.Frag} {H : Hp} {k j : Nat} {r : List (Key × V)} {f : Fl} (h : StAt K H k r f) (g : k ≤ j) : StAt K H j r f := by
  induction h with
  | nil => exact .nil
  | cons a b ih => exact .cons (a.up g) ih
theorem StAt.find {K : PySem.W.Frag} {H : Hp} {k : Nat} {r : List (Key × V)} {f : Fl} (h : StAt K H k r f) (z : Str) : (valV r (Sum.inr z) = none ∧ look f z = none) ∨ ∃ v p, valV r (Sum.inr z) = some v ∧ look f z = some p ∧ PtAt K H k v p := by
  induction h with
  | nil => exact .inl ⟨rfl, rfl⟩
  | @cons y v p r f a b ih =>
    by_cases e : y = z
    · subst e
      refine .inr ⟨v, p, valV_pos (p := ((Sum.inr y : Key), v)) rfl, ?_, a⟩
      rw [look, if_pos rfl]
    · rw [valV_neg (p := ((Sum.inr y : Key), v)) (by simpa using e), look, if_neg e]
      exact ih
theorem StAt.no_int {K : PySem.W.Frag} {H : Hp} {k : Nat} {r : List (Key × V)} {f : Fl} (h : StAt K H k r f) (n : Int) : valV r (Sum.inl n) = none := by
  induction h with
  | nil => rfl
  | @cons y v p r f a b ih =>
    rw [valV_neg (p := ((Sum.inr y : Key), v)) (by simp)]
    exact ih
def putF (f : Fl) (z : Str) (p : Pt) : Fl := if (look f z).isSome = true then f.map (fun e => if e.1 = z then (e.1, p) else e) else f ++ [(z, p)]
theorem StAt.append {K : PySem.W.Frag} {H : Hp} {k : Nat} {r r' : List (Key × V)} {f f' : Fl} (h : StAt K H k r f) (h' : StAt K H k r' f') : StAt K H k (r ++ r') (f ++ f') := by
  induction h with
  | nil => exact h'
  | cons a b ih => exact .cons a ih
theorem StAt.put {K : PySem.W.Frag} {H : Hp} {k : Nat} {r : List (Key × V)} {f : Fl} (h : StAt K H k r f) {z : Str} {v : V} {p : Pt} (hv : PtAt K H k v p) : StAt K H k (putK r (Sum.inr z) v) (putF f z p) := by
  unfold putK putF
  rw [valV_any]
  have e : (valV r (Sum.inr z)).isSome = (look f z).isSome := by
    rcases h.find z with ⟨a, b⟩ | ⟨_, _, a, b, _⟩ <;> rw [a, b] <;> rfl
  rw [e]
  by_cases c : (look f z).isSome = true
  · rw [if_pos c, if_pos c]
    clear e c
    induction h with
    | nil => exact .nil
    | @cons y v' p' r f a b ih =>
      rw [List.map_cons, List.map_cons]
      by_cases e : y = z
      · subst e
        rw [if_pos rfl, if_pos rfl]
        exact .cons hv ih
      · rw [if_neg (by simpa using e), if_neg e]
        exact .cons a ih
  · rw [if_neg c, if_neg c]
    exact h.append (.cons hv .nil)
theorem putF_none {f : Fl} {z : Str} (p : Pt) (h : look f z = none) : putF f z p = f ++ [(z, p)] := by
  unfold putF
  rw [h, if_neg (by decide)]
theorem StAt.put_none {K : PySem.W.Frag} {H : Hp} {k : Nat} {r : List (Key × V)} {f : Fl} (h : StAt K H k r f) {z : Str} {v : V} {p : Pt} (hv : PtAt K H k v p) (hz : look f z = none) : StAt K H k (putK r (Sum.inr z) v) (f ++ [(z, p)]) := putF_none p hz ▸ h.put hv
theorem look_none : ∀ {f : Fl} {z : Str}, look f z = none ↔ ∀ e ∈ f, e.1 ≠ z
  | [], z => by simp [look]
  | (y, p) :: r, z => by
    rw [look]
    by_cases e : y = z
    · rw [if_pos e]
      simp [e]
    · rw [if_neg e, look_none (f := r)]
      simp [e]
theorem look_mem : ∀ {f : Fl} {z : Str} {p : Pt}, look f z = some p → (z, p) ∈ f
  | [], z, p, h => by cases h
  | (y, p') :: r, z, p, h => by
    rw [look] at h
    by_cases e : y = z
    · rw [if_pos e] at h
      cases h
      rw [e]
      exact List.mem_cons_self ..
    · rw [if_neg e] at h
      exact List.mem_cons_of_mem _ (look_mem h)
theorem look_append : ∀ (f g : Fl) (z : Str), look (f ++ g) z = (look f z).or (look g z)
  | [], g, z => by simp [look]
  | (y, p') :: r, g, z => by
    rw [List.cons_append, look, look, look_append r g z]
    by_cases e : y = z <;> simp [e]
/-- each name once, an unknown; each worth as it should be -/
structure StOk (T N : Str → Prop) (f : Fl) : Prop where
  nd : (f.map (·.1)).Nodup
  un : ∀ e ∈ f, unkS e.1 = true
  ok : ∀ e ∈ f, okT T N e.2 ∧ dpT e.2 ≤ 40
theorem StOk.nil {T N : Str → Prop} : StOk T N [] := ⟨List.nodup_nil, (by intro e h; cases h), (by intro e h; cases h)⟩
theorem StOk.put {T N : Str → Prop} {f : Fl} (h : StOk T N f) {z : Str} {p : Pt} (hz : unkS z = true) (hp : okT T N p ∧ dpT p ≤ 40) : StOk T N (putF f z p) := by
  unfold putF
  by_cases c : (look f z).isSome = true
  · rw [if_pos c]
    refine ⟨?_, fun e he => ?_, fun e he => ?_⟩
    · rw [List.map_map]
      have : ((fun e : Str × Pt => e.1) ∘ fun e : Str × Pt => if e.1 = z then (e.1, p) else e) = fun e => e.1 := by
        funext e
        show (if e.1 = z then (e.1, p) else e).1 = e.1
        split <;> rfl
      rw [this]
      exact h.nd
    · obtain ⟨e', he', rfl⟩ := List.mem_map.mp he
      split
      · exact h.un e' he'
      · exact h.un e' he'
    · obtain ⟨e', he', rfl⟩ := List.mem_map.mp he
      split
      · exact hp
      · exact h.ok e' he'
  · rw [if_neg c]
    have hn : look f z = none := by
      cases e : look f z with
      | none => rfl
      | some _ =>
        rw [e] at c
        exact absurd rfl c
    have hn' := look_none.mp hn
    refine ⟨?_, fun e he => ?_, fun e he => ?_⟩
    · rw [List.map_append, List.nodup_append]
      refine ⟨h.nd, List.nodup_cons.mpr ⟨(by intro h; cases h), List.nodup_nil⟩, fun a ha b hb => ?_⟩
      obtain ⟨e, he, rfl⟩ := List.mem_map.mp ha
      have : b = z := by simpa using hb
      rw [this]
      exact hn' e he
    · rcases List.mem_append.mp he with he | he
      · exact h.un e he
      · rw [List.mem_singleton.mp he]
        exact hz
    · rcases List.mem_append.mp he with he | he
      · exact h.ok e he
      · rw [List.mem_singleton.mp he]
        exact hp
theorem StOk.more {T N : Str → Prop} {f : Fl} (h : StOk T N f) {z : Str} {p : Pt} (hz : unkS z = true) (hn : look f z = none) (hp : okT T N p ∧ dpT p ≤ 40) : StOk T N (f ++ [(z, p)]) := putF_none p hn ▸ h.put hz hp
theorem StOk.known {T N : Str → Prop} {f : Fl} (h : StOk T N f) {z : Str} (hz : unkS z = false) : look f z = none := look_none.mpr fun e he c => by
  have := h.un e he
  rw [c, hz] at this
  cases this
theorem pt_shaped {T N : Str → Prop} (hT : ∀ z, T z → okStr z = true) (hN : ∀ z, N z → okStr z = true) {p : Pt} (h : okT T N p ∧ dpT p ≤ 40) : SeqAt.shaped (ptD p) = true := ptD_shaped hT hN h.1 (by omega)
/-- the same told twice: the two dicts differ not -/
theorem x_neSt {T N : Str → Prop} (hT : ∀ z, T z → okStr z = true) (hN : ∀ z, N z → okStr z = true) {K : PySem.W.Frag} {H : Hp} {Q : VK} {a b : Addr} {k j : Nat} {r r' : List (Key × V)} {f : Fl} (ha : H a = some (.dK r)) (hb : H b = some (.dK r')) (h : StAt K H k r f) (h' : StAt K H j r' f) (ok : StOk T N f) (q : Q (.bl false) H) : rNeDD K (.ref a) (.ref b) H Q := by
  refine ⟨a, b, r, r', rfl, rfl, ha, hb, by rw [h.len, h'.len], ?_, q⟩
  clear ha hb
  have nd := ok.nd
  have okk := ok.ok
  clear ok
  induction h generalizing r' with
  | nil => intro p hp; cases hp
  | @cons z v p r f a b ih =>
    cases h' with
    | @cons _ v' _ r2 _ a' b' =>
      intro e he
      rw [List.map_cons, List.nodup_cons] at nd
      rcases List.mem_cons.mp he with rfl | he
      · exact ⟨v', ptD p, valV_pos (p := ((Sum.inr z : Key), v')) rfl, a.dpd, a'.dpd, pt_shaped hT hN (okk _ (List.mem_cons_self ..))⟩
      · obtain ⟨u, d, e1, e2, e3, e4⟩ := ih b' nd.2 (fun e he => okk e (List.mem_cons_of_mem _ he)) e he
        refine ⟨u, d, ?_, e2, e3, e4⟩
        rw [valV_neg (p := ((Sum.inr z : Key), v'))]
        · exact e1
        · intro c
          have h1 : e.1 ∈ r.map (·.1) := List.mem_map.mpr ⟨e, he, rfl⟩
          rw [b.keys, ← c] at h1
          obtain ⟨y, hy, ey⟩ := List.mem_map.mp h1
          cases ey
          exact nd.1 hy
/-! ### matching -/
/-- compared as the program compares -/
def bq (u t : Pt) : Bool := PyData.eqv (ptD u) (ptD t)
mutual
def mt : Pt → Pt → Fl → Bool × Fl
  | .i n, t, f => (bq (.i n) t, f)
  | .s z, t, f => if unkS z = true then (match look f z with
      | some u => (bq u t, f)
      | none => (true, f ++ [(z, t)])) else (bq (.s z) t, f)
  | .t nm ps, .t nm' ts, f => if nm = nm' ∧ ts.length = ps.length then mtL ps ts f else (false, f)
  | .t _ _, _, f => (false, f)
def mtL : List Pt → List Pt → Fl → Bool × Fl
  | p :: ps, t :: ts, f => if (mt p t f).1 = true then mtL ps ts (mt p t f).2 else mt p t f
  | [], _, f => (true, f)
  | _ :: _, [], f => (true, f)
end
theorem mtL_more : ∀ {ps ts : List Pt} {i : Nat} {p t : Pt} {f : Fl}, ps[i]? = some p → ts[i]? = some t →
    mtL (ps.take (i + 1)) (ts.take (i + 1)) f = if (mtL (ps.take i) (ts.take i) f).1 = true then mt p t (mtL (ps.take i) (ts.take i) f).2 else mtL (ps.take i) (ts.take i) f
  | [], _, _, _, _, _, h, _ => by cases h
  | _ :: _, [], _, _, _, _, _, h => by cases h
  | p0 :: ps, t0 :: ts, 0, p, t, f, h1, h2 => by
    cases h1
    cases h2
    simp only [List.take_zero, List.take_succ_cons, mtL, if_true]
    by_cases c : (mt p0 t0 f).1 = true
    · rw [if_pos c]
      rw [← c]
    · rw [if_neg c]
  | p0 :: ps, t0 :: ts, i + 1, p, t, f, h1, h2 => by
    rw [List.take_succ_cons, List.take_succ_cons, List.take_succ_cons, List.take_succ_cons, mtL, mtL]
    by_cases c : (mt p0 t0 f).1 = true
    · rw [if_pos c, if_pos c]
      exact mtL_more (ps := ps) (ts := ts) h1 h2
    · rw [if_neg c, if_neg c, if_neg c]
/-- once it has failed, it has failed -/
theorem mtL_fail : ∀ {ps ts : List Pt} {f : Fl} (i : Nat), (mtL (ps.take i) (ts.take i) f).1 = false → (mtL ps ts f).1 = false
  | [], ts, f, i, h => by
    rw [List.take_nil, mtL] at h
    cases h
  | p :: ps, [], f, i, h => by
    cases i with
    | zero =>
      rw [List.take_zero, mtL] at h
      cases h
    | succ i =>
      rw [List.take_nil, List.take_succ_cons, mtL] at h
      cases h
  | p :: ps, t :: ts, f, 0, h => by
    rw [List.take_zero, mtL] at h
    cases h
  | p :: ps, t :: ts, f, i + 1, h => by
    rw [List.take_succ_cons, List.take_succ_cons, mtL] at h
    rw [mtL]
    by_cases c : (mt p t f).1 = true
    · rw [if_pos c] at h ⊢
      exact mtL_fail i h
    · rw [if_neg c] at h ⊢
      exact h
mutual
theorem mt_len : ∀ (p t : Pt) (f : Fl), (mt p t f).2.length ≤ f.length + szT p
  | .i n, t, f => by
    rw [mt]
    exact Nat.le_add_right _ _
  | .s z, t, f => by
    rw [mt]
    split
    · split
      · exact Nat.le_add_right _ _
      · rw [List.length_append, szT]
        exact Nat.le_refl _
    · exact Nat.le_add_right _ _
  | .t nm ps, .t nm' ts, f => by
    rw [mt]
    split
    · have := mtL_len ps ts f
      rw [szT]
      omega
    · exact Nat.le_add_right _ _
  | .t nm ps, .i n, f => by
    rw [mt]
    · exact Nat.le_add_right _ _
    · intro _ _ h; cases h
  | .t nm ps, .s z, f => by
    rw [mt]
    · exact Nat.le_add_right _ _
    · intro _ _ h; cases h
theorem mtL_len : ∀ (ps ts : List Pt) (f : Fl), (mtL ps ts f).2.length ≤ f.length + szL ps
  | [], ts, f => by
    rw [mtL]
    exact Nat.le_add_right _ _
  | p :: ps, [], f => by
    rw [mtL]
    exact Nat.le_add_right _ _
  | p :: ps, t :: ts, f => by
    have h1 := mt_len p t f
    have h2 := mtL_len ps ts (mt p t f).2
    rw [mtL, szL]
    split <;> omega
end
mutual
theorem mt_ok {T N : Str → Prop} : ∀ (p t : Pt) (f : Fl), StOk T N f → okT T N t ∧ dpT t ≤ 40 → StOk T N (mt p t f).2
  | .i n, t, f, h, _ => by
    rw [mt]
    exact h
  | .s z, t, f, h, ht => by
    rw [mt]
    split
    · rename_i hz
      split
      · exact h
      · rename_i hn
        exact h.more hz hn ht
    · exact h
  | .t nm ps, .t nm' ts, f, h, ht => by
    rw [mt]
    split
    · refine mtL_ok ps ts f h fun t m => ⟨okL_mem.mp ht.1.2.2.2 t m, ?_⟩
      have := dpL_mem m
      have := ht.2
      rw [dpT] at this
      omega
    · exact h
  | .t nm ps, .i n, f, h, _ => by
    rw [mt]
    · exact h
    · intro _ _ h; cases h
  | .t nm ps, .s z, f, h, _ => by
    rw [mt]
    · exact h
    · intro _ _ h; cases h
theorem mtL_ok {T N : Str → Prop} : ∀ (ps ts : List Pt) (f : Fl), StOk T N f → (∀ t ∈ ts, okT T N t ∧ dpT t ≤ 40) → StOk T N (mtL ps ts f).2
  | [], ts, f, h, _ => by
    rw [mtL]
    exact h
  | p :: ps, [], f, h, _ => by
    rw [mtL]
    exact h
  | p :: ps, t :: ts, f, h, ht => by
    have h1 := mt_ok p t f h (ht t (List.mem_cons_self ..))
    have h2 := mtL_ok ps ts (mt p t f).2 h1 fun t m => ht t (List.mem_cons_of_mem _ m)
    rw [mtL]
    split
    · exact h2
    · exact h1
end
/-! ### what is bound, put in -/
mutual
def putI (f : Fl) : Pt → Pt
  | .i n => .i n
  | .s z => (look f z).getD (.s z)
  | .t nm ps => .t nm (putL f ps)
def putL (f : Fl) : List Pt → List Pt
  | [] => []
  | p :: r => putI f p :: putL f r
end
theorem putL_map (f : Fl) : ∀ ps : List Pt, putL f ps = ps.map (putI f)
  | [] => rfl
  | p :: r => by rw [putL, putL_map f r, List.map_cons]
/-- names that are bound stay bound, to the same -/
def Ext (f g : Fl) : Prop := ∀ z u, look f z = some u → look g z = some u
mutual
theorem mt_ext : ∀ (p t : Pt) (f : Fl), Ext f (mt p t f).2
  | .i n, t, f => by
    rw [mt]
    exact fun _ _ h => h
  | .s z, t, f => by
    rw [mt]
    split
    · split
      · exact fun _ _ h => h
      · intro y u h
        show look (f ++ [(z, t)]) y = _
        rw [look_append, h]
        rfl
    · exact fun _ _ h => h
  | .t nm ps, .t nm' ts, f => by
    rw [mt]
    split
    · exact mtL_ext ps ts f
    · exact fun _ _ h => h
  | .t nm ps, .i n, f => by
    rw [mt]
    · exact fun _ _ h => h
    · intro _ _ h; cases h
  | .t nm ps, .s z, f => by
    rw [mt]
    · exact fun _ _ h => h
    · intro _ _ h; cases h
theorem mtL_ext : ∀ (ps ts : List Pt) (f : Fl), Ext f (mtL ps ts f).2
  | [], ts, f => by
    rw [mtL]
    exact fun _ _ h => h
  | p :: ps, [], f => by
    rw [mtL]
    exact fun _ _ h => h
  | p :: ps, t :: ts, f => by
    have h1 := mt_ext p t f
    have h2 := mtL_ext ps ts (mt p t f).2
    rw [mtL]
    split
    · exact fun z u h => h2 z u (h1 z u h)
    · exact h1
end
mutual
theorem put_ext {f g : Fl} (h : Ext f g) : ∀ (p : Pt), (∀ z ∈ nmT p, (look f z).isSome = true) → (∀ z, unkS z = false → look f z = none ∧ look g z = none) → putI g p = putI f p
  | .i n, _, _ => rfl
  | .s z, hb, hn => by
    rw [putI, putI]
    by_cases c : unkS z = true
    · have := hb z (by rw [nmT, if_pos c]; exact List.mem_cons_self ..)
      cases e : look f z with
      | none =>
        rw [e] at this
        cases this
      | some u => rw [h z u e]
    · have c' : unkS z = false := by simpa using c
      rw [(hn z c').1, (hn z c').2]
  | .t nm ps, hb, hn => by
    rw [putI, putI, putL_ext h ps hb hn]
theorem putL_ext {f g : Fl} (h : Ext f g) : ∀ (ps : List Pt), (∀ z ∈ nmL ps, (look f z).isSome = true) → (∀ z, unkS z = false → look f z = none ∧ look g z = none) → putL g ps = putL f ps
  | [], _, _ => rfl
  | p :: r, hb, hn => by
    rw [putL, putL, put_ext h p (fun z hz => hb z (by rw [nmL]; exact List.mem_append_left _ hz)) hn, putL_ext h r (fun z hz => hb z (by rw [nmL]; exact List.mem_append_right _ hz)) hn]
end
mutual
theorem ptD_inj : ∀ {u t : Pt}, PyData.eqv (ptD u) (ptD t) = true → u = t
  | .i n, .i m, h => by
    have : n = m := by simpa [ptD, PyData.eqv] using h
    rw [this]
  | .i n, .s z, h => by simp [ptD, PyData.eqv] at h
  | .i n, .t nm ps, h => by simp [ptD, PyData.eqv] at h
  | .s z, .i m, h => by simp [ptD, PyData.eqv] at h
  | .s y, .s z, h => by
    have : y = z := by simpa [ptD, PyData.eqv] using h
    rw [this]
  | .s z, .t nm ps, h => by simp [ptD, PyData.eqv] at h
  | .t nm ps, .i m, h => by simp [ptD, PyData.eqv] at h
  | .t nm ps, .s z, h => by simp [ptD, PyData.eqv] at h
  | .t nm ps, .t nm' ts, h => by
    have h' : nm = nm' ∧ PyData.eqvAll (ptDL ps) (ptDL ts) = true := by simpa [ptD, PyData.eqv, PyData.eqvAll] using h
    rw [h'.1, ptDL_inj h'.2]
theorem ptDL_inj : ∀ {ps ts : List Pt}, PyData.eqvAll (ptDL ps) (ptDL ts) = true → ps = ts
  | [], [], _ => rfl
  | [], t :: ts, h => by simp [ptDL, PyData.eqvAll] at h
  | p :: ps, [], h => by simp [ptDL, PyData.eqvAll] at h
  | p :: ps, t :: ts, h => by
    have h' : PyData.eqv (ptD p) (ptD t) = true ∧ PyData.eqvAll (ptDL ps) (ptDL ts) = true := by simpa [ptDL, PyData.eqvAll] using h
    rw [ptD_inj h'.1, ptDL_inj h'.2]
end
theorem ext_none {T N : Str → Prop} {f : Fl} (h : StOk T N f) {z : Str} (hz : unkS z = false) : look f z = none := h.known hz
mutual
/-- what has matched, put in, is the term -/
theorem mt_put {T N : Str → Prop} : ∀ (p t : Pt) (f : Fl), StOk T N f → okT T N t ∧ dpT t ≤ 40 → (mt p t f).1 = true → putI (mt p t f).2 p = t ∧ ∀ z ∈ nmT p, (look (mt p t f).2 z).isSome = true
  | .i n, t, f, _, _, h => by
    rw [mt] at h ⊢
    exact ⟨ptD_inj h, fun z hz => by cases hz⟩
  | .s z, t, f, hf, _, h => by
    rw [mt] at h ⊢
    by_cases c : unkS z = true
    · rw [if_pos c] at h ⊢
      cases e : look f z with
      | some u =>
        rw [e] at h
        simp only [e]
        refine ⟨?_, fun y hy => ?_⟩
        · rw [putI, e]
          exact ptD_inj h
        · rw [nmT, if_pos c, List.mem_singleton] at hy
          rw [hy, e]
          rfl
      | none =>
        simp only [e]
        have hl : look (f ++ [(z, t)]) z = some t := by
          rw [look_append, e, look, if_pos rfl]
          rfl
        refine ⟨?_, fun y hy => ?_⟩
        · rw [putI, hl]
          rfl
        · rw [nmT, if_pos c, List.mem_singleton] at hy
          rw [hy, hl]
          rfl
    · rw [if_neg c] at h ⊢
      have c' : unkS z = false := by simpa using c
      refine ⟨?_, fun y hy => ?_⟩
      · show putI f (.s z) = t
        rw [putI, hf.known c']
        exact ptD_inj h
      · rw [nmT, if_neg c] at hy
        cases hy
  | .t nm ps, .t nm' ts, f, hf, ht, h => by
    rw [mt] at h ⊢
    by_cases c : nm = nm' ∧ ts.length = ps.length
    · rw [if_pos c] at h ⊢
      have := mtL_put ps ts f hf (fun t m => ⟨okL_mem.mp ht.1.2.2.2 t m, by
        have h1 := dpL_mem m
        have h2 := ht.2
        rw [dpT] at h2
        omega⟩) c.2 h
      refine ⟨?_, this.2⟩
      rw [putI, this.1, c.1]
    · rw [if_neg c] at h
      cases h
  | .t nm ps, .i n, f, _, _, h => by
    rw [mt] at h
    · cases h
    · intro _ _ h; cases h
  | .t nm ps, .s z, f, _, _, h => by
    rw [mt] at h
    · cases h
    · intro _ _ h; cases h
theorem mtL_put {T N : Str → Prop} : ∀ (ps ts : List Pt) (f : Fl), StOk T N f → (∀ t ∈ ts, okT T N t ∧ dpT t ≤ 40) → ts.length = ps.length → (mtL ps ts f).1 = true → putL (mtL ps ts f).2 ps = ts ∧ ∀ z ∈ nmL ps, (look (mtL ps ts f).2 z).isSome = true
  | [], [], f, _, _, _, _ => ⟨rfl, fun z hz => by cases hz⟩
  | [], t :: ts, f, _, _, hl, _ => by cases hl
  | p :: ps, [], f, _, _, hl, _ => by cases hl
  | p :: ps, t :: ts, f, hf, ht, hl, h => by
    rw [mtL] at h ⊢
    by_cases c : (mt p t f).1 = true
    · rw [if_pos c] at h ⊢
      have hp := ht t (List.mem_cons_self ..)
      have h1 := mt_put p t f hf hp c
      have o1 := mt_ok p t f hf hp
      have h2 := mtL_put ps ts (mt p t f).2 o1 (fun t m => ht t (List.mem_cons_of_mem _ m)) (Nat.succ.inj hl) h
      have o2 := mtL_ok ps ts (mt p t f).2 o1 fun t m => ht t (List.mem_cons_of_mem _ m)
      have x2 := mtL_ext ps ts (mt p t f).2
      refine ⟨?_, fun z hz => ?_⟩
      · rw [putL, h2.1, put_ext x2 p h1.2 fun z hz => ⟨o1.known hz, o2.known hz⟩, h1.1]
      · rw [nmL] at hz
        rcases List.mem_append.mp hz with hz | hz
        · have := h1.2 z hz
          cases e : look (mt p t f).2 z with
          | none =>
            rw [e] at this
            cases this
          | some u => rw [x2 z u e]; rfl
        · exact h2.2 z hz
    · exact absurd h (by rw [if_neg c]; exact c)
end
theorem mt_ti (nm : Str) (ps : List Pt) (n : Int) (f : Fl) : mt (.t nm ps) (.i n) f = (false, f) := by
  rw [mt]
  intro _ _ h
  cases h
theorem mt_ts (nm : Str) (ps : List Pt) (z : Str) (f : Fl) : mt (.t nm ps) (.s z) f = (false, f) := by
  rw [mt]
  intro _ _ h
  cases h
theorem mt_known {z u : _} {t : Pt} {f : Fl} (c : unkS z = true) (h : look f z = some u) : mt (.s z) t f = (bq u t, f) := by
  rw [mt, if_pos c, h]
theorem mt_new {z : Str} {t : Pt} {f : Fl} (c : unkS z = true) (h : look f z = none) : mt (.s z) t f = (true, f ++ [(z, t)]) := by
  rw [mt, if_pos c, h]
theorem mt_word {z : Str} {t : Pt} {f : Fl} (c : unkS z = false) : mt (.s z) t f = (bq (.s z) t, f) := by
  rw [mt, if_neg (by rw [c]; decide)]
theorem mt_tt {nm nm' : Str} {ps ts : List Pt} {f : Fl} (h : nm = nm' ∧ ts.length = ps.length) : mt (.t nm ps) (.t nm' ts) f = mtL ps ts f := by
  rw [mt, if_pos h]
theorem mt_tf {nm nm' : Str} {ps ts : List Pt} {f : Fl} (h : ¬(nm = nm' ∧ ts.length = ps.length)) : mt (.t nm ps) (.t nm' ts) f = (false, f) := by
  rw [mt, if_neg h]
/-! ### readings of what dicts are asked, and of loops over two tuples -/
theorem x_dget2 {td ty tx : TE} {σ : L2.St} {H : Hp} {Q : VK} (q : td σ H fun x H1 => ∃ a, x = .ref a ∧ IsD H1 a ∧ ty σ H1 fun y H2 => tx σ H2 fun z H3 => ∃ o, DGet H3 a y o ∧ Q (o.getD z) H3) : tDGet2 td ty tx σ H Q := q
theorem x_dget {td ty : TE} {σ : L2.St} {H : Hp} {Q : VK} (q : td σ H fun x H1 => ty σ H1 fun y H2 => ∃ a v, x = .ref a ∧ DGet H2 a y (some v) ∧ Q v H2) : tDGet td ty σ H Q := q
theorem x_dsetd {td ty tx : TE} {σ : L2.St} {H : Hp} {Q : VK} (q : td σ H fun x H1 => ∃ a, x = .ref a ∧ IsD H1 a ∧ ty σ H1 fun y H2 => tx σ H2 fun z H3 => ∃ (kvs : List (Key × V)) (k : Key), H3 a = some (.dK kvs) ∧ y = kV k ∧ kvs.length < sizeLine ∧ (∀ v, valV kvs k = some v → Q v H3) ∧ (valV kvs k = none → Q z (upd H3 a (.dK (putK kvs k z))))) : tDSetd td ty tx σ H Q := q
theorem x_dnin {td ty : TE} {σ : L2.St} {H : Hp} {Q : VK} (q : ty σ H fun y H1 => td σ H1 fun x H2 => ∃ a o, x = .ref a ∧ DGet H2 a y o ∧ Q (.bl (!o.isSome)) H2) : tDNotIn ty td σ H Q := q
theorem x_zip {K : PySem.W.Frag} {ta : TA} {σ : L2.St} {H : Hp} {R : It → Hp → Prop} (q : ta σ H fun vs H1 => ∃ a b xs ys, vs = [.ref a, .ref b] ∧ SqL K H1 a xs ∧ SqL K H1 b ys ∧ R (Itz K a b) H1) : iZip K ta σ H R := q
theorem x_zipA {K : PySem.W.Frag} {ta : TA} {σ : L2.St} {H : Hp} {R : It → Hp → Prop} (q : ta σ H fun vs H1 => ∃ a b xs ys, vs = [.ref a, .ref b] ∧ ((SqL K H1 a xs ∧ SqL K H1 b ys ∧ R (Itz K a b) H1) ∨ (SqT K H1 a xs ∧ SqT K H1 b ys ∧ R (RZ.ItzT K a b) H1))) : RZ.iZipA K ta σ H R := q
section
variable {K : PySem.W.Frag} {a b : Addr} {xs ys : List V} {g : TG} {tb : TS} {X : L2.St → Hp → Prop} {rt : VK} {σ : L2.St} {H : Hp}
theorem x_zipT (Pv : Nat → L2.St → Hp → Prop) (hl : xs.length = ys.length) (h0 : Pv 0 σ H) (hq : ∀ i σ H, Pv i σ H → SqT K H a xs ∧ SqT K H b ys)
    (hs : ∀ (i : Nat) (x y : V) (T : Addr) (σ : L2.St) (H : Hp), xs[i]? = some x → ys[i]? = some y → Pv i σ H → H T = none → g (.ref T) σ (upd H T (.tup [x, y])) fun σ2 H2 => tb { nx := Pv (i + 1), rt := rt, bk := X, ct := Pv (i + 1) } σ2 H2) (hd : ∀ σ H, Pv xs.length σ H → X σ H) :
    ∃ W : Nat → Nat → L2.St → Hp → Prop, (∃ m, W 0 m σ H) ∧ ∀ i m σ H, W i m σ H →
      ((RZ.ItzT K a b).stop i H ∧ X σ H) ∨ ((RZ.ItzT K a b).go i H ∧ ∃ N : L2.St → Hp → Prop, (∀ σ' H', N σ' H' → ∃ m', m' < m ∧ W (i + 1) m' σ' H') ∧ ∀ v H', (RZ.ItzT K a b).yld i H v H' → g v σ H' fun σ2 H2 => tb { nx := N, rt := rt, bk := X, ct := N } σ2 H2) :=
  RZ.for_zipT (D := { nx := X, rt := rt }) hl Pv h0 hq hs hd
theorem x_zipL (Pv : Nat → L2.St → Hp → Prop) (hl : xs.length = ys.length) (h0 : Pv 0 σ H) (hq : ∀ i σ H, Pv i σ H → SqL K H a xs ∧ SqL K H b ys)
    (hs : ∀ (i : Nat) (x y : V) (T : Addr) (σ : L2.St) (H : Hp), xs[i]? = some x → ys[i]? = some y → Pv i σ H → H T = none → g (.ref T) σ (upd H T (.tup [x, y])) fun σ2 H2 => tb { nx := Pv (i + 1), rt := rt, bk := X, ct := Pv (i + 1) } σ2 H2) (hd : ∀ σ H, Pv xs.length σ H → X σ H) :
    ∃ W : Nat → Nat → L2.St → Hp → Prop, (∃ m, W 0 m σ H) ∧ ∀ i m σ H, W i m σ H →
      ((Itz K a b).stop i H ∧ X σ H) ∨ ((Itz K a b).go i H ∧ ∃ N : L2.St → Hp → Prop, (∀ σ' H', N σ' H' → ∃ m', m' < m ∧ W (i + 1) m' σ' H') ∧ ∀ v H', (Itz K a b).yld i H v H' → g v σ H' fun σ2 H2 => tb { nx := N, rt := rt, bk := X, ct := N } σ2 H2) :=
  RZ.for_zipL (D := { nx := X, rt := rt }) hl Pv h0 hq hs hd
end
theorem nmL_mem : ∀ {ps : List Pt} {p : Pt} {z : Str}, p ∈ ps → z ∈ nmT p → z ∈ nmL ps
  | x :: r, p, z, h, hz => by
    rw [nmL]
    rcases List.mem_cons.mp h with rfl | h
    · exact List.mem_append_left _ hz
    · exact List.mem_append_right _ (nmL_mem h hz)
/-- all but one dict keeps -/
theorem sqT_kd {K : PySem.W.Frag} {d a : Addr} {r : List (Key × V)} {xs : List V} {H G : Hp} (k : Kx d d H G) (h : H d = some (.dK r)) (s : SqT K H a xs) : SqT K G a xs := by
  rcases s with (s | ⟨u, s⟩) | s
  · have := ne_of s h (by intro z; cases z)
    exact .inl (.inl (k _ _ s this this))
  · have := ne_of s h (by intro z; cases z)
    exact .inl (.inr ⟨u, k _ _ s this this⟩)
  · exact .inr s
mutual
theorem putI_ok {T N : Str → Prop} {f : Fl} (h : ∀ e ∈ f, okT T N e.2) : ∀ p : Pt, okT T N p → okT T N (putI f p)
  | .i n, o => o
  | .s z, o => by
    rw [putI]
    cases e : look f z with
    | none => exact o
    | some u => exact h _ (look_mem e)
  | .t nm ps, o => by
    rw [putI]
    refine ⟨o.1, ?_, ?_, putL_ok h ps o.2.2.2⟩
    · rw [putL_map, List.length_map]
      exact o.2.1
    · rw [putL_map, List.length_map]
      exact o.2.2.1
theorem putL_ok {T N : Str → Prop} {f : Fl} (h : ∀ e ∈ f, okT T N e.2) : ∀ ps : List Pt, okL T N ps → okL T N (putL f ps)
  | [], _ => trivial
  | p :: r, o => ⟨putI_ok h p o.1, putL_ok h r o.2⟩
end
mutual
theorem nmT_unk : ∀ (p : Pt) {z : Str}, z ∈ nmT p → unkS z = true
  | .i n, z, h => by cases h
  | .s y, z, h => by
    rw [nmT] at h
    by_cases c : unkS y = true
    · rw [if_pos c, List.mem_singleton] at h
      rw [h]
      exact c
    · rw [if_neg c] at h
      cases h
  | .t nm ps, z, h => nmL_unk ps h
theorem nmL_unk : ∀ (ps : List Pt) {z : Str}, z ∈ nmL ps → unkS z = true
  | [], z, h => by cases h
  | p :: r, z, h => by
    rw [nmL] at h
    rcases List.mem_append.mp h with h | h
    · exact nmT_unk p h
    · exact nmL_unk r h
end
theorem putF_len (f : Fl) (z : Str) (p : Pt) : (putF f z p).length ≤ f.length + 1 := by
  unfold putF
  split
  · rw [List.length_map]
    omega
  · rw [List.length_append]
    exact Nat.le_refl _
theorem x_disp1 {tk tv : TE} {σ : L2.St} {H : Hp} {Q : VK} (q : ∀ p, H p = none → tk σ (upd H p (.dK [])) fun x H1 => tv σ H1 fun y H2 => H2 p = some (.dK []) ∧ ∃ kvs : List (Key × V), [(x, y)] = kvs.map (fun kv => (kV kv.1, kv.2)) ∧ kvs.length ≤ 15 ∧ Q (.ref p) (upd H2 p (.dK (mergeK [] kvs)))) : tDisp [(tk, tv)] σ H Q := q
theorem x_eqSt {T N : Str → Prop} (hT : ∀ z, T z → okStr z = true) (hN : ∀ z, N z → okStr z = true) {K : PySem.W.Frag} {H : Hp} {Q : VK} {a b : Addr} {k j : Nat} {r r' : List (Key × V)} {f : Fl} (ha : H a = some (.dK r)) (hb : H b = some (.dK r')) (h : StAt K H k r f) (h' : StAt K H j r' f) (ok : StOk T N f) (q : Q (.bl true) H) : rEqDD K (.ref a) (.ref b) H Q := by
  obtain ⟨a', b', ks, ls, e1, e2, e3, e4, e5, e6, _⟩ := x_neSt (Q := fun _ _ => True) hT hN ha hb h h' ok trivial
  cases e1
  cases e2
  exact ⟨a, b, ks, ls, rfl, rfl, e3, e4, e5, e6, q⟩
end Gs

namespace Gs
open PySem PySem.Spec PyProof.Rows L2 TL
/-! ### sums over names -/
inductive Sm where
  | n (z : Int)
  | v (s : Str)
  | op (s : Str) (a b : Sm)
def Sm.pt : Sm → Pt
  | .n z => .i z
  | .v s => .s s
  | .op s a b => .t s [a.pt, b.pt]
def Sm.wt : Sm → Nat
  | .n _ => 210
  | .v _ => 210
  | .op _ a b => a.wt + b.wt + 1
def Sm.dep : Sm → Nat
  | .n _ => 1
  | .v _ => 1
  | .op _ a b => max a.dep b.dep + 1
def Sm.Ok (D : Str → Prop) : Sm → Prop
  | .n z => z.natAbs < 2 ^ 210
  | .v s => D s
  | .op s a b => s ∈ signs5 ∧ a.Ok D ∧ b.Ok D
theorem Sm.wt_pos : ∀ t : Sm, 210 ≤ t.wt
  | .n _ => Nat.le_refl _
  | .v _ => Nat.le_refl _
  | .op _ a b => by
    have := a.wt_pos
    rw [Sm.wt]
    omega
theorem Sm.Ok.imp {D D' : Str → Prop} (h : ∀ z, D z → D' z) : ∀ {t : Sm}, t.Ok D → t.Ok D'
  | .n _, o => o
  | .v s, o => h s o
  | .op _ _ _, o => ⟨o.1, o.2.1.imp h, o.2.2.imp h⟩
theorem Sm.pt_dep : ∀ t : Sm, dpT t.pt = t.dep
  | .n _ => rfl
  | .v _ => rfl
  | .op s a b => by
    rw [Sm.pt, dpT, dpL, dpL, dpL, a.pt_dep, b.pt_dep, Sm.dep]
    omega
/-- the number that a thing is -/
def numP : Pt → Option Int
  | .i n => some n
  | _ => none
def wo (f : Fl) : Sm → Option Int
  | .n z => some z
  | .v s => (look f s).bind numP
  | .op s a b => match wo f a, wo f b with
    | some x, some y => reck s x y
    | _, _ => none
def NumLt (f : Fl) : Prop := ∀ z n, look f z = some (.i n) → n.natAbs < 2 ^ 210
theorem wo_lt {f : Fl} {D : Str → Prop} (hf : NumLt f) : ∀ {t : Sm} {x : Int}, t.Ok D → wo f t = some x → x.natAbs < 2 ^ t.wt
  | .n _, _, h, e => by
    cases e
    exact h
  | .v s, x, h, e => by
    rw [wo] at e
    cases c : look f s with
    | none =>
      rw [c] at e
      cases e
    | some p =>
      rw [c] at e
      cases p with
      | i n =>
        cases e
        exact hf s _ c
      | s _ => cases e
      | t _ _ => cases e
  | .op s a b, z, h, e => by
    rw [wo] at e
    split at e
    · next x y e1 e2 => exact reck_lt (wo_lt hf h.2.1 e1) (wo_lt hf h.2.2 e2) e
    · cases e
theorem wo_op {f : Fl} {s : Str} {a b : Sm} {x y : Int} (h1 : wo f a = some x) (h2 : wo f b = some y) : wo f (.op s a b) = reck s x y := by
  rw [wo, h1, h2]
theorem one_pt {K : PySem.W.Frag} {H : Hp} {k : Nat} {v : V} {p : Pt} (h : PtAt K H k v p) : OneAt K H v (numP p) := by
  rcases h.three with ⟨n, rfl, rfl⟩ | ⟨z, rfl, rfl⟩ | ⟨j, nm, qs, a, us, _, rfl, rfl, sa, _⟩
  · exact .inl ⟨n, rfl, rfl⟩
  · exact .inr (.inl ⟨z, rfl, rfl⟩)
  · exact .inr (.inr ⟨a, _, rfl, sa, rfl⟩)
theorem Sm.three {K : PySem.W.Frag} {H : Hp} {k : Nat} {x : V} {t : Sm} (h : PtAt K H k x t.pt) : (∃ n, x = .int n ∧ t = .n n) ∨ (∃ z, x = .str z ∧ t = .v z) ∨ ∃ (j : Nat) (s : Str) (a b : Sm) (p : Addr) (y z : V), k = j + 1 ∧ x = .ref p ∧ t = .op s a b ∧ SqT K H p [.str s, y, z] ∧ PtAt K H j y a.pt ∧ PtAt K H j z b.pt := by
  cases t with
  | n z =>
    rcases h.three with ⟨n, rfl, e⟩ | ⟨_, _, e⟩ | ⟨_, _, _, _, _, _, _, e, _⟩
    · cases e
      exact .inl ⟨_, rfl, rfl⟩
    · cases e
    · cases e
  | v z =>
    rcases h.three with ⟨n, _, e⟩ | ⟨_, rfl, e⟩ | ⟨_, _, _, _, _, _, _, e, _⟩
    · cases e
    · cases e
      exact .inr (.inl ⟨_, rfl, rfl⟩)
    · cases e
  | op s a b =>
    rcases h.three with ⟨n, _, e⟩ | ⟨_, _, e⟩ | ⟨j, nm, qs, p, us, hk, rfl, e, sa, pq⟩
    · cases e
    · cases e
    · cases e
      refine .inr (.inr ?_)
      obtain ⟨hl, hh⟩ := pq
      match us, hl with
      | [y, z], _ => exact ⟨j, s, a, b, p, y, z, hk, rfl, rfl, sa, hh 0 y _ rfl rfl, hh 1 z _ rfl rfl⟩
/-! ### parts in a chain -/
def chain : List Pt → Pt
  | [] => .i 0
  | [p] => p
  | p :: q :: r => .t "and" [p, chain (q :: r)]
def notAnd : Pt → Prop
  | .t nm ps => nm ≠ "and"
  | _ => True
end Gs

namespace Gs
open PySem PySem.Spec PyProof.Rows L2
/-! ### list(d.values()) -/
def tListVals (td : TE) : TE := fun σ H Q => td σ H fun x H1 => ∃ (a : Addr) (kvs : List (Key × V)), x = V.ref a ∧ H1 a = some (.dK kvs) ∧ ∀ p, H1 p = none → Q (.ref p) (upd H1 p (.lst (kvs.map (·.2))))
theorem pe_listVals {X : Cx} {o : PySem.Expr} {p pos apos mpos : Pos} {td : TE} (hc : X.calm = true) (hg : Gl X "list") (hm : X.mg "list" = none) (hd : PE X o td) (hbase : attributeBase o "values" X.env (eval o X.env) = eval o X.env := by rfl) (hline : (apos.endLine == mpos.line) = true := by rfl)
    (hse : backTo pos (starEach [PySem.Expr.Call (.Attribute o "values" apos) [] [] mpos] X.env) = [(false, eval (PySem.Expr.Call (.Attribute o "values" apos) [] [] mpos) X.env)] := by rfl) :
    PE X (.Call (.Name "list" p) [.Call (.Attribute o "values" apos) [] [] mpos] [] pos) (tListVals td) := by
  refine ⟨fun pins s σ H Q I h => ?_⟩
  refine wpAny_Call_Name_kw (ld_blt I hg hm (u := .type "list") (by first | rfl | decide +kernel) ?_ (by first | decide +kernel | decide) (by first | decide +kernel | decide))
  rw [hse]
  refine PySem.callWith_type1 (wpAny_Call_method0_late hbase hline (thn (hd.run pins s σ H _ I h) fun v s1 ⟨x, H1, I1, r1, a, kvs, ex, ha, q⟩ => ?_))
  subst ex
  obtain rfl : v = Value.ref a := r1
  obtain ⟨z, hsys, vs, rel, dof⟩ := dk_of I1.hok ha
  obtain ⟨ep, dat⟩ := dof.dictAt
  have dat' := dat
  obtain ⟨ob, es, ho, ex, hdat, hko, hpr, hnd⟩ := dat'
  refine ⟨"dict", "dict.values", F.plainAttrs_dict, F.slot_dict_values, F.type_dict_values, ⟨ob, ho, ex.1⟩, fun b e => ?_, Calls.callWith_builtin rfl (PySem.evalArgs_none ?_)⟩
  · cases e
    exact ⟨ob, ho, ex.2.1⟩
  refine call_meetsIn F.slot_dict_values ⟨ob, ho, ex.1⟩ F.entry_dict_values (F.args_dict_values_1 _) (meets_dict_values (mixKind X.prog X.w) a hsys) ⟨⟨vs, dof⟩, ?_⟩
  have k1 : ∀ b u, s1.heap.get? b = some u → (s1.heap.push { cls := .type "dict_values", data := .fields #[.ref a] }).get? b = some u := fun b u e => Heap.get?_push_of_some _ e
  have dat1 : (s1.heap.push { cls := .type "dict_values", data := .fields #[.ref a] }).DictAt (mixKind X.prog X.w) a vs ep := dat.keep k1
  have hl : kvs.length = vs.length := Paired.length rel
  have hsz : (s1.heap.push { cls := .type "dict_values", data := .fields #[.ref a] }).objs.size = s1.heap.objs.size + 1 := Heap.size_push _ _
  refine PySem.W.kdl_call (PySem.W.kdl_values (knd := mixKind X.prog X.w) (kvs := vs) (ep := ep)) (I.ok.hd hc) ⟨⟨_, Heap.get?_push_size _ rfl, rfl, rfl⟩, dat1⟩ (by rw [← hl]; exact z) fun h' tk acc' c' hkeep hS hacc => ?_
  refine ⟨.ref (s1.heap.push { cls := .type "dict_values", data := .fields #[.ref a] }).objs.size, upd H1 (s1.heap.push { cls := .type "dict_values", data := .fields #[.ref a] }).objs.size (.lst (kvs.map (·.2))), I1.laid (fun b u e => hkeep b u (k1 b u e)) (by rw [hsz]; exact Nat.le_succ _) (show ObjOk X.prog X.w _ _ _ (.lst (kvs.map (·.2))) from ⟨?_, acc'.toList, c', ?_, ?_⟩), rfl, q _ (I1.hok.fresh (by rw [hsz]; exact Nat.le_succ _))⟩
  · rw [List.length_map]; exact z
  · have el : acc'.toList.length = acc'.size := by simp
    refine vals_of_at (by rw [List.length_map, el, hacc.1, hl]) fun j x w h1 h2 => ?_
    obtain ⟨k, hk⟩ := hacc.2 j w (by rw [← Array.getElem?_toList]; exact h2)
    obtain ⟨x', h3, h4⟩ := KV.at' rel hk
    rw [List.getElem?_map, h3] at h1
    cases h1
    exact h4
  · rw [Array.toArray_toList]; exact hS
theorem x_listVals {td : TE} {σ : L2.St} {H : Hp} {Q : VK} (q : td σ H fun x H1 => ∃ (a : Addr) (kvs : List (Key × V)), x = V.ref a ∧ H1 a = some (.dK kvs) ∧ ∀ p, H1 p = none → Q (.ref p) (upd H1 p (.lst (kvs.map (·.2))))) : tListVals td σ H Q := q
theorem op_inDR {X : Cx} {K : PySem.W.Frag} {j : Nat} (hr : Room j X.A) (h : X.K = K := by rfl) : OpR X (compareOp .In) (rInD K) := h ▸ op_inD (by have := hr.un; omega)
end Gs

namespace Gs
open PySem PySem.Spec PyProof.Rows L2
/-! ### xs[-2::-1] of a list -/
theorem pick_backL (its : List Value) : slicePick its.toArray (some (-2)) none (some (-1)) = (its.dropLast.reverse).toArray := by
  have eb : sliceBounds (some (-2)) none (some (-1)) its.toArray.size = (max (-1) ((its.length : Int) - 2), -1, -1) := by
    rw [List.size_toArray]
    unfold sliceBounds
    simp only [Option.getD_some, show ¬ ((-1 : Int) > 0) from by decide, if_false, show ((-2 : Int) < 0) from by decide, if_true]
    congr 1
    omega
  unfold slicePick
  rw [eb]
  congr 1
  dsimp only
  have er : sliceRange (max (-1) ((its.length : Int) - 2)) (-1) (-1) = (List.range (its.length - 1)).map fun k => its.length - 2 - k := by
    unfold sliceRange
    simp only [show ¬ ((-1 : Int) > 0) from by decide, if_false]
    have ec : (if max (-1) ((its.length : Int) - 2) > -1 then (max (-1) ((its.length : Int) - 2) - -1 - -1 - 1) / - -1 else 0).toNat = its.length - 1 := by
      rw [show (- -1 : Int) = 1 from rfl]
      split
      · rw [Int.ediv_one]
        omega
      · omega
    rw [ec]
    refine List.map_congr_left fun k hk => ?_
    have := List.mem_range.mp hk
    omega
  rw [er, List.filterMap_map]
  have hl : its.dropLast.reverse.length = its.length - 1 := by rw [List.length_reverse, List.length_dropLast]
  have e := filterMap_take its.dropLast.reverse (its.length - 1)
  rw [List.take_of_length_le (by omega)] at e
  rw [← e]
  refine fm_congr fun k hk => ?_
  have hk' := List.mem_range.mp hk
  show its.toArray[its.length - 2 - k]? = its.dropLast.reverse[k]?
  rw [List.getElem?_reverse (by rw [List.length_dropLast]; omega), List.length_dropLast, List.getElem?_toArray, List.dropLast_eq_take, List.getElem?_take_of_lt (by omega)]
  try congr 1
  try omega
def tBackL (K : PySem.W.Frag) (te : TE) : TE := fun σ H Q => te σ H fun x H1 => ∃ a xs, x = .ref a ∧ SqL K H1 a xs ∧ ∀ p, H1 p = none → Q (.ref p) (upd H1 p (.lst xs.dropLast.reverse))
theorem vals_dropLast : ∀ {xs : List V} {us : List Value}, Vals xs us → Vals xs.dropLast us.dropLast := by
  intro xs us h
  rw [List.dropLast_eq_take, List.dropLast_eq_take, ← h.length]
  exact h.take _
section
variable {X : Cx} {e : PySem.Expr} {te : TE} {p1 p2 p3 p4 p5 pos : Pos}
theorem pe_backL {j1 j2 : Nat} (he : PE X e te) :
    PE X (.Subscript e (.Slice (some (.UnaryOp .USub (.Constant (.int 2) j1 p1) p5)) none (some (.UnaryOp .USub (.Constant (.int 1) j2 p2) p3)) p4) pos) (tBackL X.K te) := by
  refine ⟨fun pins s σ H Q I h => ?_⟩
  refine Subscript_ ?_
  refine thn (he.run pins s σ H _ I h) fun o s1 hh => ?_
  obtain ⟨x, H1, I1, rx, a, xs, rfl, hS, q⟩ := hh
  obtain rfl := rx
  refine wpAny_Slice ?_
  refine thn ((po_some (X := X) (pe_un un_neg (pe_int (i := 2) (j := j1) (pos := p1)))).run pins s1 σ H1 (fun o G' => o = some (-2) ∧ G' = H1) I1 ⟨2, rfl, -2, rfl, rfl, rfl⟩) ?_
  rintro u s2 ⟨o, G, I2, ip, rfl, rfl⟩
  refine thn ((po_none (X := X)).run pins s2 σ G (fun o G' => o = none ∧ G' = G) I2 ⟨rfl, rfl⟩) ?_
  rintro u2 s3 ⟨o, G, I3, ip2, rfl, rfl⟩
  refine thn ((po_some (X := X) (pe_un un_neg (pe_int (i := 1) (j := j2) (pos := p2)))).run pins s3 σ G (fun o G' => o = some (-1) ∧ G' = G) I3 ⟨1, rfl, -1, rfl, rfl, rfl⟩) ?_
  rintro u3 s4 ⟨o, G, I4, ip3, rfl, rfl⟩
  have I5 : L2.Inv X pins σ G { heap := s4.heap.push { cls := Value.type "slice", data := Data.fields #[u, u2, u3] }, gens := s4.gens, drawn := s4.drawn, toks := s4.toks, os := s4.os } := I4.kept fun b u hb => Heap.get?_push_of_some _ hb
  obtain ⟨its, hv, ht, hz⟩ := I5.list hS
  refine tail_any ht.isList.typeIs slot_list_getitem.lookup (wpAny_getItem_list_slice ht.isList (Heap.IsSliceOf.new _ _ _ _) ip ip2 ip3 (by simp) ?_ (by rw [List.size_toArray, ← hv.length]; exact hz)) rfl
  rw [pick_backL]
  refine ⟨.ref _, _, I5.laid (o := .lst xs.dropLast.reverse) (fun b u hb => Heap.get?_push_of_some _ hb) (Nat.le_refl _) ?_, rfl, q _ (I5.hok.fresh (Nat.le_refl _))⟩
  exact ⟨by rw [List.length_reverse, List.length_dropLast]; omega, its.dropLast.reverse, 0, (vals_dropLast hv).reverse, Heap.get?_push_size _ rfl⟩
end
theorem x_backL {K : PySem.W.Frag} {te : TE} {σ : L2.St} {H : Hp} {Q : VK} (q : te σ H fun x H1 => ∃ a xs, x = .ref a ∧ SqL K H1 a xs ∧ ∀ p, H1 p = none → Q (.ref p) (upd H1 p (.lst xs.dropLast.reverse))) : tBackL K te σ H Q := q
end Gs

open PySem PySem.Spec PyProof.Rows L2 Gs TL
local macro_rules | `(tactic| walk_at "ne") => `(tactic| first | assumption | exact Ne.symm (by assumption) | exact ne_of_none (by assumption) (by assumption) | exact (ne_of_none (by assumption) (by assumption)).symm | exact ne_of_none upd_same (by assumption) | exact (ne_of_none upd_same (by assumption)).symm | (apply ne_of_nn; (next => assumption); (next => walk_at "hn")) | (apply Ne.symm; apply ne_of_nn; (next => assumption); (next => walk_at "hn")))
local macro_rules | `(tactic| walk_at "hx") => `(tactic| first | assumption | exact upd_same | (apply Eq.trans (upd_ne (by walk_at "ne")); walk_at "hx"))
local macro_rules | `(tactic| walk_at "sq") => `(tactic| first | assumption | (apply SqL.of; walk_at "hx") | (apply SqT.of; walk_at "hx") | (with_reducible apply sqT_new; (next => assumption); walk_at "sq") | (with_reducible apply sqL_new; (next => assumption); walk_at "sq"))
local macro_rules | `(tactic| walk_at "sx") => `(tactic| repeat (first
  | ((with_reducible apply x_var); (next => first | rfl | exact rfl)) | with_reducible refine x_c ?_ | with_reducible refine x_op ?_ | with_reducible refine x_un ?_ | with_reducible refine x_i0 ?_ | with_reducible refine x_u ?_
  | with_reducible refine x_nil ?_ | with_reducible refine x_cons ?_ | with_reducible refine x_call ?_ | with_reducible refine x_cb ?_ | with_reducible refine x_test ?_ | with_reducible refine x_B ?_
  | with_reducible refine x_and ?_ | with_reducible refine x_or ?_ | with_reducible refine x_not ?_ | with_reducible refine x_ifE ?_ | with_reducible refine x_andV ?_ | with_reducible refine x_orV ?_ | with_reducible refine x_notV ?_
  | with_reducible refine x_ex ?_ | with_reducible refine x_seq ?_ | with_reducible refine x_next ?_ | with_reducible refine x_brk ?_ | with_reducible refine x_cont ?_ | with_reducible refine x_asg ?_ | with_reducible refine x_drop ?_ | with_reducible refine x_ret ?_ | with_reducible refine x_retN ?_
  | with_reducible refine x_ifS ?_ | with_reducible refine x_gn ?_ | with_reducible refine x_gsub ?_ | ((with_reducible apply x_aug); (next => rfl)) | with_reducible refine x_lst ?_ | with_reducible refine x_tup ?_ | with_reducible refine x_sl ?_ | with_reducible refine x_part ?_ | with_reducible refine x_exI ?_ | with_reducible refine x_nopart ?_
  | with_reducible refine x_bm ?_ | with_reducible refine x_bm0 ?_ | with_reducible refine x_iteF ?_ | with_reducible refine x_iteT ?_ | ((with_reducible apply x_eq); (next => rfl)) | ((with_reducible apply x_ne); (next => rfl))
  | ((with_reducible apply x_ixL); (next => walk_at "sq"); (next => (first | exact at0 rfl | exact at1 rfl | exact at2 rfl | exact at3 rfl | exact at4 rfl | exact at5 rfl | exact at6 rfl | exact at7 rfl | exact at8 rfl | exact at9 rfl))) | ((with_reducible apply x_ixT); (next => walk_at "sq"); (next => (first | exact at0 rfl | exact at1 rfl | exact at2 rfl | exact at3 rfl | exact at4 rfl | exact at5 rfl | exact at6 rfl | exact at7 rfl | exact at8 rfl | exact at9 rfl)))
  | ((with_reducible apply x_setL); (next => walk_at "hx"); (next => (first | exact ix0 (Nat.le_of_ble_eq_true rfl) | exact ix1 (Nat.le_of_ble_eq_true rfl) | exact ix2 (Nat.le_of_ble_eq_true rfl) | exact ix3 (Nat.le_of_ble_eq_true rfl) | exact ix4 (Nat.le_of_ble_eq_true rfl))))
  | ((with_reducible apply x_mod); (next => omega); (intro r h0 h1 h2)) | ((with_reducible apply x_div); (next => first | exact cdivW (by omega) (by omega) | assumption); (intro r h0 h1))
  | ((with_reducible apply x_i); (next => first | assumption | exact cmulW (by omega) (by omega) | exact (show _ ≠ _ by decide) | exact ⟨by decide, by decide, by omega⟩ | exact cdivW (by omega) (by omega) | exact (show _ ≠ _ by omega)))
  | with_reducible refine x_for ?_ | with_reducible refine x_rng1 ?_ | with_reducible refine x_rng2 ?_ | with_reducible refine x_ilist ?_ | with_reducible refine x_itup ?_
  | with_reducible refine x_callN ?_ | with_reducible refine x_ip ?_ | with_reducible refine x_chain ?_ | with_reducible refine x_chain3 ?_ | with_reducible refine x_ckw ?_ | with_reducible refine x_star ?_ | with_reducible refine x_ienumS ?_ | with_reducible refine x_lc ?_ | with_reducible refine x_yes ?_ | with_reducible refine x_m1 ?_ | with_reducible refine x_m0 ?_ | with_reducible refine x_isStr ?_ | ((with_reducible apply x_lenKL); (next => walk_at "sq")) | ((with_reducible apply x_lenKT); (next => walk_at "sq")) | with_reducible refine x_intB ?_ | with_reducible refine x_inS ?_
  | ((with_reducible apply x_tyL); (next => walk_at "sq")) | ((with_reducible apply x_ib); (next => rfl)) | ((with_reducible apply x_if0); (next => rfl))
  | with_reducible refine x_gcons ?_ | with_reducible refine x_gnil ?_ | ((with_reducible apply x_gtup); (next => walk_at "sq"); (next => rfl)) | with_reducible refine x_mkO ?_ | with_reducible refine x_enum ?_ | with_reducible refine x_callS ?_ | ((with_reducible apply x_cat); (next => walk_at "hx"); (next => walk_at "hx"); (next => exact sz (Nat.le_of_ble_eq_true rfl)); (intro b nb))
  | (refine ⟨sz (Nat.le_of_ble_eq_true rfl), fun a na => ?_⟩)
  | dsimp only))
local macro_rules | `(tactic| walk_at "kx") => `(tactic| first | assumption | exact Kx.refl _ | (apply Kx.updp; walk_at "kx") | (apply Kx.updl; walk_at "kx") | (apply Kx.updn; (next => assumption); walk_at "kx") | (apply Kx.trans; rotate_left 1; (next => assumption); walk_at "kx"))
local macro_rules | `(tactic| walk_at "pl") => `(tactic| first | assumption | (refine PoolAt.upd ?_ (by assumption); walk_at "pl"))
local macro_rules | `(tactic| walk_at "sm") => `(tactic| first | assumption | exact same_refl _ | (apply same_updg; (next => walk_at "sm"); (next => assumption)))
local macro_rules | `(tactic| walk_at "hn") => `(tactic| first | assumption | exact nn_same | exact nn_of (by assumption) | (apply nn_upd; walk_at "hn"))

namespace Gs
open PySem PySem.Spec PyProof.Rows L2 TL
structure Txt (mg : Str → Option Value) : Prop where
  z_abs : mg "abs" = none
  z_dict : mg "dict" = none
  z_enumerate : mg "enumerate" = none
  z_int : mg "int" = none
  z_isinstance : mg "isinstance" = none
  z_len : mg "len" = none
  z_list : mg "list" = none
  z_max : mg "max" = none
  z_range : mg "range" = none
  z_str : mg "str" = none
  z_tuple : mg "tuple" = none
  c_CAPITALS : ∃ t, mg "CAPITALS" = some (.str "ABCDEFGHIJKLMNOPQRSTUVWXYZ" t)
  c_FIGURES : ∃ t, mg "FIGURES" = some (.int 60 t)
  c_GREATEST : ∃ t, mg "GREATEST" = some (.int 999999999999999999999999999999999999999999999999999999999999 t)
  c_POINTS : ∃ t, mg "POINTS" = some (.int 400 t)
abbrev s_law_draw : Stmt := PySem.Challenge.pw_goalstead_k39_resolved.main.body.getD 30 (.Pass ⟨0, 0, 0, 0⟩)
theorem sc_law_draw : FnScope ["stream", "many", "number"] ["stream", "many"] (defScope s_law_draw) := ⟨rfl, rfl, rfl, by decide +kernel, rfl, by decide +kernel, by decide +kernel⟩
def spDraw (K : PySem.W.Frag) : Sp := fun vs H Q _ => ∃ (p l : Addr) (c m : Int), vs = [.ref p, .int m] ∧ PoolAt H p l c ∧ c + 1 ≤ 1000000000000 ∧ 0 < m ∧ m ≤ 10 ^ 80 ∧
  ∀ (z : Int) (H' : Hp), 0 ≤ z → z < m → PoolAt H' p l (c + 1) → Kx p l H H' → Q (.int z) H'
section
variable {P : Program} {w : World} {K : PySem.W.Frag} {mg : Str → Option Value} {base : Heap} {f : Addr} {fd : FuncData}
def HasDraw (P : Program) (w : World) (K : PySem.W.Frag) (mg : Str → Option Value) (base : Heap) : Prop := Has P w K mg base 1 "_law_draw" ["stream", "many"] (spDraw K)
theorem ok_law_draw (F : Fun K "_law_draw" "_law_draw" s_law_draw f fd) : FnOk P w K mg base CX0 1 f fd ["stream", "many"] (spDraw K) := by
  refine F.ok sc_law_draw (fun vs H Q E h => ?_) (fun cdv A outer s H vs Q E hr h => ?_)
  · obtain ⟨p, l, c, m, rfl, _⟩ := h
    rfl
  obtain ⟨p, l, c, m, rfl, P0, hc, hm, hm2, q⟩ := h
  have hpl := P0.ne
  obtain ⟨a, n, s, ns, hp, hl, h1, h2, h3, h4, h5, h6⟩ := P0.ex
  refine ⟨_, (pss_cons (ps_asg (pe_op op_add (pe_ix (ix_listK (K := K)) (pv 0) pe_int (fun _ _ => rfl)) pe_int) (pg_sub (pv 0) pe_int set_list))
    (Evl.pss_cut (ps_if (PW.pt (pw_and (pt_cmpR op_eq (pe_ix (ix_listK (K := K)) (pv 0) pe_int (fun _ _ => rfl)) pe_int (nomark _)) (pw_and1 (pt_cmpR (op_neDK (K := K) hr.units) (pe_ix (ix_listK (K := K)) (pv 0) pe_int (fun _ _ => rfl)) (pe_lst pa_nil) (nomark _)))))
      (pss_cons (ps_asg (pe_bm PySem.F.plainAttrs_list PySem.F.slot_list_pop PySem.F.type_list_pop mt_popAt (pe_ix (ix_listK (K := K)) (pv 0) pe_int (fun _ _ => rfl)) (pa_cons pe_int pa_nil)) (pg_sub (pv 0) pe_int set_list))
    (pss_one (ps_if (pt_cmpR op_lt (pe_ix (ix_listK (K := K)) (pv 0) pe_int (fun _ _ => rfl)) (pe_op op_pow pe_int pe_int) (nomark _))
      (pss_cons (ps_asg (pe_op op_modN (pe_op op_add (pe_op op_mulW (pe_ix (ix_listK (K := K)) (pv 0) pe_int (fun _ _ => rfl)) pe_int) (pe_ix (ix_listK (K := K)) (pv 0) pe_int (fun _ _ => rfl))) pe_int) (pg_sub (pv 0) pe_int set_list))
    (pss_one (ps_asg pe_int (pg_sub (pv 0) pe_int set_list))))
      pss_nil)))
      pss_nil)
    (pss_cons (ps_if (pt_cmpR op_gt (pe_ix (ix_listK (K := K)) (pv 0) pe_int (fun _ _ => rfl)) pe_int (nomark _))
      (pss_cons (ps_set (i := 2) sc_law_draw.nd rfl (Or.inl rfl) (pe_op op_modN (pe_ix (ix_listK (K := K)) (pv 0) pe_int (fun _ _ => rfl)) (pv 1)))
    (pss_cons (ps_asg (pe_op op_fdivW (pe_ix (ix_listK (K := K)) (pv 0) pe_int (fun _ _ => rfl)) (pv 1)) (pg_sub (pv 0) pe_int set_list))
    (pss_one (ps_ret (pv 2)))))
      pss_nil)
    (pss_cons (ps_set (i := 2) sc_law_draw.nd rfl (Or.inl rfl) (pe_op op_modN (pe_op op_pow (pe_op op_add (pe_op op_add (pe_ix (ix_listK (K := K)) (pv 0) pe_int (fun _ _ => rfl)) (pe_op op_mulW pe_int (pe_ix (ix_listK (K := K)) (pv 0) pe_int (fun _ _ => rfl)))) pe_int) pe_int) pe_int))
    (pss_one (ps_ret (pe_op op_modN (pe_op op_modN (pe_op op_mulW (pe_op op_add (pv 2) (pe_ix (ix_listK (K := K)) (pv 0) pe_int (fun _ _ => rfl))) pe_int) pe_int) (pv 1)))))))), ?_⟩
  walk_at "sx"
  refine x_cut (M := fun σ' H' => σ' = [some (.ref p), some (.int m), none] ∧ Kx p l H H' ∧ ∃ (a s : Int) (ns : List Int), H' p = some (.lst [.ref l, .int a, .int (n + 1), .int s]) ∧ H' l = some (.lst (ns.map V.int)) ∧ 0 ≤ a ∧ 0 ≤ s ∧ s < 2147483647 ∧ ns.length ≤ 1000) ?_ ?_
  · walk_at "sx"
    have kp : ∀ o, Kx p l H (upd H p o) := fun o b u e e1 _ => by
      rw [upd_ne e1]
      exact e
    refine x_ite (fun ca => ?_) (fun ca => ?_)
    · have ha : a = 0 := V.int.inj ca
      walk_at "sx"
      rename_i q hq
      have nlp : l ≠ p := Ne.symm hpl
      have nq1 : p ≠ q := ne_of_none (o := _) upd_same hq
      have nq2 : l ≠ q := ne_of_none (by walk_at "hx") hq
      refine x_neNil (ns := ns) (by walk_at "sq") (by walk_at "sq") ?_
      walk_at "sx"
      refine x_iteN (fun cn => ?_) (fun cn => ?_)
      · walk_at "sx"
        obtain ⟨x, r, rfl⟩ : ∃ x r, ns = x :: r := by
          cases ns with
          | nil => exact absurd rfl cn
          | cons x r => exact ⟨x, r, rfl⟩
        refine ⟨l, _, 0, 0, _, rfl, rfl, by walk_at "hx", by decide, by decide, seqIx0 (by simp), rfl, ?_⟩
        walk_at "sx"
        refine x_ite (fun cx => ?_) (fun cx => ?_)
        · walk_at "sx"
          refine ⟨rfl, by walk_at "kx", 0, _, r, by walk_at "hx", by walk_at "hx", by omega, by assumption, by assumption, ?_⟩
          rw [List.length_cons] at h6
          omega
        · walk_at "sx"
          have cx' : ¬ x < 10 ^ 18 := cx
          refine ⟨rfl, by walk_at "kx", x, s, r, by walk_at "hx", by walk_at "hx", by omega, h4, h5, ?_⟩
          rw [List.length_cons] at h6
          omega
      · walk_at "sx"
        exact ⟨rfl, by walk_at "kx", a, s, ns, by walk_at "hx", by walk_at "hx", h1, h4, h5, h6⟩
    · walk_at "sx"
      have nlp : l ≠ p := Ne.symm hpl
      exact ⟨rfl, by walk_at "kx", a, s, ns, upd_same, by walk_at "hx", h1, h4, h5, h6⟩
  · rintro σ' H' ⟨rfl, k1, a, s, ns, hp, hl, h1, h4, h5, h6⟩
    have dm : CDivW a m := wide_div (b := 300) hm (by omega) (by decide) (by decide)
    have nlp : l ≠ p := Ne.symm hpl
    walk_at "sx"
    refine x_ite (fun ca => ?_) (fun ca => ?_)
    · walk_at "sx"
      rename_i r1 _ _ _ r2 _ hr2
      refine q _ _ (by assumption) (by assumption) ⟨r2, n + 1, s, ns, by walk_at "hx", by walk_at "hx", (hr2 h1).1, by omega, by omega, h4, h5, h6⟩ ?_
      exact k1.trans (by walk_at "kx")
    · walk_at "sx"
      exact q _ _ (by assumption) (by assumption) ⟨a, n + 1, s, ns, hp, hl, h1, by omega, by omega, h4, h5, h6⟩ k1
end
end Gs

namespace Gs
open PySem PySem.Spec PyProof.Rows L2 TL
def spLaw (K : PySem.W.Frag) : Sp := fun vs H Q _ => ∃ (a : Addr) (ns : List Int), vs = [.ref a] ∧ SqL K H a (ns.map V.int) ∧ ns.length ≤ 63 ∧ ∀ H', Q (.bl true) H'
theorem pool_new {H : Hp} {l p : Addr} {ns : List Int} (nl : H l = none) (np : upd H l (.lst (ns.map V.int)) p = none) (hlen : ns.length ≤ 63) : PoolAt (upd (upd H l (.lst (ns.map V.int))) p (.lst [.ref l, .int 0, .int 0, .int 0])) p l 0 :=
  ⟨0, 0, 0, ns, upd_same, by walk_at "hx", by decide, by decide, by decide, by decide, by decide, by omega⟩
section
variable {K : PySem.W.Frag} {H : Hp} {Q : VK}
theorem x_neD_refl {x y : V} {d : PyData} (h1 : Dp K H x d) (h2 : Dp K H y d) (hs : SeqAt.shaped d = true) (q : Q (.bl false) H) : rNeD K x y H Q := by
  refine ⟨d, d, h1, h2, hs, hs, ?_⟩
  rw [SeqAt.eqv_refl _ (SeqAt.canLay_of_shaped hs)]
  exact q
theorem x_eqD_refl {x y : V} {d : PyData} (h1 : Dp K H x d) (h2 : Dp K H y d) (hs : SeqAt.shaped d = true) (q : Q (.bl true) H) : rEqD K x y H Q := by
  refine ⟨d, d, h1, h2, hs, hs, ?_⟩
  rw [SeqAt.eqv_refl _ (SeqAt.canLay_of_shaped hs)]
  exact q
end
end Gs

namespace Gs
open PySem PySem.Spec PyProof.Rows L2 TL
abbrev s_is_unknown : Stmt := PySem.Challenge.pw_goalstead_k39_resolved.main.body.getD 8 (.Pass ⟨0, 0, 0, 0⟩)
theorem sc_is_unknown : FnScope ["part"] ["part"] (defScope s_is_unknown) := ⟨rfl, rfl, rfl, by decide +kernel, rfl, by decide +kernel, by decide +kernel⟩
abbrev s_unknowns_of : Stmt := PySem.Challenge.pw_goalstead_k39_resolved.main.body.getD 10 (.Pass ⟨0, 0, 0, 0⟩)
theorem sc_unknowns_of : FnScope ["pattern", "found", "waiting", "part"] ["pattern"] (defScope s_unknowns_of) := ⟨rfl, rfl, rfl, by decide +kernel, rfl, by decide +kernel, by decide +kernel⟩
def spSize (K : PySem.W.Frag) : Sp := fun vs H Q _ => ∃ (v : V) (k : Nat) (p : Pt), vs = [v] ∧ PtAt K H k v p ∧ szT p ≤ 10000 ∧ ∀ H', Same H H' → Q (.int (szT p)) H'
section
variable {P : Program} {w : World} {K : PySem.W.Frag} {mg : Str → Option Value} {base : Heap} {f : Addr} {fd : FuncData}
def TxOk (z : Str) : Prop := ∃ c t, tl z = c :: t ∧ z.length ≤ 1000
def spUnknown (K : PySem.W.Frag) : Sp := fun vs H Q _ => ∃ (v : V) (k : Nat) (p : Pt), vs = [v] ∧ PtAt K H k v p ∧ (∀ z, p = .s z → TxOk z) ∧ Q (.bl (unk p)) H
def spUnknowns (K : PySem.W.Frag) : Sp := fun vs H Q _ => ∃ (v : V) (k : Nat) (p : Pt) (N : Str → Prop), vs = [v] ∧ PtAt K H k v p ∧ okT TxOk N p ∧ szT p ≤ 10000 ∧ ∀ a H', H a = none → Same H H' → H' a = some (.lst ((once (nmT p)).map V.str)) → Q (.ref a) H'
def HasUnknown (P : Program) (w : World) (K : PySem.W.Frag) (mg : Str → Option Value) (base : Heap) : Prop := Has P w K mg base 1 "is_unknown" ["part"] (spUnknown K)
theorem ok_is_unknown (F : Fun K "is_unknown" "is_unknown" s_is_unknown f fd) (T : Txt mg) : FnOk P w K mg base CX0 1 f fd ["part"] (spUnknown K) := by
  refine F.ok sc_is_unknown (fun vs H Q E h => ?_) (fun cdv A outer s H vs Q E hr h => ?_)
  · obtain ⟨v, k, p, rfl, _⟩ := h
    rfl
  obtain ⟨v, k, p, rfl, hp, ht, q⟩ := h
  refine ⟨_, (pss_one (ps_ret (pe_and (pe_callB (call_isiKK (K := K)) (by rfl) T.z_isinstance (by decide +kernel) (pa_cons (pv 0) (pa_cons (pe_bltn (v := .ty "str") (by rfl) T.z_str (by decide +kernel) rfl) pa_nil))) (pe_one (pe_cmpR op_in_sign (pe_ix ix_str (pv 0) pe_int (fun _ _ => rfl)) (pe_globS rfl T.c_CAPITALS) (by rfl)))))), ?_⟩
  walk_at "sx"
  rcases hp.three with ⟨n, rfl, rfl⟩ | ⟨z, rfl, rfl⟩ | ⟨j, nm, qs, a, us, rfl, rfl, rfl, sa, pq⟩
  · refine x_isT (t := .type "int") (c := false) (.base (.int n)) (kit_ty (by decide +kernel)) ?_
    walk_at "sx"
    exact q
  · refine x_isT (t := .type "str") (c := true) (.base (.str z)) (kit_ty (by decide +kernel)) ?_
    walk_at "sx"
    obtain ⟨c, t, e, hl⟩ := ht z rfl
    have e' : z.cps.toList = c :: t := e
    refine x_ixS (c := c) (sz (by omega)) (at0 (by rw [e']; rfl)) ?_
    walk_at "sx"
    have eu : unk (.s z) = decide (c ∈ ("ABCDEFGHIJKLMNOPQRSTUVWXYZ" : Str).cps.toList) := by
      show unkS z = decide (c ∈ tl ("ABCDEFGHIJKLMNOPQRSTUVWXYZ" : Str))
      rw [tl_C]
      unfold unkS
      rw [e]
    rw [← eu]
    exact q
  · refine x_isT (t := .type "tuple") (c := false) (ty_tup sa) (kit_ty (by decide +kernel)) ?_
    walk_at "sx"
    exact q
theorem ok_unknowns_of (F : Fun K "unknowns_of" "unknowns_of" s_unknowns_of f fd) (T : Txt mg) (C_is_unknown : HasUnknown P w K mg base) : FnOk P w K mg base CX0 2 f fd ["pattern"] (spUnknowns K) := by
  refine F.ok sc_unknowns_of (fun vs H Q E h => ?_) (fun cdv A outer s H vs Q E hr h => ?_)
  · obtain ⟨v, k, p, N, rfl, _⟩ := h
    rfl
  obtain ⟨v, k, p, N, rfl, hp, hok, hs, q⟩ := h
  refine ⟨_, (pss_cons (ps_set (i := 1) sc_unknowns_of.nd rfl (Or.inl rfl) pe_dnewK)
    (pss_cons (ps_set (i := 2) sc_unknowns_of.nd rfl (Or.inl rfl) (pe_lst (pa_cons (pv 0) pa_nil)))
    (pss_cons (ps_while PassesOwn.never (pt_truthK (K := K) (pv 2) (by intro _; rfl))
      (pss_cons (ps_set (i := 3) sc_unknowns_of.nd rfl (Or.inl rfl) (pe_bm0 PySem.F.plainAttrs_list PySem.F.slot_list_pop PySem.F.type_list_pop mt_pop (pv 2)))
    (pss_one (ps_if (pt_val (pe_callB (call_isiKK (K := K)) (by rfl) T.z_isinstance (by decide +kernel) (pa_cons (pv 3) (pa_cons (pe_bltn (v := .ty "tuple") (by rfl) T.z_tuple (by decide +kernel) rfl) pa_nil))))
      (pss_one (ps_expr (pe_bm PySem.F.plainAttrs_list PySem.F.slot_list_extend PySem.F.type_list_extend mt_extX (pv 2) (pa_cons (pe_backX (pv 3)) pa_nil))))
      (pss_one (ps_if (pt_val (pe_callH C_is_unknown hr (pa_cons (pv 3) pa_nil)))
      (pss_one (ps_asg pe_bl (pg_sub (pv 1) (pv 3) (set_dict (Nat.lt_of_le_of_lt (Nat.add_le_add_left (by decide : 1 ≤ 64) _) hr.units)))))
      pss_nil))))))
    (pss_one (ps_ret (pe_callTy (call_list_dK rfl) (by rfl) T.z_list (by decide +kernel) (pa_cons (pv 1) pa_nil))))))), ?_⟩
  walk_at "sx"
  intro d nd
  walk_at "sx"
  rename_i w1 nw
  have ndw : d ≠ w1 := ne_of_none upd_same nw
  have nwH : H w1 = none := (same_upd nd).free nw
  refine x_while (fun m σ' G => ∃ (vs : List V) (ps : List Pt) (x : Option V) (occ : List Str), σ' = [some v, some (.ref d), some (.ref w1), x] ∧ G w1 = some (.lst vs) ∧ G d = some (.dK (fdK (once occ))) ∧ PtsAt K G k vs ps ∧ okL TxOk N ps ∧ occ ++ nmL ps.reverse = nmT p ∧ szL ps ≤ szT p ∧ m = szL ps ∧ Same H G) (szL [p]) ?_ ?_
  · exact ⟨[v], [p], none, [], rfl, upd_same, by walk_at "hx", .one ((hp.same (same_upd nd)).same (same_upd nw)), ⟨hok, trivial⟩, by simp [nmL], by simp [szL], rfl, by walk_at "sm"⟩
  · rintro m σ' G ⟨vs, ps, x, occ, rfl, hw, hd, hps, hokp, ho, hb, rfl, sG⟩
    have ll := hps.1
    have l2 := szL_len ps
    walk_at "sx"
    refine ⟨!vs.isEmpty, .inl ⟨vs, .of hw, rfl⟩, x_iteB (fun c => ?_) (fun c => ?_)⟩
    · have hn : 0 < vs.length := by
        cases vs with
        | nil => cases c
        | cons a r => exact Nat.succ_pos _
      have hy : vs[vs.length - 1]? = some (vs[vs.length - 1]'(by omega)) := List.getElem?_eq_getElem _
      obtain ⟨u, hu, pu⟩ := hps.at hy
      rw [ll] at hu
      have hs1 := last_szL hu
      have hs2 := szT_pos u
      have hnm : nmL ps.reverse = nmT u ++ nmL ps.dropLast.reverse := by
        have h := hu
        rw [← List.getLast?_eq_getElem?] at h
        obtain ⟨ys, rfl⟩ := List.getLast?_eq_some_iff.mp h
        rw [List.dropLast_concat, List.reverse_append]
        rfl
      have hou : okT TxOk N u := okL_mem.mp hokp u (List.mem_of_getElem? hu)
      have hod : okL TxOk N ps.dropLast := okL_sub hokp fun p hp => mem_dropLast hp
      rw [hnm, ← List.append_assoc] at ho
      refine ⟨fun σ' G => ∃ (vs' : List V) (ps' : List Pt) (x : Option V) (occ : List Str), σ' = [some v, some (.ref d), some (.ref w1), x] ∧ G w1 = some (.lst vs') ∧ G d = some (.dK (fdK (once occ))) ∧ PtsAt K G k vs' ps' ∧ okL TxOk N ps' ∧ occ ++ nmL ps'.reverse = nmT p ∧ szL ps' < szL ps ∧ Same H G, ?_, ?_⟩
      · rintro σ' G' ⟨vs', ps', x', occ', e1, e2, e2', e3, e4, e5, e6, e7⟩
        exact ⟨_, e6, vs', ps', x', occ', e1, e2, e2', e3, e4, e5, by omega, rfl, e7⟩
      walk_at "sx"
      refine ⟨w1, vs, _, rfl, rfl, hw, hy, ?_⟩
      walk_at "sx"
      have hw2 : upd G w1 (.lst vs.dropLast) w1 = some (.lst vs.dropLast) := upd_same
      have hd2 : upd G w1 (.lst vs.dropLast) d = some (.dK (fdK (once occ))) := by walk_at "hx"
      have pu2 := pu.lst (o := .lst vs.dropLast) hw
      have hps2 := hps.dropLast.lst (o := .lst vs.dropLast) hw
      have sG2 : Same H (upd G w1 (.lst vs.dropLast)) := same_updf sG nwH
      generalize upd G w1 (.lst vs.dropLast) = G2 at *
      generalize vs[vs.length - 1]'(by omega) = y at *
      rcases pu2.three with ⟨n, rfl, rfl⟩ | ⟨z, rfl, rfl⟩ | ⟨j, nm, qs, a, us, rfl, rfl, rfl, sa, pq⟩
      · refine x_isT (t := .type "int") (c := false) (.base (.int n)) (kit_ty (by decide +kernel)) ?_
        walk_at "sx"
        refine ⟨_, k, _, rfl, pu2, (fun z hz => by cases hz), ?_⟩
        walk_at "sx"
        rw [nmT, List.append_nil] at ho
        exact ⟨_, _, _, occ, rfl, hw2, hd2, hps2, hod, ho, by omega, sG2⟩
      · refine x_isT (t := .type "str") (c := false) (.base (.str z)) (kit_ty (by decide +kernel)) ?_
        walk_at "sx"
        refine ⟨_, k, _, rfl, pu2, (fun z' hz => by cases hz; exact hou), ?_⟩
        walk_at "sx"
        refine x_iteB (fun cu => ?_) (fun cu => ?_)
        · have cu' : unkS z = true := cu
          rw [nmT, if_pos cu'] at ho
          have hol : occ.length + 1 ≤ szT p := by
            have h1 := congrArg List.length ho
            rw [List.length_append, List.length_append] at h1
            have h2 := nmT_len p
            simp only [List.length_cons, List.length_nil] at h1
            omega
          have h3 := once_len occ []
          walk_at "sx"
          refine ⟨d, _, rfl, .inl ⟨_, Sum.inr z, hd2, rfl, szl ?_, rfl⟩, ?_⟩
          · unfold fdK
            rw [List.length_map]
            simp only [List.length_nil] at h3
            show (List.foldl _ [] occ).length < _
            omega
          · rw [fdK_put, ← once_more]
            refine ⟨_, _, _, occ ++ [z], rfl, by walk_at "hx", upd_same, hps2.mono fun _ _ s => sqT_dk hd2 s, hod, ho, by omega, same_updf sG2 nd⟩
        · have cu' : ¬ unkS z = true := fun h => by
            have : unkS z = false := cu
            rw [h] at this
            cases this
          rw [nmT, if_neg cu', List.append_nil] at ho
          walk_at "sx"
          exact ⟨_, _, _, occ, rfl, hw2, hd2, hps2, hod, ho, by omega, sG2⟩
      · refine x_isT (t := .type "tuple") (c := true) (ty_tup sa) (kit_ty (by decide +kernel)) ?_
        walk_at "sx"
        refine ⟨_, rfl, a, _, us, rfl, sa, fun b nb => ?_⟩
        walk_at "sx"
        rw [szT] at hs1
        rw [nmT] at ho
        have lq := szL_len qs
        have lu := pq.1
        have ld := hps2.1
        have ld2 := szL_len ps.dropLast
        refine ⟨w1, b, vs.dropLast, us.reverse, rfl, rfl, by walk_at "hx", upd_same, sz (by rw [List.length_reverse]; omega), ?_⟩
        have kb : Same G2 (upd G2 b (txO b us.reverse)) := same_upd nb
        have hdw : upd (upd G2 b (txO b us.reverse)) w1 (.lst (vs.dropLast ++ us.reverse)) d = some (.dK (fdK (once occ))) := by walk_at "hx"
        refine ⟨vs.dropLast ++ us.reverse, ps.dropLast ++ qs.reverse, _, occ, rfl, upd_same, hdw, ?_, ?_, ?_, by rw [szL_append, szL_reverse]; omega, same_updf (sG2.trans kb) nwH⟩
        · exact ((hps2.same kb).append ((pq.reverse.up (Nat.le_succ _)).same kb)).lst (ys := vs.dropLast) (by walk_at "hx")
        · refine okL_mem.mpr fun p hp => ?_
          rcases List.mem_append.mp hp with hp | hp
          · exact okL_mem.mp hod p hp
          · exact okL_mem.mp hou.2.2.2 p (List.mem_reverse.mp hp)
        · rw [List.reverse_append, List.reverse_reverse, nmL_append, ← List.append_assoc]
          exact ho
    · have hn : vs = [] := by
        cases vs with
        | nil => rfl
        | cons a r => cases c
      subst hn
      cases ps with
      | cons a r => cases ll
      | nil =>
        have eo : occ = nmT p := by
          have : occ ++ [] = nmT p := ho
          rwa [List.append_nil] at this
        walk_at "sx"
        refine ⟨d, _, rfl, hd, fun a na => ?_⟩
        rw [fdK_keys, eo]
        exact q a _ (sG.free na) (sG.trans (same_upd na)) upd_same
def spDepthOf (K : PySem.W.Frag) : Sp := fun vs H Q _ => ∃ (v : V) (k : Nat) (p : Pt), vs = [v] ∧ PtAt K H k v p ∧ szT p ≤ 10000 ∧ ∀ H', Same H H' → Q (.int (dpT p)) H'
end
end Gs

namespace Gs
open PySem PySem.Spec PyProof.Rows L2 TL
abbrev s_number_in : Stmt := PySem.Challenge.pw_goalstead_k39_resolved.main.body.getD 18 (.Pass ⟨0, 0, 0, 0⟩)
theorem sc_number_in : FnScope ["term"] ["term"] (defScope s_number_in) := ⟨rfl, rfl, rfl, by decide +kernel, rfl, by decide +kernel, by decide +kernel⟩
abbrev s_reckoned : Stmt := PySem.Challenge.pw_goalstead_k39_resolved.main.body.getD 19 (.Pass ⟨0, 0, 0, 0⟩)
theorem sc_reckoned : FnScope ["sign", "left", "right"] ["sign", "left", "right"] (defScope s_reckoned) := ⟨rfl, rfl, rfl, by decide +kernel, rfl, by decide +kernel, by decide +kernel⟩
abbrev s_worth_of : Stmt := PySem.Challenge.pw_goalstead_k39_resolved.main.body.getD 17 (.Pass ⟨0, 0, 0, 0⟩)
theorem sc_worth_of : FnScope ["tree", "places", "left", "right"] ["tree", "places"] (defScope s_worth_of) := ⟨rfl, rfl, rfl, by decide +kernel, rfl, by decide +kernel, by decide +kernel⟩
def spNumIn (K : PySem.W.Frag) : Sp := fun vs H Q _ => ∃ (v : V) (o : Option Int), vs = [v] ∧ OneAt K H v o ∧ Q (optV o) H
def spReck (K : PySem.W.Frag) : Sp := fun vs H Q _ => ∃ (s : Str) (l r : Int) (m n : Nat), vs = [.str s, .int l, .int r] ∧ l.natAbs < 2 ^ m ∧ r.natAbs < 2 ^ n ∧ 0 < m ∧ 0 < n ∧ m ≤ 8500 ∧ n ≤ 8500 ∧ Q (optV (reck s l r)) H
section
variable {P : Program} {w : World} {K : PySem.W.Frag} {mg : Str → Option Value} {base : Heap} {f : Addr} {fd : FuncData}
def HasNumIn (P : Program) (w : World) (K : PySem.W.Frag) (mg : Str → Option Value) (base : Heap) : Prop := Has P w K mg base 1 "_number_in" ["term"] (spNumIn K)
def HasReck (P : Program) (w : World) (K : PySem.W.Frag) (mg : Str → Option Value) (base : Heap) : Prop := Has P w K mg base 1 "_reckoned" ["sign", "left", "right"] (spReck K)
theorem ok_number_in (F : Fun K "_number_in" "_number_in" s_number_in f fd) (T : Txt mg) : FnOk P w K mg base CX0 1 f fd ["term"] (spNumIn K) := by
  refine F.ok sc_number_in (fun vs H Q E h => ?_) (fun cdv A outer s H vs Q E hr h => ?_)
  · obtain ⟨v, o, rfl, _⟩ := h
    rfl
  obtain ⟨v, o, rfl, ov, q⟩ := h
  refine ⟨_, (pss_one (ps_ret (pe_ifExp (pt_val (pe_callB (call_isiKK (K := K)) (by rfl) T.z_isinstance (by decide +kernel) (pa_cons (pv 0) (pa_cons (pe_bltn (v := .ty "int") (by rfl) T.z_int (by decide +kernel) rfl) pa_nil)))) (pv 0) pe_non))), ?_⟩
  walk_at "sx"
  rcases ov with ⟨z, rfl, rfl⟩ | ⟨z, rfl, rfl⟩ | ⟨pp, xs, rfl, sp2, rfl⟩
  · refine x_isT (t := .type "int") (c := true) (.base (.int z)) (kit_ty (by decide +kernel)) ?_
    walk_at "sx"
    exact q
  · refine x_isT (t := .type "str") (c := false) (.base (.str z)) (kit_ty (by decide +kernel)) ?_
    walk_at "sx"
    exact q
  · refine x_isT (t := .type "tuple") (c := false) (ty_tup sp2) (kit_ty (by decide +kernel)) ?_
    walk_at "sx"
    exact q
theorem ok_reckoned (F : Fun K "_reckoned" "_reckoned" s_reckoned f fd) (T : Txt mg) : FnOk P w K mg base CX0 1 f fd ["sign", "left", "right"] (spReck K) := by
  refine F.ok sc_reckoned (fun vs H Q E h => ?_) (fun cdv A outer s H vs Q E hr h => ?_)
  · obtain ⟨s, l, r, m, n, rfl, _⟩ := h
    rfl
  obtain ⟨s, l, r, m, n, rfl, hl, hr', hm, hn, hm2, hn2, q⟩ := h
  refine ⟨_, (pss_cons (ps_if (pt_cmpR op_eq (pv 0) pe_str (nomark _))
      (pss_one (ps_ret (pe_op op_add (pv 1) (pv 2))))
      pss_nil)
    (pss_cons (ps_if (pt_cmpR op_eq (pv 0) pe_str (nomark _))
      (pss_one (ps_ret (pe_op op_sub (pv 1) (pv 2))))
      pss_nil)
    (pss_cons (ps_if (pt_cmpR op_eq (pv 0) pe_str (nomark _))
      (pss_one (ps_ret (pe_op op_mulW (pv 1) (pv 2))))
      pss_nil)
    (pss_cons (ps_if (pt_cmpR op_eq (pv 2) pe_int (nomark _))
      (pss_one (ps_ret pe_non))
      pss_nil)
    (pss_one (ps_ret (pe_ifExp (pt_cmpR op_eq (pv 0) pe_str (nomark _)) (pe_op op_fdivB (pv 1) (pv 2)) (pe_op op_modN (pv 1) (pv 2))))))))), ?_⟩
  walk_at "sx"
  refine x_ite (fun c1 => ?_) (fun c1 => ?_)
  · cases V.str.inj c1
    walk_at "sx"
    exact q
  walk_at "sx"
  refine x_ite (fun c2 => ?_) (fun c2 => ?_)
  · cases V.str.inj c2
    walk_at "sx"
    exact q
  walk_at "sx"
  have mlr : CMulW l r := wide_mulW hl hr' hm hn (by omega)
  refine x_ite (fun c3 => ?_) (fun c3 => ?_)
  · cases V.str.inj c3
    walk_at "sx"
    exact q
  have c1' : s ≠ "+" := fun z => c1 (congrArg V.str z)
  have c2' : s ≠ "-" := fun z => c2 (congrArg V.str z)
  have c3' : s ≠ "*" := fun z => c3 (congrArg V.str z)
  walk_at "sx"
  refine x_ite (fun c4 => ?_) (fun c4 => ?_)
  · have er : reck s l r = none := by
      unfold reck
      rw [if_neg c1', if_neg c2', if_neg c3', if_pos (V.int.inj c4)]
    rw [er] at q
    walk_at "sx"
    exact q
  have c4' : r ≠ 0 := fun z => c4 (congrArg V.int z)
  have dv : CDivB l r := ⟨c4', Nat.lt_of_lt_of_le (PySem.Flt.log2_lt_of hn hr') (by omega)⟩
  walk_at "sx"
  refine x_ite (fun c5 => ?_) (fun c5 => ?_)
  · have er : reck s l r = some (l.fdiv r) := by
      unfold reck
      rw [if_neg c1', if_neg c2', if_neg c3', if_neg c4', if_pos (V.str.inj c5)]
    rw [er] at q
    walk_at "sx"
    exact q
  · have er : reck s l r = some (l.fmod r) := by
      unfold reck
      rw [if_neg c1', if_neg c2', if_neg c3', if_neg c4', if_neg fun z => c5 (congrArg V.str z)]
    rw [er] at q
    walk_at "sx"
    exact q
end
end Gs

namespace Gs
open PySem PySem.Spec PyProof.Rows L2 TL
/-- worth_of by a filling -/
def spWorthF (K : PySem.W.Frag) (k : Nat) : Sp := fun vs H Q _ => ∃ (v : V) (d : Addr) (t : Sm) (r : List (Key × V)) (f : Fl) (j : Nat), vs = [v, .ref d] ∧ PtAt K H k v t.pt ∧ t.Ok (fun z => (look f z).isSome = true) ∧ t.wt ≤ 8500 ∧ H d = some (.dK r) ∧ StAt K H j r f ∧ NumLt f ∧ Q (optV (wo f t)) H
section
variable {P : Program} {w : World} {K : PySem.W.Frag} {mg : Str → Option Value} {base : Heap} {f : Addr} {fd : FuncData}
def HasWorthF (k : Nat) (P : Program) (w : World) (K : PySem.W.Frag) (mg : Str → Option Value) (base : Heap) : Prop := Has P w K mg base (k + 1) "worth_of" ["tree", "places"] (spWorthF K k)
theorem signs_at {s : Str} (h : s ∈ signs5) : s ≠ "at" := by
  rintro rfl
  exact absurd h (by decide +kernel)
theorem ok_worth_f (F : Fun K "worth_of" "worth_of" s_worth_of f fd) (T : Txt mg) (C_number_in : HasNumIn P w K mg base) (C_reckoned : HasReck P w K mg base) (b : Binds K fd ["tree", "places"] []) (kp : PySem.W.keepIn K (.ref f) = true) (m : mg "worth_of" = some (.ref f)) : ∀ k, FnOk P w K mg base CX0 (k + 1) f fd ["tree", "places"] (spWorthF K k)
  | 0 => ⟨fun vs H Q E h => by
      obtain ⟨v, d, t, r, fl, j, _, h, _⟩ := h
      exact h.elim, fun A outer s H args us vs Q E _ _ _ _ h => by
      obtain ⟨v, d, t, r, fl, j, _, h, _⟩ := h
      exact h.elim⟩
  | k + 1 => by
    have C_worth_of : HasWorthF k P w K mg base := ⟨f, fd, ok_worth_f F T C_number_in C_reckoned b kp m k, b, kp, m⟩
    refine F.ok sc_worth_of (fun vs H Q E h => ?_) (fun cdv A outer s H vs Q E hr h => ?_)
    · obtain ⟨v, d, t, r, fl, j, rfl, _⟩ := h
      rfl
    obtain ⟨v, d, t, r, fl, j, rfl, hv, hok, hw, hd, sf, hf, q⟩ := h
    refine ⟨_, (pss_cons (ps_if (pt_val (pe_callB (call_isiKK (K := K)) (by rfl) T.z_isinstance (by decide +kernel) (pa_cons (pv 0) (pa_cons (pe_bltn (v := .ty "int") (by rfl) T.z_int (by decide +kernel) rfl) pa_nil))))
      (pss_one (ps_ret (pv 0)))
      pss_nil)
    (pss_cons (ps_if (pt_val (pe_callB (call_isiKK (K := K)) (by rfl) T.z_isinstance (by decide +kernel) (pa_cons (pv 0) (pa_cons (pe_bltn (v := .ty "str") (by rfl) T.z_str (by decide +kernel) rfl) pa_nil))))
      (pss_one (ps_ret (pe_callH C_number_in hr (pa_cons (pe_dget (hu_of hr) (pv 1) (pv 0) (fun _ _ => rfl)) pa_nil) (hk := by omega))))
      pss_nil)
    (pss_cons (ps_if (pt_cmpR op_eq (pe_ix (ix_tupK (K := K)) (pv 0) pe_int (fun _ _ => rfl)) pe_str (nomark _))
      (pss_one (ps_ret (pe_callH C_number_in hr (pa_cons (pe_dget (hu_of hr) (pv 1) (pe_ix (ix_tupK (K := K)) (pv 0) pe_int (fun _ _ => rfl)) (fun _ _ => rfl)) pa_nil) (hk := by omega))))
      pss_nil)
    (pss_cons (ps_set (i := 2) sc_worth_of.nd rfl (Or.inl rfl) (pe_callH C_worth_of hr (pa_cons (pe_ix (ix_tupK (K := K)) (pv 0) pe_int (fun _ _ => rfl)) (pa_cons (pv 1) pa_nil)) (hk := Nat.le_refl _)))
    (pss_cons (ps_set (i := 3) sc_worth_of.nd rfl (Or.inl rfl) (pe_callH C_worth_of hr (pa_cons (pe_ix (ix_tupK (K := K)) (pv 0) pe_int (fun _ _ => rfl)) (pa_cons (pv 1) pa_nil)) (hk := Nat.le_refl _)))
    (pss_cons (ps_if (PW.pt (pw_or (pt_cmpR op_isN (pv 2) pe_non (nomark _)) (pw_or1 (pt_cmpR op_isN (pv 3) pe_non (nomark _)))))
      (pss_one (ps_ret pe_non))
      pss_nil)
    (pss_one (ps_ret (pe_callH C_reckoned hr (pa_cons (pe_ix (ix_tupK (K := K)) (pv 0) pe_int (fun _ _ => rfl)) (pa_cons (pv 2) (pa_cons (pv 3) pa_nil))) (hk := by omega)))))))))), ?_⟩
    walk_at "sx"
    rcases Sm.three hv with ⟨z, rfl, rfl⟩ | ⟨z, rfl, rfl⟩ | ⟨i0, s, t1, t2, p, x, y, hk, rfl, rfl, sp, h1, h2⟩
    · refine x_isT (t := .type "int") (c := true) (.base (.int z)) (kit_ty (by decide +kernel)) ?_
      walk_at "sx"
      exact q
    · refine x_isT (t := .type "str") (c := false) (.base (.str z)) (kit_ty (by decide +kernel)) ?_
      walk_at "sx"
      refine x_isT (t := .type "str") (c := true) (.base (.str z)) (kit_ty (by decide +kernel)) ?_
      walk_at "sx"
      refine x_dget ?_
      walk_at "sx"
      have hz : (look fl z).isSome = true := hok
      rcases sf.find z with ⟨e1, e2⟩ | ⟨v1, u1, e1, e2, pu⟩
      · rw [e2] at hz
        cases hz
      · refine ⟨d, v1, rfl, e1 ▸ DGet.k (k := Sum.inr z) hd, ?_⟩
        walk_at "sx"
        refine ⟨v1, _, rfl, one_pt pu, ?_⟩
        rw [wo, e2] at q
        exact q
    · obtain rfl : k = i0 := by omega
      obtain ⟨hs, ok1, ok2⟩ := hok
      rw [Sm.wt] at hw
      have w1 := Sm.wt_pos t1
      have w2 := Sm.wt_pos t2
      refine x_isT (t := .type "tuple") (c := false) (ty_tup sp) (kit_ty (by decide +kernel)) ?_
      walk_at "sx"
      refine x_isT (t := .type "tuple") (c := false) (ty_tup sp) (kit_ty (by decide +kernel)) ?_
      walk_at "sx"
      refine x_ite (fun c => absurd (V.str.inj c) (signs_at hs)) (fun c => ?_)
      walk_at "sx"
      refine ⟨x, d, t1, r, fl, j, rfl, h1, ok1, by omega, hd, sf, hf, ?_⟩
      walk_at "sx"
      refine ⟨y, d, t2, r, fl, j, rfl, h2, ok2, by omega, hd, sf, hf, ?_⟩
      walk_at "sx"
      cases e1 : wo fl t1 with
      | none =>
        have e : wo fl (.op s t1 t2) = none := by rw [wo, e1]
        rw [e] at q
        refine ⟨rfl, ?_⟩
        walk_at "sx"
        exact q
      | some l =>
      refine ⟨rfl, ?_⟩
      walk_at "sx"
      cases e2 : wo fl t2 with
      | none =>
        have e : wo fl (.op s t1 t2) = none := by rw [wo, e1, e2]
        rw [e] at q
        refine ⟨rfl, ?_⟩
        walk_at "sx"
        exact q
      | some r' =>
      refine ⟨rfl, ?_⟩
      dsimp only [optV]
      rw [wo_op e1 e2] at q
      walk_at "sx"
      exact ⟨s, l, r', t1.wt, t2.wt, rfl, wo_lt hf ok1 e1, wo_lt hf ok2 e2, by omega, by omega, by omega, by omega, q⟩
end
end Gs

namespace Gs
open PySem PySem.Spec PyProof.Rows L2 TL
abbrev s_is_named : Stmt := PySem.Challenge.pw_goalstead_k39_resolved.main.body.getD 13 (.Pass ⟨0, 0, 0, 0⟩)
theorem sc_is_named : FnScope ["reading", "names", "many"] ["reading", "names", "many"] (defScope s_is_named) := ⟨rfl, rfl, rfl, by decide +kernel, rfl, by decide +kernel, by decide +kernel⟩
abbrev s_parted_by_and : Stmt := PySem.Challenge.pw_goalstead_k39_resolved.main.body.getD 12 (.Pass ⟨0, 0, 0, 0⟩)
theorem sc_parted_by_and : FnScope ["reading", "parts"] ["reading"] (defScope s_parted_by_and) := ⟨rfl, rfl, rfl, by decide +kernel, rfl, by decide +kernel, by decide +kernel⟩
abbrev s_field_parts : Stmt := PySem.Challenge.pw_goalstead_k39_resolved.main.body.getD 15 (.Pass ⟨0, 0, 0, 0⟩)
theorem sc_field_parts : FnScope ["goal"] ["goal"] (defScope s_field_parts) := ⟨rfl, rfl, rfl, by decide +kernel, rfl, by decide +kernel, by decide +kernel⟩
def isAnd : Pt → Bool
  | .t nm ps => decide (nm = "and") && decide (ps.length = 2)
  | _ => false
theorem isAnd_t (nm : Str) (ps : List Pt) : isAnd (.t nm ps) = (decide (nm = "and") && decide (ps.length = 2)) := rfl
def spNamed (K : PySem.W.Frag) : Sp := fun vs H Q _ => ∃ (v : V) (b : Addr) (k : Nat) (p : Pt), vs = [v, .ref b, .int 2] ∧ PtAt K H k v p ∧ SqT K H b [.str "and"] ∧ Q (.bl (isAnd p)) H
def spParted (K : PySem.W.Frag) : Sp := fun vs H Q _ => ∃ (v : V) (k : Nat) (ps : List Pt), vs = [v] ∧ PtAt K H k v (chain ps) ∧ ps ≠ [] ∧ ps.length ≤ 100 ∧ (∀ p ∈ ps, isAnd p = false) ∧
  ∀ a us H', H a = none → Same H H' → H' a = some (.lst us) → PtsAt K H' k us ps → Q (.ref a) H'
/-- a field: ranges, and tests if there are any -/
def fieldP (rs ts : List Pt) : Pt := if ts = [] then chain rs else .t "such" [chain rs, chain ts]
def spFieldParts (K : PySem.W.Frag) : Sp := fun vs H Q _ => ∃ (v : V) (k : Nat) (rs ts : List Pt), vs = [v] ∧ PtAt K H k v (fieldP rs ts) ∧ rs ≠ [] ∧ rs.length ≤ 100 ∧ ts.length ≤ 100 ∧ (∀ p ∈ rs, ∃ ps, p = .t "in" ps) ∧ (∀ p ∈ ts, isAnd p = false) ∧
  ∀ d a b us ws H', Same H H' → SqT K H' d [.ref a, .ref b] → H' a = some (.lst us) → H' b = some (.lst ws) → PtsAt K H' k us rs → PtsAt K H' k ws ts → Q (.ref d) H'
section
variable {P : Program} {w : World} {K : PySem.W.Frag} {mg : Str → Option Value} {base : Heap} {f : Addr} {fd : FuncData}
def HasNamed3 (P : Program) (w : World) (K : PySem.W.Frag) (mg : Str → Option Value) (base : Heap) : Prop := Has P w K mg base 1 "_is_named" ["reading", "names", "many"] (spNamed K)
def HasParted (P : Program) (w : World) (K : PySem.W.Frag) (mg : Str → Option Value) (base : Heap) : Prop := Has P w K mg base 2 "parted_by_and" ["reading"] (spParted K)
def HasFieldParts (P : Program) (w : World) (K : PySem.W.Frag) (mg : Str → Option Value) (base : Heap) : Prop := Has P w K mg base 3 "field_parts" ["goal"] (spFieldParts K)
theorem ok_is_named (F : Fun K "_is_named" "_is_named" s_is_named f fd) (T : Txt mg) : FnOk P w K mg base CX0 1 f fd ["reading", "names", "many"] (spNamed K) := by
  refine F.ok sc_is_named (fun vs H Q E h => ?_) (fun cdv A outer s H vs Q E hr h => ?_)
  · obtain ⟨v, b, k, p, rfl, _⟩ := h
    rfl
  obtain ⟨v, b, k, p, rfl, hv, hb, q⟩ := h
  refine ⟨_, (pss_one (ps_ret (pe_and (pe_callB (call_isiKK (K := K)) (by rfl) T.z_isinstance (by decide +kernel) (pa_cons (pv 0) (pa_cons (pe_bltn (v := .ty "tuple") (by rfl) T.z_tuple (by decide +kernel) rfl) pa_nil))) (pe_and (pe_cmpR (op_inK (K := K)) (pe_ix (ix_tupK (K := K)) (pv 0) pe_int (fun _ _ => rfl)) (pv 1) (by first | exact nomark _ | rfl)) (pe_one (pe_cmpR op_eq (pe_callB (call_lenK (K := K)) (by rfl) T.z_len (by decide +kernel) (pa_cons (pv 0) pa_nil)) (pe_op op_add (pv 2) pe_int) (nomark _))))))), ?_⟩
  walk_at "sx"
  rcases hv.three with ⟨nn, rfl, rfl⟩ | ⟨z, rfl, rfl⟩ | ⟨i0, nm, ps, a, ys, ej, rfl, rfl, sa, pq⟩
  · refine x_isT (t := .type "int") (c := false) (.base (.int nn)) (kit_ty (by decide +kernel)) ?_
    walk_at "sx"
    exact q
  · refine x_isT (t := .type "str") (c := false) (.base (.str z)) (kit_ty (by decide +kernel)) ?_
    walk_at "sx"
    exact q
  · refine x_isT (t := .type "tuple") (c := true) (ty_tup sa) (kit_ty (by decide +kernel)) ?_
    have l1 := pq.1
    walk_at "sx"
    refine ⟨b, _, rfl, .inr hb, rfl, rfl, _, rfl, ?_⟩
    have e : (if false = true then !inV (V.str nm) [V.str "and"] else inV (V.str nm) [V.str "and"]) = decide (nm = "and") := by
      rw [if_neg (by decide), show [V.str "and"] = [("and" : Str)].map V.str from rfl, inV_strs]
      simp
    rw [e]
    refine x_ite (fun c => ?_) (fun c => ?_)
    · walk_at "sx"
      have e2 : decide (V.int (((V.str nm :: ys).length : Nat) : Int) = V.int (2 + 1)) = isAnd (.t nm ps) := by
        rw [isAnd_t, decide_eq_true c, Bool.true_and, intEq, List.length_cons, l1]
        exact decide_eq_decide.mpr (by omega)
      rw [e2]
      exact q
    · have e3 : isAnd (.t nm ps) = false := by
        rw [isAnd_t, decide_eq_false c, Bool.false_and]
      rw [e3] at q
      walk_at "sx"
      exact q
theorem ok_parted (F : Fun K "parted_by_and" "parted_by_and" s_parted_by_and f fd) (T : Txt mg) (C_is_named : HasNamed3 P w K mg base) : FnOk P w K mg base CX0 2 f fd ["reading"] (spParted K) := by
  refine F.ok sc_parted_by_and (fun vs H Q E h => ?_) (fun cdv A outer s H vs Q E hr h => ?_)
  · obtain ⟨v, k, ps, rfl, _⟩ := h
    rfl
  obtain ⟨v, k, ps, rfl, hv, hne, hl, hna, q⟩ := h
  refine ⟨_, (pss_cons (ps_set (i := 1) sc_parted_by_and.nd rfl (Or.inl rfl) (pe_lst pa_nil))
    (pss_cons (ps_while PassesOwn.never (pt_val (pe_callH C_is_named hr (pa_cons (pv 0) (pa_cons (pe_tup (pa_cons pe_str pa_nil)) (pa_cons pe_int pa_nil)))))
      (pss_cons (ps_expr (pe_bm PySem.F.plainAttrs_list PySem.F.slot_list_append PySem.F.type_list_append mt_append (pv 1) (pa_cons (pe_ix (ix_tupK (K := K)) (pv 0) pe_int (fun _ _ => rfl)) pa_nil)))
    (pss_one (ps_set (i := 0) sc_parted_by_and.nd rfl (Or.inl rfl) (pe_ix (ix_tupK (K := K)) (pv 0) pe_int (fun _ _ => rfl))))))
    (pss_cons (ps_expr (pe_bm PySem.F.plainAttrs_list PySem.F.slot_list_append PySem.F.type_list_append mt_append (pv 1) (pa_cons (pv 0) pa_nil)))
    (pss_one (ps_ret (pv 1)))))), ?_⟩
  walk_at "sx"
  rename_i pl npl
  refine x_while (fun m σ' G => ∃ (v' : V) (us : List V) (pre rest : List Pt), σ' = [some v', some (.ref pl)] ∧ rest ≠ [] ∧ PtAt K G k v' (chain rest) ∧ G pl = some (.lst us) ∧ PtsAt K G k us pre ∧ ps = pre ++ rest ∧ m = rest.length ∧ Same H G) ps.length ?_ ?_
  · exact ⟨v, [], [], ps, rfl, hne, hv.same (same_upd npl), upd_same, .nil, rfl, rfl, same_upd npl⟩
  · rintro m σ' G ⟨v', us, pre, rest, rfl, hr1, hv', hpl, hus, rfl, rfl, kG⟩
    have lu := hus.1
    rw [List.length_append] at hl
    walk_at "sx"
    rename_i tp ntp
    have k1 : Same G (upd G tp (.tup [V.str "and"])) := same_upd ntp
    refine ⟨v', tp, k, _, rfl, hv'.same k1, .of upd_same, ?_⟩
    walk_at "sx"
    have hpl1 := k1 _ _ hpl
    match rest, hr1, hv' with
    | [p], _, hv' =>
      have hp : isAnd p = false := hna p (List.mem_append_right _ (List.mem_cons_self ..))
      rw [show chain [p] = p from rfl, hp]
      walk_at "sx"
      refine x_app hpl1 (szl (by omega)) ?_
      walk_at "sx"
      refine q pl _ _ npl (same_updf (kG.trans k1) npl) upd_same ?_
      exact ((hus.same k1).append (.one (hv'.same k1))).lst hpl1
    | p :: q' :: r, _, hv' =>
      rw [show isAnd (chain (p :: q' :: r)) = true by rfl]
      refine ⟨fun σ' G => ∃ (v' : V) (us : List V) (pre' rest' : List Pt), σ' = [some v', some (.ref pl)] ∧ rest' ≠ [] ∧ PtAt K G k v' (chain rest') ∧ G pl = some (.lst us) ∧ PtsAt K G k us pre' ∧ pre ++ p :: q' :: r = pre' ++ rest' ∧ rest'.length < (p :: q' :: r).length ∧ Same H G, ?_, ?_⟩
      · rintro σ' G ⟨v', us, pre', rest', rfl, g1, g2, g3, g4, g5, g6, g7⟩
        exact ⟨_, g6, v', us, pre', rest', rfl, g1, g2, g3, g4, g5, rfl, g7⟩
      have hv2 : PtAt K G k v' (.t "and" [p, chain (q' :: r)]) := hv'
      rcases hv2.three with ⟨nn, _, e⟩ | ⟨z, _, e⟩ | ⟨i0, nm, qs, a, ys, ej, rfl, e, sa, pq⟩
      · cases e
      · cases e
      · cases e
        match ys, pq with
        | [y1, y2], pq =>
          have sa1 := Same.sqT k1 sa
          walk_at "sx"
          refine x_app hpl1 (szl (by omega)) ?_
          have g : ∀ a xs, SqT K G a xs → SqT K (upd (upd G tp (.tup [V.str "and"])) pl (.lst (us ++ [y1]))) a xs := fun _ _ s => sqT_lst hpl1 (Same.sqT k1 s)
          have sa2 := g _ _ sa
          walk_at "sx"
          refine ⟨y2, _, pre ++ [p], q' :: r, rfl, by simp, ((pq.2 1 y2 _ rfl rfl).up (by omega)).mono g, upd_same, ?_, by simp, by simp, same_updf (kG.trans k1) npl⟩
          exact ((hus.same k1).append (.one (((pq.2 0 y1 _ rfl rfl).up (by omega)).same k1))).lst hpl1
theorem chain_head {rs : List Pt} (h : rs ≠ []) (hr : ∀ p ∈ rs, ∃ ps, p = .t "in" ps) : ∃ nm ps, chain rs = .t nm ps ∧ nm ≠ "such" := by
  match rs, h, hr with
  | [p], _, hr =>
    obtain ⟨ps, rfl⟩ := hr p (List.mem_cons_self ..)
    exact ⟨_, _, rfl, by decide +kernel⟩
  | p :: q :: r, _, _ => exact ⟨_, _, rfl, by decide +kernel⟩
theorem in_notAnd {p : Pt} (h : ∃ ps, p = .t "in" ps) : isAnd p = false := by
  obtain ⟨ps, rfl⟩ := h
  show (decide (("in" : Str) = "and") && decide (ps.length = 2)) = false
  rw [decide_eq_false (by decide +kernel), Bool.false_and]
theorem ok_field_parts (F : Fun K "field_parts" "field_parts" s_field_parts f fd) (T : Txt mg) (C_parted_by_and : HasParted P w K mg base) : FnOk P w K mg base CX0 3 f fd ["goal"] (spFieldParts K) := by
  refine F.ok sc_field_parts (fun vs H Q E h => ?_) (fun cdv A outer s H vs Q E hr h => ?_)
  · obtain ⟨v, k, rs, ts, rfl, _⟩ := h
    rfl
  obtain ⟨v, k, rs, ts, rfl, hv, hne, hl1, hl2, hrs, hts, q⟩ := h
  refine ⟨_, (pss_cons (ps_if (pt_cmpR op_eq (pe_ix (ix_tupK (K := K)) (pv 0) pe_int (fun _ _ => rfl)) pe_str (nomark _))
      (pss_one (ps_ret (pe_tup (pa_cons (pe_callH C_parted_by_and hr (pa_cons (pe_ix (ix_tupK (K := K)) (pv 0) pe_int (fun _ _ => rfl)) pa_nil)) (pa_cons (pe_callH C_parted_by_and hr (pa_cons (pe_ix (ix_tupK (K := K)) (pv 0) pe_int (fun _ _ => rfl)) pa_nil)) pa_nil)))))
      pss_nil)
    (pss_one (ps_ret (pe_tup (pa_cons (pe_callH C_parted_by_and hr (pa_cons (pv 0) pa_nil)) (pa_cons (pe_lst pa_nil) pa_nil)))))), ?_⟩
  walk_at "sx"
  unfold fieldP at hv
  by_cases ct : ts = []
  · subst ct
    rw [if_pos rfl] at hv
    obtain ⟨nm, ps, e, hnm⟩ := chain_head hne hrs
    rw [e] at hv
    rcases hv.three with ⟨nn, _, e⟩ | ⟨z, _, e⟩ | ⟨i0, nm', qs, a, ys, ej, rfl, e', sa, pq⟩
    · cases e
    · cases e
    · cases e'
      walk_at "sx"
      refine x_ite (fun c => absurd (V.str.inj c) hnm) (fun c => ?_)
      walk_at "sx"
      refine ⟨.ref a, k, rs, rfl, e ▸ hv, hne, hl1, fun p hp => in_notAnd (hrs p hp), fun b us G1 nb k1 hb hus => ?_⟩
      walk_at "sx"
      rename_i lb nlb tb ntb
      have kk : Same G1 (upd (upd G1 lb (.lst [])) tb (.tup [.ref b, .ref lb])) := (same_upd nlb).trans (same_upd ntb)
      exact q tb b lb us [] _ (k1.trans kk) (.of upd_same) (kk _ _ hb) (same_upd ntb _ _ upd_same) (hus.same kk) .nil
  · rw [if_neg ct] at hv
    rcases hv.three with ⟨nn, _, e⟩ | ⟨z, _, e⟩ | ⟨i0, nm', qs, a, ys, ej, rfl, e', sa, pq⟩
    · cases e
    · cases e
    · cases e'
      match ys, pq with
      | [y1, y2], pq =>
        walk_at "sx"
        refine ⟨y1, _, rs, rfl, pq.2 0 y1 _ rfl rfl, hne, hl1, fun p hp => in_notAnd (hrs p hp), fun b us G1 nb k1 hb hus => ?_⟩
        have sa1 := Same.sqT k1 sa
        walk_at "sx"
        refine ⟨y2, _, ts, rfl, (pq.2 1 y2 _ rfl rfl).same k1, ct, hl2, hts, fun b2 ws G2 nb2 k2 hb2 hws => ?_⟩
        walk_at "sx"
        rename_i tb ntb
        have kk : Same G2 (upd G2 tb (.tup [.ref b, .ref b2])) := same_upd ntb
        refine q tb b b2 us ws _ ((k1.trans k2).trans kk) (.of upd_same) (kk _ _ (k2 _ _ hb)) (kk _ _ hb2) ?_ ?_
        · exact (((PtsAt.up hus (j := k) (by omega)).same k2).same kk)
        · exact ((PtsAt.up hws (j := k) (by omega)).same kk)
end
end Gs

namespace Gs
open PySem PySem.Spec PyProof.Rows L2 TL
abbrev s_tree_of : Stmt := PySem.Challenge.pw_goalstead_k39_resolved.main.body.getD 20 (.Pass ⟨0, 0, 0, 0⟩)
theorem sc_tree_of : FnScope ["reading", "trees"] ["reading", "trees"] (defScope s_tree_of) := ⟨rfl, rfl, rfl, by decide +kernel, rfl, by decide +kernel, by decide +kernel⟩
abbrev s_placed_test : Stmt := PySem.Challenge.pw_goalstead_k39_resolved.main.body.getD 21 (.Pass ⟨0, 0, 0, 0⟩)
theorem sc_placed_test : FnScope ["reading", "trees"] ["reading", "trees"] (defScope s_placed_test) := ⟨rfl, rfl, rfl, by decide +kernel, rfl, by decide +kernel, by decide +kernel⟩
abbrev s_trees_of : Stmt := PySem.Challenge.pw_goalstead_k39_resolved.main.body.getD 26 (.Pass ⟨0, 0, 0, 0⟩)
theorem sc_trees_of : FnScope ["ranges", "tests", "filling", "trees", "place", "part", "test", "unknown", "term"] ["ranges", "tests", "filling"] (defScope s_trees_of) := ⟨rfl, rfl, rfl, by decide +kernel, rfl, by decide +kernel, by decide +kernel⟩
/-! ### what stands for names: a thing, or nothing -/
abbrev Ol := List (Str × Option Pt)
def PoAt (K : PySem.W.Frag) (H : Hp) (k : Nat) (v : V) : Option Pt → Prop
  | none => v = .non
  | some p => PtAt K H k v p
theorem PoAt.mono {K : PySem.W.Frag} {H H' : Hp} {k : Nat} {v : V} {o : Option Pt} (h : PoAt K H k v o) (g : ∀ a xs, SqT K H a xs → SqT K H' a xs) : PoAt K H' k v o := by
  cases o with
  | none => exact h
  | some p => exact PtAt.mono g h
def lookO : Ol → Str → Option (Option Pt)
  | [], _ => none
  | (y, o) :: r, z => if y = z then some o else lookO r z
inductive SoAt (K : PySem.W.Frag) (H : Hp) (k : Nat) : List (Key × V) → Ol → Prop
  | nil : SoAt K H k [] []
  | cons {z : Str} {v : V} {o : Option Pt} {r : List (Key × V)} {f : Ol} : PoAt K H k v o → SoAt K H k r f → SoAt K H k ((Sum.inr z, v) :: r) ((z, o) :: f)
theorem SoAt.len {K : PySem.W.Frag} {H : Hp} {k : Nat} {r : List (Key × V)} {f : Ol} (h : SoAt K H k r f) : r.length = f.length := by
  induction h with
  | nil => rfl
  | cons a b ih => rw [List.length_cons, List.length_cons, ih]
theorem SoAt.mono {K : PySem.W.Frag} {H H' : Hp} {k : Nat} {r : List (Key × V)} {f : Ol} (h : SoAt K H k r f) (g : ∀ a xs, SqT K H a xs → SqT K H' a xs) : SoAt K H' k r f := by
  induction h with
  | nil => exact .nil
  | cons a b ih => exact .cons (a.mono g) ih
theorem SoAt.find {K : PySem.W.Frag} {H : Hp} {k : Nat} {r : List (Key × V)} {f : Ol} (h : SoAt K H k r f) (z : Str) : (valV r (Sum.inr z) = none ∧ lookO f z = none) ∨ ∃ v o, valV r (Sum.inr z) = some v ∧ lookO f z = some o ∧ PoAt K H k v o := by
  induction h with
  | nil => exact .inl ⟨rfl, rfl⟩
  | @cons y v o r f a b ih =>
    by_cases e : y = z
    · subst e
      refine .inr ⟨v, o, valV_pos (p := ((Sum.inr y : Key), v)) rfl, ?_, a⟩
      rw [lookO, if_pos rfl]
    · rw [valV_neg (p := ((Sum.inr y : Key), v)) (by simpa using e), lookO, if_neg e]
      exact ih
theorem SoAt.append {K : PySem.W.Frag} {H : Hp} {k : Nat} {r r' : List (Key × V)} {f f' : Ol} (h : SoAt K H k r f) (h' : SoAt K H k r' f') : SoAt K H k (r ++ r') (f ++ f') := by
  induction h with
  | nil => exact h'
  | cons a b ih => exact .cons a ih
theorem SoAt.more {K : PySem.W.Frag} {H : Hp} {k : Nat} {r : List (Key × V)} {f : Ol} (h : SoAt K H k r f) {z : Str} {v : V} {o : Option Pt} (hv : PoAt K H k v o) (hz : lookO f z = none) : SoAt K H k (putK r (Sum.inr z) v) (f ++ [(z, o)]) := by
  unfold putK
  rw [valV_any]
  have e : (valV r (Sum.inr z)).isSome = false := by
    rcases h.find z with ⟨a, b⟩ | ⟨_, _, a, b, _⟩
    · rw [a]
      rfl
    · rw [hz] at b
      cases b
  rw [e, if_neg (by decide)]
  exact h.append (.cons hv .nil)
theorem lookO_append : ∀ (f g : Ol) (z : Str), lookO (f ++ g) z = (lookO f z).or (lookO g z)
  | [], g, z => by simp [lookO]
  | (y, p') :: r, g, z => by
    rw [List.cons_append, lookO, lookO, lookO_append r g z]
    by_cases e : y = z <;> simp [e]
theorem lookO_mem : ∀ {f : Ol} {z : Str} {o : Option Pt}, lookO f z = some o → (z, o) ∈ f
  | [], z, o, h => by cases h
  | (y, p) :: r, z, o, h => by
    rw [lookO] at h
    by_cases e : y = z
    · rw [if_pos e] at h
      cases h
      rw [e]
      exact List.mem_cons_self ..
    · rw [if_neg e] at h
      exact List.mem_cons_of_mem _ (lookO_mem h)
def plc0 : List Str → Nat → Ol
  | [], _ => []
  | z :: r, i => (z, some (.t "at" [.i (i : Int)])) :: plc0 r (i + 1)
theorem plc0_append : ∀ (a b : List Str) (i : Nat), plc0 (a ++ b) i = plc0 a i ++ plc0 b (i + a.length)
  | [], b, i => rfl
  | z :: r, b, i => by
    rw [List.cons_append, plc0, plc0, plc0_append r b (i + 1), List.cons_append, List.length_cons]
    rw [show i + 1 + r.length = i + (r.length + 1) from by omega]
theorem plc0_none : ∀ (a : List Str) (i : Nat) (z : Str), z ∉ a → lookO (plc0 a i) z = none
  | [], i, z, _ => rfl
  | y :: r, i, z, h => by
    rw [plc0, lookO, if_neg fun e => h (by rw [e]; exact List.mem_cons_self ..)]
    exact plc0_none r (i + 1) z fun m => h (List.mem_cons_of_mem _ m)
theorem plc0_some : ∀ (a : List Str) (i : Nat) (z : Str), z ∈ a → ∃ j : Nat, j < i + a.length ∧ lookO (plc0 a i) z = some (some (.t "at" [.i (j : Int)]))
  | [], i, z, h => by cases h
  | y :: r, i, z, h => by
    rw [plc0, lookO]
    by_cases e : y = z
    · rw [if_pos e]
      exact ⟨i, by rw [List.length_cons]; omega, rfl⟩
    · rw [if_neg e]
      obtain ⟨j, h1, h2⟩ := plc0_some r (i + 1) z (by
        rcases List.mem_cons.mp h with h | h
        · exact absurd h.symm e
        · exact h)
      exact ⟨j, by rw [List.length_cons]; omega, h2⟩
/-- what a name stands for: its place, or the number that it is bound to -/
def rho (ns : List Str) (f : Fl) (z : Str) : Option Pt := match lookO (plc0 ns 0) z with
  | some o => o
  | none => (look f z).bind fun p => (numP p).map Pt.i
def spTreeOf (K : PySem.W.Frag) (k : Nat) : Sp := fun vs H Q _ => ∃ (v : V) (d : Addr) (t : Sm) (r : List (Key × V)) (f : Fl) (j : Nat), vs = [v, .ref d] ∧ PtAt K H k v t.pt ∧ t.Ok (fun z => (look f z).isSome = true) ∧ H d = some (.dK r) ∧ StAt K H j r f ∧ ∀ v' H', Same H H' → PtAt K H' (k + j) v' (putI f t.pt) → Q v' H'
def spPlaced (K : PySem.W.Frag) (k : Nat) : Sp := fun vs H Q _ => ∃ (v : V) (d : Addr) (s : Str) (t1 t2 : Sm) (r : List (Key × V)) (f : Fl) (j : Nat), vs = [v, .ref d] ∧ PtAt K H (k + 1) v (.t s [t1.pt, t2.pt]) ∧ t1.Ok (fun z => (look f z).isSome = true) ∧ t2.Ok (fun z => (look f z).isSome = true) ∧ H d = some (.dK r) ∧ StAt K H j r f ∧ ∀ v' H', Same H H' → PtAt K H' (k + j + 1) v' (.t s [putI f t1.pt, putI f t2.pt]) → Q v' H'
section
variable {P : Program} {w : World} {K : PySem.W.Frag} {mg : Str → Option Value} {base : Heap} {f : Addr} {fd : FuncData}
def HasTreeOf (k : Nat) (P : Program) (w : World) (K : PySem.W.Frag) (mg : Str → Option Value) (base : Heap) : Prop := Has P w K mg base k "tree_of" ["reading", "trees"] (spTreeOf K k)
def HasPlaced (k : Nat) (P : Program) (w : World) (K : PySem.W.Frag) (mg : Str → Option Value) (base : Heap) : Prop := Has P w K mg base (k + 1) "placed_test" ["reading", "trees"] (spPlaced K k)
theorem ok_tree_of (F : Fun K "tree_of" "tree_of" s_tree_of f fd) (T : Txt mg) (b : Binds K fd ["reading", "trees"] []) (kp : PySem.W.keepIn K (.ref f) = true) (m : mg "tree_of" = some (.ref f)) : ∀ k, FnOk P w K mg base CX0 k f fd ["reading", "trees"] (spTreeOf K k)
  | 0 => ⟨fun vs H Q E h => by
      obtain ⟨v, d, t, r, fl, j, _, h, _⟩ := h
      exact h.elim, fun A outer s H args us vs Q E _ _ _ _ h => by
      obtain ⟨v, d, t, r, fl, j, _, h, _⟩ := h
      exact h.elim⟩
  | k + 1 => by
    have C_tree_of : HasTreeOf k P w K mg base := ⟨f, fd, ok_tree_of F T b kp m k, b, kp, m⟩
    refine F.ok sc_tree_of (fun vs H Q E h => ?_) (fun cdv A outer s H vs Q E hr h => ?_)
    · obtain ⟨v, d, t, r, fl, j, rfl, _⟩ := h
      rfl
    obtain ⟨v, d, t, r, fl, j, rfl, hv, hok, hd, sf, q⟩ := h
    refine ⟨_, (pss_cons (ps_if (pt_val (pe_callB (call_isiKK (K := K)) (by rfl) T.z_isinstance (by decide +kernel) (pa_cons (pv 0) (pa_cons (pe_bltn (v := .ty "int") (by rfl) T.z_int (by decide +kernel) rfl) pa_nil))))
      (pss_one (ps_ret (pv 0)))
      pss_nil)
    (pss_cons (ps_if (pt_val (pe_callB (call_isiKK (K := K)) (by rfl) T.z_isinstance (by decide +kernel) (pa_cons (pv 0) (pa_cons (pe_bltn (v := .ty "str") (by rfl) T.z_str (by decide +kernel) rfl) pa_nil))))
      (pss_one (ps_ret (pe_dget (hu_of hr) (pv 1) (pv 0) (fun _ _ => rfl))))
      pss_nil)
    (pss_one (ps_ret (pe_tup (pa_cons (pe_ix (ix_tupK (K := K)) (pv 0) pe_int (fun _ _ => rfl)) (pa_cons (pe_callH C_tree_of hr (pa_cons (pe_ix (ix_tupK (K := K)) (pv 0) pe_int (fun _ _ => rfl)) (pa_cons (pv 1) pa_nil)) (hk := Nat.le_refl _)) (pa_cons (pe_callH C_tree_of hr (pa_cons (pe_ix (ix_tupK (K := K)) (pv 0) pe_int (fun _ _ => rfl)) (pa_cons (pv 1) pa_nil)) (hk := Nat.le_refl _)) pa_nil)))))))), ?_⟩
    walk_at "sx"
    rcases Sm.three hv with ⟨z, rfl, rfl⟩ | ⟨z, rfl, rfl⟩ | ⟨i0, s, t1, t2, p, x, y, hk, rfl, rfl, sp, h1, h2⟩
    · refine x_isT (t := .type "int") (c := true) (.base (.int z)) (kit_ty (by decide +kernel)) ?_
      walk_at "sx"
      exact q _ _ (fun _ _ e => e) (PtAt.up (k := 1) (u := .i z) rfl (by omega))
    · refine x_isT (t := .type "str") (c := false) (.base (.str z)) (kit_ty (by decide +kernel)) ?_
      walk_at "sx"
      refine x_isT (t := .type "str") (c := true) (.base (.str z)) (kit_ty (by decide +kernel)) ?_
      walk_at "sx"
      refine x_dget ?_
      walk_at "sx"
      have hz : (look fl z).isSome = true := hok
      rcases sf.find z with ⟨e1, e2⟩ | ⟨v1, u1, e1, e2, pu⟩
      · rw [e2] at hz
        cases hz
      · refine ⟨d, v1, rfl, e1 ▸ DGet.k (k := Sum.inr z) hd, ?_⟩
        refine q _ _ (fun _ _ e => e) ?_
        rw [Sm.pt, putI, e2]
        exact pu.up (by omega)
    · obtain rfl : k = i0 := by omega
      obtain ⟨hs, ok1, ok2⟩ := hok
      refine x_isT (t := .type "tuple") (c := false) (ty_tup sp) (kit_ty (by decide +kernel)) ?_
      walk_at "sx"
      refine x_isT (t := .type "tuple") (c := false) (ty_tup sp) (kit_ty (by decide +kernel)) ?_
      walk_at "sx"
      refine ⟨x, d, t1, r, fl, j, rfl, h1, ok1, hd, sf, fun v1 H1 k1 a1 => ?_⟩
      have sp1 := Same.sqT k1 sp
      walk_at "sx"
      refine ⟨y, d, t2, r, fl, j, rfl, h2.same k1, ok2, k1 _ _ hd, sf.mono (fun _ _ s => Same.sqT k1 s), fun v2 H2 k2 a2 => ?_⟩
      walk_at "sx"
      rename_i tn ntn
      refine q _ _ ((k1.trans k2).trans (same_upd ntn)) ?_
      rw [Sm.pt, putI, putL, putL, putL, show k + 1 + j = k + j + 1 from by omega]
      exact PtAt.tup (vs := [v1, v2]) (.of upd_same) ((PtsAt.one ((a1.same k2).same (same_upd ntn))).append (.one (a2.same (same_upd ntn))))
theorem ok_placed {k : Nat} (F : Fun K "placed_test" "placed_test" s_placed_test f fd) (T : Txt mg) (C_tree_of : HasTreeOf k P w K mg base) : FnOk P w K mg base CX0 (k + 1) f fd ["reading", "trees"] (spPlaced K k) := by
  refine F.ok sc_placed_test (fun vs H Q E h => ?_) (fun cdv A outer s H vs Q E hr h => ?_)
  · obtain ⟨v, d, s, t1, t2, r, fl, j, rfl, _⟩ := h
    rfl
  obtain ⟨v, d, s, t1, t2, r, fl, j, rfl, hv, ok1, ok2, hd, sf, q⟩ := h
  refine ⟨_, (pss_one (ps_ret (pe_tup (pa_cons (pe_ix (ix_tupK (K := K)) (pv 0) pe_int (fun _ _ => rfl)) (pa_cons (pe_callH C_tree_of hr (pa_cons (pe_ix (ix_tupK (K := K)) (pv 0) pe_int (fun _ _ => rfl)) (pa_cons (pv 1) pa_nil)) (hk := by omega)) (pa_cons (pe_callH C_tree_of hr (pa_cons (pe_ix (ix_tupK (K := K)) (pv 0) pe_int (fun _ _ => rfl)) (pa_cons (pv 1) pa_nil)) (hk := by omega)) pa_nil)))))), ?_⟩
  rcases hv.three with ⟨n, _, e⟩ | ⟨_, _, e⟩ | ⟨i0, nm, qs, p, us, hk, rfl, e, sp, pq⟩
  · cases e
  · cases e
  · cases e
    obtain rfl : k = i0 := by omega
    match us, pq with
    | [x, y], pq =>
      walk_at "sx"
      refine ⟨x, d, t1, r, fl, j, rfl, pq.2 0 x _ rfl rfl, ok1, hd, sf, fun v1 H1 k1 a1 => ?_⟩
      have sp1 := Same.sqT k1 sp
      walk_at "sx"
      refine ⟨y, d, t2, r, fl, j, rfl, (pq.2 1 y _ rfl rfl).same k1, ok2, k1 _ _ hd, sf.mono (fun _ _ s => Same.sqT k1 s), fun v2 H2 k2 a2 => ?_⟩
      walk_at "sx"
      rename_i tn ntn
      refine q _ _ ((k1.trans k2).trans (same_upd ntn)) ?_
      exact PtAt.tup (vs := [v1, v2]) (.of upd_same) ((PtsAt.one ((a1.same k2).same (same_upd ntn))).append (.one (a2.same (same_upd ntn))))
/-- what the dict of names holds, once the ranges and so many of the tests' names are seen -/
def spTreesOf (K : PySem.W.Frag) : Sp := fun vs H Q _ => ∃ (a b d : Addr) (us ws : List V) (rs ts : List Pt) (ns : List Str) (k : Nat) (N : Str → Prop) (r : List (Key × V)) (f : Fl) (j : Nat), vs = [.ref a, .ref b, .ref d] ∧ H a = some (.lst us) ∧ PtsAt K H k us rs ∧ H b = some (.lst ws) ∧ PtsAt K H k ws ts ∧
  rs.length = ns.length ∧ (∀ (i : Nat) (p : Pt) (z : Str), rs[i]? = some p → ns[i]? = some z → ∃ x : Pt, p = Pt.t "in" [.s z, x]) ∧ ns.Nodup ∧ okL TxOk N ts ∧ ns.length + szL ts ≤ 10000 ∧ H d = some (.dK r) ∧ StAt K H j r f ∧ 2 ≤ j ∧ (∀ t ∈ ts, ∀ z ∈ nmT t, z ∈ ns ∨ (look f z).isSome = true) ∧
  ∀ d' r' o H', H d' = none → Same H H' → H' d' = some (.dK r') → SoAt K H' j r' o → (∀ e ∈ o, e.2 = rho ns f e.1) → (∀ t ∈ ts, ∀ z ∈ nmT t, (lookO o z).isSome = true) → (∀ e ∈ o, e.1 ∈ ns ∨ ∃ t ∈ ts, e.1 ∈ nmT t) → Q (.ref d') H'
theorem lookO_none {o : Ol} {z : Str} (h : ∀ e ∈ o, e.1 ≠ z) : lookO o z = none := by
  cases c : lookO o z with
  | none => rfl
  | some x => exact absurd rfl (h _ (lookO_mem c))
theorem lookO_more {o : Ol} {z y : Str} {p : Option Pt} (h : (lookO o y).isSome = true) : (lookO (o ++ [(z, p)]) y).isSome = true := by
  rw [lookO_append]
  cases e : lookO o y with
  | none =>
    rw [e] at h
    cases h
  | some x => rfl
theorem lookO_new {o : Ol} {z : Str} {p : Option Pt} (h : lookO o z = none) : (lookO (o ++ [(z, p)]) z).isSome = true := by
  rw [lookO_append, h, lookO, if_pos rfl]
  rfl
theorem plc0_mem {ns : List Str} {i : Nat} {e : Str × Option Pt} (h : e ∈ plc0 ns i) : e.1 ∈ ns := by
  induction ns generalizing i with
  | nil => cases h
  | cons z r ih =>
    rw [plc0] at h
    rcases List.mem_cons.mp h with rfl | h
    · exact List.mem_cons_self ..
    · exact List.mem_cons_of_mem _ (ih h)
theorem plc0_rho {ns : List Str} (hn : ns.Nodup) {f : Fl} {e : Str × Option Pt} (h : e ∈ plc0 ns 0) : e.2 = rho ns f e.1 := by
  have key : ∀ (ns : List Str) (i : Nat), ns.Nodup → e ∈ plc0 ns i → lookO (plc0 ns i) e.1 = some e.2 := by
    intro ns
    induction ns with
    | nil =>
      intro i _ h
      cases h
    | cons z r ih =>
      intro i hn h
      rw [plc0] at h ⊢
      rw [List.nodup_cons] at hn
      rcases List.mem_cons.mp h with rfl | h
      · rw [lookO, if_pos rfl]
      · rw [lookO, if_neg fun c => hn.1 (by rw [c]; exact plc0_mem h)]
        exact ih (i + 1) hn.2 h
  unfold rho
  rw [key ns 0 hn h]
theorem rho_out {ns : List Str} {f : Fl} {z : Str} (h : z ∉ ns) : rho ns f z = (look f z).bind fun p => (numP p).map Pt.i := by
  unfold rho
  rw [plc0_none ns 0 z h]
set_option maxHeartbeats 1000000 in
theorem ok_trees_of (F : Fun K "_trees_of" "_trees_of" s_trees_of f fd) (T : Txt mg) (C_unknowns_of : Has P w K mg base 2 "unknowns_of" ["pattern"] (spUnknowns K)) : FnOk P w K mg base CX0 3 f fd ["ranges", "tests", "filling"] (spTreesOf K) := by
  refine F.ok sc_trees_of (fun vs H Q E h => ?_) (fun cdv A outer s H vs Q E hr h => ?_)
  · obtain ⟨a, b, d, us, ws, rs, ts, ns, k, N, r, fl, j, rfl, _⟩ := h
    rfl
  obtain ⟨a, b, d, us, ws, rs, ts, ns, k, N, r, fl, j, rfl, ha, hrs, hb, hts, hlen, hin, hnd, hok, hsz, hd, sf, hj, hnm, q⟩ := h
  have lrs := hrs.1
  refine ⟨_, (pss_cons (ps_set (i := 3) sc_trees_of.nd rfl (Or.inl rfl) pe_dnewK)
    (pss_cons (ps_for PassesOwn.never rfl (pi_enum (by rfl) T.z_enumerate (pa_cons (pv 0) pa_nil)) (pg_tup (by rfl) (pgs_cons (pg_name (i := 4) sc_trees_of.nd rfl (.inl rfl)) (pgs_cons (pg_name (i := 5) sc_trees_of.nd rfl (.inl rfl)) pgs_nil)))
      (pss_one (ps_asg (pe_tup (pa_cons pe_str (pa_cons (pv 4) pa_nil))) (pg_sub (pv 3) (pe_ix (ix_tupK (K := K)) (pv 5) pe_int (fun _ _ => rfl)) (set_dict (Nat.lt_of_le_of_lt (Nat.add_le_add_left (by decide : 1 ≤ 64) _) hr.units))))))
    (pss_cons (ps_for PassesOwn.never rfl (pi_list (pv 1)) (pg_name (i := 6) sc_trees_of.nd rfl (.inl rfl))
      (pss_one (ps_for PassesOwn.never rfl (pi_list (pe_callH C_unknowns_of hr (pa_cons (pv 6) pa_nil))) (pg_name (i := 7) sc_trees_of.nd rfl (.inl rfl))
      (pss_one (ps_if (pt_cmp (pc_dnotin (hu_of hr) (pv 7) (pv 3)))
      (pss_cons (ps_set (i := 8) sc_trees_of.nd rfl (Or.inl rfl) (pe_dget (hu_of hr) (pv 2) (pv 7) (fun _ _ => rfl)))
    (pss_one (ps_asg (pe_ifExp (pt_val (pe_callB (call_isiKK (K := K)) (by rfl) T.z_isinstance (by decide +kernel) (pa_cons (pv 8) (pa_cons (pe_bltn (v := .ty "int") (by rfl) T.z_int (by decide +kernel) rfl) pa_nil)))) (pv 8) pe_non) (pg_sub (pv 3) (pv 7) (set_dict (Nat.lt_of_le_of_lt (Nat.add_le_add_left (by decide : 1 ≤ 64) _) hr.units))))))
      pss_nil)))))
    (pss_one (ps_ret (pv 3)))))), ?_⟩
  walk_at "sx"
  intro g ng
  walk_at "sx"
  have kg : Same H (upd H g (.dK [])) := same_upd ng
  have nga := ne_of_none ha ng
  have ngb := ne_of_none hb ng
  have ngd := ne_of_none hd ng
  refine x_forE (K := K) (a := a) (xs := us) (fun i σ' G => ∃ (x y : Option V) (r' : List (Key × V)), σ' = [some (.ref a), some (.ref b), some (.ref d), some (.ref g), x, y, none, none, none] ∧ Same H G ∧ G g = some (.dK r') ∧ SoAt K G j r' (plc0 (ns.take i) 0)) (.of (kg _ _ ha)) ⟨none, none, [], rfl, kg, upd_same, .nil⟩ ?_ ?_ ?_
  · rintro i σ' G _ ⟨x, y, r', rfl, kG, e1, e2⟩
    exact .of (kG _ _ ha)
  · rintro i v σ' G T' hv ⟨x, y, r', rfl, kG, e1, e2⟩ nT
    obtain ⟨p, hp, pp⟩ := hrs.at hv
    have hi : i < ns.length := by
      have := (List.getElem?_eq_some_iff.mp hp).1
      omega
    obtain ⟨z, hz⟩ : ∃ z, ns[i]? = some z := ⟨_, List.getElem?_eq_getElem hi⟩
    obtain ⟨xx, rfl⟩ := hin i p z hp hz
    have kT : Same G (upd G T' (.tup [V.int (i : Int), v])) := same_upd nT
    have kk := kG.trans kT
    rcases (pp.same kk).three with ⟨_, _, e⟩ | ⟨_, _, e⟩ | ⟨i0, nm, qs, pa, ys, _, rfl, e, sp, pq⟩
    · cases e
    · cases e
    · cases e
      match ys, pq with
      | [y1, y2], pq =>
        have hy1 : y1 = .str z := by
          have := pq.2 0 y1 _ rfl rfl
          rcases this.three with ⟨_, _, e⟩ | ⟨_, rfl, e⟩ | ⟨_, _, _, _, _, _, _, e, _⟩
          · cases e
          · cases e
            rfl
          · cases e
        subst hy1
        walk_at "sx"
        rename_i t2 nt2
        have k2 := kk.trans (same_upd (o := .tup [V.str "at", .int (i : Int)]) nt2)
        have kGG : Same G (upd (upd G T' (.tup [V.int (i : Int), .ref pa])) t2 (.tup [V.str "at", .int (i : Int)])) := kT.trans (same_upd nt2)
        have e1' := kGG _ _ e1
        have lr := e2.len
        have lpl : (plc0 (ns.take i) 0).length ≤ i := by
          have key : ∀ (l : List Str) (c : Nat), (plc0 l c).length = l.length := by
            intro l
            induction l with
            | nil =>
              intro c
              rfl
            | cons x y ih =>
              intro c
              rw [plc0, List.length_cons, ih, List.length_cons]
          rw [key, List.length_take]
          omega
        have sp2 := sqT_new nt2 (o := .tup [V.str "at", .int (i : Int)]) sp
        walk_at "sx"
        refine ⟨g, _, rfl, DPut.k (k := Sum.inr z) e1' (szl (by omega)), ?_⟩
        have hnone : lookO (plc0 (ns.take i) 0) z = none := plc0_none _ _ _ fun m => by
          obtain ⟨i', hi', e⟩ := List.getElem_of_mem m
          rw [List.length_take] at hi'
          rw [List.getElem_take] at e
          have h3 := (List.getElem?_eq_some_iff.mp hz).2
          have := (List.getElem_inj hnd).mp (e.trans h3.symm)
          omega
        have g2 : ∀ a xs, SqT K G a xs → SqT K (upd (upd (upd G T' (.tup [V.int (i : Int), .ref pa])) t2 (.tup [V.str "at", .int (i : Int)])) g (.dK (putK r' (Sum.inr z) (.ref t2)))) a xs := fun _ _ s => sqT_dk e1' (Same.sqT kGG s)
        have hat : PtAt K (upd (upd (upd G T' (.tup [V.int (i : Int), .ref pa])) t2 (.tup [V.str "at", .int (i : Int)])) g (.dK (putK r' (Sum.inr z) (.ref t2)))) j (.ref t2) (.t "at" [.i (i : Int)]) := by
          refine PtAt.up (k := 2) (PtAt.tup (vs := [.int (i : Int)]) (sqT_dk e1' (.of upd_same)) (.one ?_)) hj
          rfl
        refine ⟨_, _, _, rfl, same_updf k2 ng, upd_same, ?_⟩
        rw [take_more hz, plc0_append, List.length_take, Nat.min_eq_left (by omega), Nat.zero_add]
        exact SoAt.more (e2.mono g2) (o := some _) hat hnone
  · rintro σ' G ⟨x, y, r', rfl, kG, e1, e2⟩
    rw [lrs, hlen, List.take_length] at e2
    walk_at "sx"
    refine x_forL (K := K) (a := b) (xs := ws) (fun i σ' G => ∃ (x y x1 x2 x3 : Option V) (r' : List (Key × V)) (o : Ol), σ' = [some (.ref a), some (.ref b), some (.ref d), some (.ref g), x, y, x1, x2, x3] ∧ Same H G ∧ G g = some (.dK r') ∧ SoAt K G j r' o ∧ (∀ e ∈ o, e.2 = rho ns fl e.1) ∧ (∀ t ∈ ts.take i, ∀ z ∈ nmT t, (lookO o z).isSome = true) ∧ (∀ e ∈ o, e.1 ∈ ns ∨ ∃ t ∈ ts, e.1 ∈ nmT t) ∧ (∀ z ∈ ns, (lookO o z).isSome = true) ∧ o.length ≤ ns.length + szL (ts.take i)) ?_ ?_ ?_ ?_ (.of (kG _ _ hb))
    · refine ⟨x, y, none, none, none, r', _, rfl, kG, e1, e2, fun e he => plc0_rho hnd he, (fun t ht => by cases ht), fun e he => .inl (plc0_mem he), fun z hz => ?_, ?_⟩
      · obtain ⟨jj, _, h2⟩ := plc0_some ns 0 z hz
        rw [h2]
        rfl
      · have key : ∀ (l : List Str) (c : Nat), (plc0 l c).length = l.length := by
          intro l
          induction l with
          | nil =>
            intro c
            rfl
          | cons x y ih =>
            intro c
            rw [plc0, List.length_cons, ih, List.length_cons]
        rw [key]
        exact Nat.le_add_right _ _
    · rintro i σ' G _ ⟨x, y, x1, x2, x3, r', o, rfl, kG, _⟩
      exact .of (kG _ _ hb)
    · rintro i v σ' G hv ⟨x, y, x1, x2, x3, r', o, rfl, kG, e1, e2, e3, e4, e5, e6, e7⟩
      obtain ⟨t, ht, pt⟩ := hts.at hv
      have hmem := List.mem_of_getElem? ht
      have hs1 : szL (ts.take (i + 1)) = szL (ts.take i) + szT t := by
        rw [take_more ht, szL_append]
        simp [szL]
      have hs2 := szL_take_le ts (i + 1)
      walk_at "sx"
      refine ⟨v, k, t, N, rfl, pt.same kG, okL_mem.mp hok t hmem, by omega, fun c G1 nc k1 ec => ?_⟩
      have hl1 := once_le (nmT t)
      have hl2 := nmT_len t
      refine x_forL (K := K) (a := c) (xs := (once (nmT t)).map V.str) (fun i2 σ' G => ∃ (x2 x3 : Option V) (r' : List (Key × V)) (o : Ol), σ' = [some (.ref a), some (.ref b), some (.ref d), some (.ref g), x, y, some v, x2, x3] ∧ Same H G ∧ G g = some (.dK r') ∧ SoAt K G j r' o ∧ (∀ e ∈ o, e.2 = rho ns fl e.1) ∧ (∀ t ∈ ts.take i, ∀ z ∈ nmT t, (lookO o z).isSome = true) ∧ (∀ z ∈ (once (nmT t)).take i2, (lookO o z).isSome = true) ∧ (∀ e ∈ o, e.1 ∈ ns ∨ ∃ t ∈ ts, e.1 ∈ nmT t) ∧ (∀ z ∈ ns, (lookO o z).isSome = true) ∧ o.length ≤ ns.length + szL (ts.take i) + i2 ∧ G c = some (.lst ((once (nmT t)).map V.str))) ?_ ?_ ?_ ?_ (.of ec)
      · exact ⟨x2, x3, r', o, rfl, kG.trans k1, k1 _ _ e1, e2.mono (fun _ _ s => Same.sqT k1 s), e3, e4, (fun z hz => by cases hz), e5, e6, e7, ec⟩
      · rintro i2 σ' G _ ⟨x2, x3, r', o, rfl, kG, f1, f2, f3, f4, f5, f6, f7, f8, f9⟩
        exact .of f9
      · rintro i2 y2 σ' G hy ⟨x2, x3, r', o, rfl, kG2, f1, f2, f3, f4, f5, f6, f7, f8, f9⟩
        rw [List.getElem?_map] at hy
        cases hz : (once (nmT t))[i2]? with
        | none =>
          rw [hz] at hy
          cases hy
        | some z =>
          rw [hz] at hy
          cases hy
          have hi2 : i2 < (once (nmT t)).length := (List.getElem?_eq_some_iff.mp hz).1
          have hzm : z ∈ nmT t := mem_once.mp (List.mem_of_getElem? hz)
          have lo := f2.len
          walk_at "sx"
          refine x_dnin ?_
          walk_at "sx"
          refine ⟨g, _, rfl, DGet.k (k := Sum.inr z) f1, ?_⟩
          rcases f2.find z with ⟨g1, g2⟩ | ⟨v3, o3, g1, g2, po⟩
          · rw [g1]
            refine ⟨true, rfl, ?_⟩
            have hzn : z ∉ ns := fun m => by
              have := f7 z m
              rw [g2] at this
              cases this
            have hzf : (look fl z).isSome = true := by
              rcases hnm t hmem z hzm with h | h
              · exact absurd h hzn
              · exact h
            walk_at "sx"
            refine x_dget ?_
            walk_at "sx"
            have sf2 := sf.mono fun _ _ s => Same.sqT kG2 s
            rcases sf2.find z with ⟨_, e⟩ | ⟨v1, u1, h1, h2, pu⟩
            · rw [e] at hzf
              cases hzf
            refine ⟨d, v1, rfl, h1 ▸ DGet.k (k := Sum.inr z) (kG2 _ _ hd), ?_⟩
            have hrho : rho ns fl z = (numP u1).map Pt.i := by
              rw [rho_out hzn, h2]
              rfl
            have fin : ∀ (v4 : V) (o4 : Option Pt), o4 = rho ns fl z → (∀ G', (∀ a xs, SqT K G a xs → SqT K G' a xs) → PoAt K G' j v4 o4) → ∃ (x2 x3 : Option V) (r'' : List (Key × V)) (o' : Ol), [some (V.ref a), some (.ref b), some (.ref d), some (.ref g), x, y, some v, some (.str z), some v1] = [some (.ref a), some (.ref b), some (.ref d), some (.ref g), x, y, some v, x2, x3] ∧ Same H (upd G g (.dK (putK r' (Sum.inr z) v4))) ∧ (upd G g (.dK (putK r' (Sum.inr z) v4))) g = some (.dK r'') ∧ SoAt K (upd G g (.dK (putK r' (Sum.inr z) v4))) j r'' o' ∧ (∀ e ∈ o', e.2 = rho ns fl e.1) ∧ (∀ t ∈ ts.take i, ∀ z ∈ nmT t, (lookO o' z).isSome = true) ∧ (∀ z ∈ (once (nmT t)).take (i2 + 1), (lookO o' z).isSome = true) ∧ (∀ e ∈ o', e.1 ∈ ns ∨ ∃ t ∈ ts, e.1 ∈ nmT t) ∧ (∀ z ∈ ns, (lookO o' z).isSome = true) ∧ o'.length ≤ ns.length + szL (ts.take i) + (i2 + 1) ∧ (upd G g (.dK (putK r' (Sum.inr z) v4))) c = some (.lst ((once (nmT t)).map V.str)) := by
              intro v4 o4 ho4 hv4
              have gg : ∀ a xs, SqT K G a xs → SqT K (upd G g (.dK (putK r' (Sum.inr z) v4))) a xs := fun _ _ s => sqT_dk f1 s
              refine ⟨_, _, _, o ++ [(z, o4)], rfl, same_updf kG2 ng, upd_same, SoAt.more (f2.mono gg) (hv4 _ gg) g2, fun e he => ?_, fun t' ht' z' hz' => lookO_more (f4 t' ht' z' hz'), fun z' hz' => ?_, fun e he => ?_, fun z' hz' => lookO_more (f7 z' hz'), by rw [List.length_append]; show _ + 1 ≤ _; omega, ?_⟩
              · rcases List.mem_append.mp he with he | he
                · exact f3 e he
                · rw [List.mem_singleton.mp he]
                  exact ho4
              · rw [take_more hz] at hz'
                rcases List.mem_append.mp hz' with hz' | hz'
                · exact lookO_more (f5 z' hz')
                · rw [List.mem_singleton.mp hz']
                  exact lookO_new g2
              · rcases List.mem_append.mp he with he | he
                · exact f6 e he
                · rw [List.mem_singleton.mp he]
                  exact .inr ⟨t, hmem, hzm⟩
              · rw [upd_ne (ne_of f9 f1 (by intro z; cases z))]
                exact f9
            rcases pu.three with ⟨nn, rfl, rfl⟩ | ⟨zz, rfl, rfl⟩ | ⟨i0, nm, qs, pa, ys, hk, rfl, rfl, sp, pq⟩
            · walk_at "sx"
              refine x_isT (t := .type "int") (c := true) (.base (.int nn)) (kit_ty (by decide +kernel)) ?_
              walk_at "sx"
              refine ⟨g, _, rfl, DPut.k (k := Sum.inr z) f1 (szl (by omega)), ?_⟩
              exact fin (.int nn) (some (.i nn)) hrho.symm fun G' _ => PtAt.up (k := 1) (u := .i nn) rfl (by omega)
            · walk_at "sx"
              refine x_isT (t := .type "str") (c := false) (.base (.str zz)) (kit_ty (by decide +kernel)) ?_
              walk_at "sx"
              refine ⟨g, _, rfl, DPut.k (k := Sum.inr z) f1 (szl (by omega)), ?_⟩
              exact fin .non none hrho.symm fun G' _ => rfl
            · walk_at "sx"
              refine x_isT (t := .type "tuple") (c := false) (ty_tup sp) (kit_ty (by decide +kernel)) ?_
              walk_at "sx"
              refine ⟨g, _, rfl, DPut.k (k := Sum.inr z) f1 (szl (by omega)), ?_⟩
              exact fin .non none hrho.symm fun G' _ => rfl
          · rw [g1]
            refine ⟨false, rfl, ?_⟩
            walk_at "sx"
            refine ⟨_, _, r', o, rfl, kG2, f1, f2, f3, f4, fun z' hz' => ?_, f6, f7, by omega, f9⟩
            rw [take_more hz] at hz'
            rcases List.mem_append.mp hz' with hz' | hz'
            · exact f5 z' hz'
            · rw [List.mem_singleton.mp hz', g2]
              rfl
      · rintro σ' G ⟨x2, x3, r', o, rfl, kG2, f1, f2, f3, f4, f5, f6, f7, f8, f9⟩
        rw [List.length_map, List.take_length] at f5
        rw [List.length_map] at f8
        refine ⟨x, y, _, x2, x3, r', o, rfl, kG2, f1, f2, f3, fun t' ht' z' hz' => ?_, f6, f7, by omega⟩
        rw [take_more ht] at ht'
        rcases List.mem_append.mp ht' with ht' | ht'
        · exact f4 t' ht' z' hz'
        · rw [List.mem_singleton.mp ht'] at hz'
          exact f5 z' (mem_once.mpr hz')
    · rintro σ' G ⟨x, y, x1, x2, x3, r', o, rfl, kG, e1, e2, e3, e4, e5, e6, e7⟩
      rw [hts.1, List.take_length] at e4
      walk_at "sx"
      exact q g r' o G ng kG e1 e2 e3 e4 e5
end
end Gs

namespace Gs
open PySem PySem.Spec PyProof.Rows L2 TL
abbrev s_many : Stmt := PySem.Challenge.pw_goalstead_k39_resolved.main.body.getD 27 (.Pass ⟨0, 0, 0, 0⟩)
theorem sc_many : FnScope ["box", "many", "low", "high"] ["box"] (defScope s_many) := ⟨rfl, rfl, rfl, by decide +kernel, rfl, by decide +kernel, by decide +kernel⟩
abbrev s_refuse_many : Stmt := PySem.Challenge.pw_goalstead_k39_resolved.main.body.getD 28 (.Pass ⟨0, 0, 0, 0⟩)
theorem sc_refuse_many : FnScope ["box"] ["box"] (defScope s_refuse_many) := ⟨rfl, rfl, rfl, by decide +kernel, rfl, by decide +kernel, by decide +kernel⟩
abbrev s_worths_of : Stmt := PySem.Challenge.pw_goalstead_k39_resolved.main.body.getD 24 (.Pass ⟨0, 0, 0, 0⟩)
theorem sc_worths_of : FnScope ["part", "filling", "low", "high"] ["part", "filling"] (defScope s_worths_of) := ⟨rfl, rfl, rfl, by decide +kernel, rfl, by decide +kernel, by decide +kernel⟩
abbrev s_box_of : Stmt := PySem.Challenge.pw_goalstead_k39_resolved.main.body.getD 25 (.Pass ⟨0, 0, 0, 0⟩)
theorem sc_box_of : FnScope ["pairs", "pair", "worth"] ["pairs"] (defScope s_box_of) := ⟨rfl, rfl, rfl, by decide +kernel, rfl, by decide +kernel, by decide +kernel⟩
/-- Open: an error of the program's own, made of nothing -/
structure OpenD (K : PySem.W.Frag) (mg : Str → Option Value) (O : Addr) : Prop where
  mO : mg "Open" = some (.ref O)
  ex : PySem.W.excIn K O errM "ValueError.__new__" = true
  kO : PySem.W.keepIn K (.ref O) = true
  sub : PySem.W.subIn K (.ref O) (.type "BaseException") = some true
  ty : PySem.W.typeIn K (.ref O) = some (.type "type")
  exm : PySem.W.exmOne K (.ref O) (.ref O) = some true
theorem ps_raiseD {X : Cx} {W : WX} {O : Addr} {p pos pos2 : Pos} (C : OpenD X.K X.mg O) (hc : X.calm = true) (tk : Takes X W) (hg : Gl X "Open" := by rfl) : PS X (.Raise (some (.Call (.Name "Open" p) [] [] pos)) none pos2) (fun _ σ H => W (.ref O) none σ H) :=
  ps_raise hc tk (pmk_own0 C.ex C.mO C.kO (raises_own C.sub C.ty) hg)
def BoxL (K : PySem.W.Frag) (H : Hp) (b : Addr) (bx : List (Int × Int)) : Prop := ∃ us, H b = some (.lst us) ∧ AllAt (PairAt K H) us bx
def spManyL (K : PySem.W.Frag) : Sp := fun vs H Q _ => ∃ (b : Addr) (bx : List (Int × Int)), vs = [.ref b] ∧ BoxL K H b bx ∧ BxOk bx ∧ bx.length ≤ 10 ∧ Q (.int (many bx)) H
def spRefuseL (K : PySem.W.Frag) (O : Addr) : Sp := fun vs H Q E => ∃ (b : Addr) (bx : List (Int × Int)), vs = [.ref b] ∧ BoxL K H b bx ∧ BxOk bx ∧ bx.length ≤ 10 ∧ (many bx ≤ 400 → Q .non H) ∧ (400 < many bx → E (.ref O) none H)
/-- what is told of a box -/
inductive BR where
  | opn
  | non
  | box (bx : List (Int × Int))
def scan : List (Option Int) → Option BR
  | [] => none
  | none :: _ => some .non
  | some x :: r => if 10 ^ 60 ≤ x.natAbs then some .opn else scan r
def flatE (es : List (Option Int × Option Int)) : List (Option Int) := es.flatMap fun e => [e.1, e.2]
def boxE (es : List (Option Int × Option Int)) : List (Int × Int) := es.map fun e => (e.1.getD 0, e.2.getD 0)
def boxOf (es : List (Option Int × Option Int)) : BR := match scan (flatE es) with
  | some r => r
  | none => if 400 < many (boxE es) then .opn else if 0 < many (boxE es) then .box (boxE es) else .non
theorem scan_append : ∀ (a b : List (Option Int)), scan (a ++ b) = (scan a).or (scan b)
  | [], b => rfl
  | none :: r, b => rfl
  | some x :: r, b => by
    rw [List.cons_append, scan, scan]
    by_cases c : 10 ^ 60 ≤ x.natAbs
    · rw [if_pos c, if_pos c]
      rfl
    · rw [if_neg c, if_neg c]
      exact scan_append r b
def PairO (K : PySem.W.Frag) (H : Hp) (v : V) (e : Option Int × Option Int) : Prop := ∃ p, v = .ref p ∧ SqT K H p [optV e.1, optV e.2]
theorem scan_none : ∀ {es : List (Option Int × Option Int)}, scan (flatE es) = none → BxOk (boxE es) ∧ ∀ e ∈ es, ∃ x y, e = (some x, some y)
  | [], _ => ⟨(by intro e h; cases h), (by intro e h; cases h)⟩
  | (a, b) :: r, h => by
    have e0 : flatE ((a, b) :: r) = a :: b :: flatE r := rfl
    rw [e0] at h
    cases a with
    | none => cases h
    | some x =>
      rw [scan] at h
      by_cases c1 : 10 ^ 60 ≤ x.natAbs
      · rw [if_pos c1] at h
        cases h
      · rw [if_neg c1] at h
        cases b with
        | none => cases h
        | some y =>
          rw [scan] at h
          by_cases c2 : 10 ^ 60 ≤ y.natAbs
          · rw [if_pos c2] at h
            cases h
          · rw [if_neg c2] at h
            obtain ⟨i1, i2⟩ := scan_none h
            have hb : (10 : Nat) ^ 60 < 2 ^ 200 := by decide
            refine ⟨fun e he => ?_, fun e he => ?_⟩
            · rcases List.mem_cons.mp he with rfl | he
              · exact ⟨by show x.natAbs < _; omega, by show y.natAbs < _; omega⟩
              · exact i1 e he
            · rcases List.mem_cons.mp he with rfl | he
              · exact ⟨x, y, rfl⟩
              · exact i2 e he
def spBoxOf (K : PySem.W.Frag) (O : Addr) : Sp := fun vs H Q E => ∃ (b : Addr) (us : List V) (es : List (Option Int × Option Int)), vs = [.ref b] ∧ H b = some (.lst us) ∧ AllAt (PairO K H) us es ∧ es.length ≤ 10 ∧
  (boxOf es = .opn → E (.ref O) none H) ∧ (boxOf es = .non → Q .non H) ∧ ∀ bx p H', boxOf es = .box bx → Same H H' → BoxAt K H' p bx → Q (.ref p) H'
def spWorths (K : PySem.W.Frag) (k : Nat) : Sp := fun vs H Q _ => ∃ (v : V) (d : Addr) (nm : Str) (x : Pt) (t1 t2 : Sm) (r : List (Key × V)) (f : Fl) (j : Nat), vs = [v, .ref d] ∧ PtAt K H (k + 2) v (.t "in" [x, .t nm [t1.pt, t2.pt]]) ∧ t1.Ok (fun z => (look f z).isSome = true) ∧ t2.Ok (fun z => (look f z).isSome = true) ∧ t1.wt ≤ 8500 ∧ t2.wt ≤ 8500 ∧ H d = some (.dK r) ∧ StAt K H j r f ∧ NumLt f ∧
  ∀ v' H', Same H H' → PairO K H' v' (wo f t1, wo f t2) → Q v' H'
section
variable {P : Program} {w : World} {K : PySem.W.Frag} {mg : Str → Option Value} {base : Heap} {f : Addr} {fd : FuncData} {O : Addr}
def HasManyL (P : Program) (w : World) (K : PySem.W.Frag) (mg : Str → Option Value) (base : Heap) : Prop := Has P w K mg base 1 "_many" ["box"] (spManyL K)
def HasRefuseL (O : Addr) (P : Program) (w : World) (K : PySem.W.Frag) (mg : Str → Option Value) (base : Heap) : Prop := HasE P w K mg base 2 "_refuse_many" ["box"] (spRefuseL K O)
def HasBoxOf (O : Addr) (P : Program) (w : World) (K : PySem.W.Frag) (mg : Str → Option Value) (base : Heap) : Prop := HasE P w K mg base 3 "box_of" ["pairs"] (spBoxOf K O)
def HasWorths (k : Nat) (P : Program) (w : World) (K : PySem.W.Frag) (mg : Str → Option Value) (base : Heap) : Prop := Has P w K mg base (k + 2) "_worths_of" ["part", "filling"] (spWorths K k)
theorem max_lt {e : Int × Int} (h : PairLt e 200) : (max 0 (e.2 - e.1 + 1)).natAbs < 2 ^ 202 := by
  unfold PairLt at h
  omega
theorem many_lt {bx : List (Int × Int)} (h : BxOk bx) : (many bx).natAbs < 2 ^ (1 + 202 * bx.length) := by
  induction bx with
  | nil => decide
  | cons e r ih =>
    have h1 := max_lt (h e (List.mem_cons_self ..))
    have h2 := ih fun x hx => h x (List.mem_cons_of_mem _ hx)
    rw [many, List.length_cons]
    have := wide_lt h1 h2
    rw [show 202 + (1 + 202 * r.length) = 1 + 202 * (r.length + 1) by omega] at this
    exact this
theorem ok_many_l (F : Fun K "_many" "_many" s_many f fd) (T : Txt mg) : FnOk P w K mg base CX0 1 f fd ["box"] (spManyL K) := by
  refine F.ok sc_many (fun vs H Q E h => ?_) (fun cdv A outer s H vs Q E hr h => ?_)
  · obtain ⟨b, bx, rfl, _⟩ := h
    rfl
  obtain ⟨b, bx, rfl, ⟨vs, sb, ab⟩, hbx, hl, q⟩ := h
  refine ⟨_, (pss_cons (ps_set (i := 1) sc_many.nd rfl (Or.inl rfl) pe_int)
    (pss_cons (ps_for PassesOwn.never rfl (pi_list (pv 0)) (pg_tup (by rfl) (pgs_cons (pg_name (i := 2) sc_many.nd rfl (.inl rfl)) (pgs_cons (pg_name (i := 3) sc_many.nd rfl (.inl rfl)) pgs_nil)))
      (pss_one (ps_aug (i := 1) sc_many.nd rfl (.inl rfl) (pe_callB (call_max2 rfl) (by rfl) T.z_max (by decide +kernel) (pa_cons pe_int (pa_cons (pe_op op_add (pe_op op_sub (pv 3) (pv 2)) pe_int) pa_nil))) ip_mulW)))
    (pss_one (ps_ret (pv 1))))), ?_⟩
  walk_at "sx"
  refine x_forL (K := K) (a := b) (xs := vs) (fun i σ' G => ∃ (x y : Option V), σ' = [some (.ref b), some (.int (many (bx.take i))), x, y] ∧ G = H) ⟨none, none, rfl, rfl⟩ (fun i σ' G _ h => by obtain ⟨_, _, _, rfl⟩ := h; exact .of sb) ?_ ?_ (.of sb)
  · rintro i x σ' G hx ⟨y, z, rfl, rfl⟩
    obtain ⟨e, he, pr, rfl, spr⟩ := ab.atv hx
    have hlt := many_lt (bx := bx.take i) fun z hz => hbx z (List.mem_of_mem_take hz)
    have hi : i < bx.length := (List.getElem?_eq_some_iff.mp he).1
    have hmul : CMulW (many (bx.take i)) (if e.2 - e.1 + 1 > 0 then e.2 - e.1 + 1 else 0) := by
      refine wide_mul hlt (b := 202) ?_ (by omega) (by decide) (by rw [List.length_take]; omega)
      have := max_lt (hbx e (List.mem_of_getElem? he))
      split
      · next c => rw [Int.max_eq_right (by omega)] at this; exact this
      · decide
    walk_at "sx"
    refine x_ii ?_
    walk_at "sx"
    refine ⟨some (.int e.1), some (.int e.2), ?_, rfl⟩
    rw [many_take he]
    have e2 : (if e.2 - e.1 + 1 > 0 then e.2 - e.1 + 1 else 0) = max 0 (e.2 - e.1 + 1) := by split <;> omega
    rw [← e2]
    rfl
  · rintro σ' G ⟨y, z, rfl, rfl⟩
    rw [ab.1, List.take_length]
    walk_at "sx"
    exact q
theorem ok_refuse_l (F : Fun K "_refuse_many" "_refuse_many" s_refuse_many f fd) (T : Txt mg) (C_many : HasManyL P w K mg base) (OC : OpenD K mg O) : FnOk P w K mg base (L2.CX P w) 2 f fd ["box"] (spRefuseL K O) := by
  refine F.okX sc_refuse_many (fun vs H Q E h => ?_) (fun cdv A outer s H vs Q E hr h => ?_)
  · obtain ⟨b, bx, rfl, _⟩ := h
    rfl
  obtain ⟨b, bx, rfl, hb, hbx, hl, q1, q2⟩ := h
  refine ⟨_, (pss_one (ps_if (pt_cmpR op_gt (pe_callH C_many hr (pa_cons (pv 0) pa_nil)) (pe_globI rfl T.c_POINTS) (nomark _))
      (pss_one (ps_raiseD OC rfl (takes_of rfl rfl rfl rfl)))
      pss_nil)), ?_⟩
  walk_at "sx"
  refine ⟨b, bx, rfl, hb, hbx, hl, ?_⟩
  walk_at "sx"
  refine x_ite (fun c => ?_) (fun c => ?_)
  · walk_at "sx"
    exact q2 c
  · walk_at "sx"
    exact q1 (by omega)
theorem ok_worths {k : Nat} (F : Fun K "_worths_of" "_worths_of" s_worths_of f fd) (T : Txt mg) (C_worth_of : HasWorthF k P w K mg base) : FnOk P w K mg base CX0 (k + 2) f fd ["part", "filling"] (spWorths K k) := by
  refine F.ok sc_worths_of (fun vs H Q E h => ?_) (fun cdv A outer s H vs Q E hr h => ?_)
  · obtain ⟨v, d, nm, x, t1, t2, r, fl, j, rfl, _⟩ := h
    rfl
  obtain ⟨v, d, nm, x, t1, t2, r, fl, j, rfl, hv, ok1, ok2, w1, w2, hd, sf, hf, q⟩ := h
  refine ⟨_, (pss_cons (ps_asg (pe_slice (sl_tupAK (K := K)) (pe_ix (ix_tupK (K := K)) (pv 0) pe_int (fun _ _ => rfl)) (po_some pe_int) po_none) (pg_tup (by rfl) (pgs_cons (pg_name (i := 2) sc_worths_of.nd rfl (.inl rfl)) (pgs_cons (pg_name (i := 3) sc_worths_of.nd rfl (.inl rfl)) pgs_nil))))
    (pss_one (ps_ret (pe_tup (pa_cons (pe_callH C_worth_of hr (pa_cons (pv 2) (pa_cons (pv 1) pa_nil)) (hk := by omega)) (pa_cons (pe_callH C_worth_of hr (pa_cons (pv 3) (pa_cons (pv 1) pa_nil)) (hk := by omega)) pa_nil)))))), ?_⟩
  rcases hv.three with ⟨n, _, e⟩ | ⟨_, _, e⟩ | ⟨i0, nm', qs, p, us, hk, rfl, e, sp, pq⟩
  · cases e
  · cases e
  · cases e
    obtain rfl : k + 1 = i0 := by omega
    match us, pq with
    | [x1, y1], pq =>
      rcases (pq.2 1 y1 _ rfl rfl).three with ⟨n, _, e⟩ | ⟨_, _, e⟩ | ⟨i1, nm'', qs, p2, us2, hk2, rfl, e, sp2, pq2⟩
      · cases e
      · cases e
      · cases e
        obtain rfl : k = i1 := by omega
        match us2, pq2 with
        | [x2, y2], pq2 =>
          walk_at "sx"
          refine x_slA sp2 fun r1 G1 g1 sr => ?_
          rw [cut_tail] at sr
          walk_at "sx"
          refine ⟨x2, d, t1, r, fl, j, rfl, (pq2.2 0 x2 _ rfl rfl).same g1, ok1, w1, g1 _ _ hd, sf.mono (fun _ _ s => Same.sqT g1 s), hf, ?_⟩
          walk_at "sx"
          refine ⟨y2, d, t2, r, fl, j, rfl, (pq2.2 1 y2 _ rfl rfl).same g1, ok2, w2, g1 _ _ hd, sf.mono (fun _ _ s => Same.sqT g1 s), hf, ?_⟩
          walk_at "sx"
          rename_i tn ntn
          exact q _ _ (g1.trans (same_upd ntn)) ⟨tn, rfl, .of upd_same⟩
set_option maxHeartbeats 1000000 in
theorem ok_box_of (F : Fun K "box_of" "box_of" s_box_of f fd) (T : Txt mg) (C_many : HasManyL P w K mg base) (C_refuse_many : HasRefuseL O P w K mg base) (OC : OpenD K mg O) : FnOk P w K mg base (L2.CX P w) 3 f fd ["pairs"] (spBoxOf K O) := by
  refine F.okX sc_box_of (fun vs H Q E h => ?_) (fun cdv A outer s H vs Q E hr h => ?_)
  · obtain ⟨b, us, es, rfl, _⟩ := h
    rfl
  obtain ⟨b, us, es, rfl, hb, hes, hl, q1, q2, q3⟩ := h
  refine ⟨_, (pss_cons (ps_for (passes_of rfl) rfl (pi_list (pv 0)) (pg_name (i := 1) sc_box_of.nd rfl (.inl rfl))
      (pss_one (ps_for (passes_of rfl) rfl (pi_tup (pv 1)) (pg_name (i := 2) sc_box_of.nd rfl (.inl rfl))
      (pss_cons (ps_if (pt_cmpR op_isN (pv 2) pe_non (nomark _))
      (pss_one (ps_ret pe_non))
      pss_nil)
    (pss_one (ps_if (pt_cmpR op_gt (pe_callB call_abs (by rfl) T.z_abs (by decide +kernel) (pa_cons (pv 2) pa_nil)) (pe_globI rfl T.c_GREATEST) (nomark _))
      (pss_one (ps_raiseD OC rfl (takes_of rfl rfl rfl rfl)))
      pss_nil))))))
    (pss_cons (ps_expr (pe_callE C_refuse_many hr (takes_of rfl rfl rfl rfl) (pa_cons (pv 0) pa_nil)))
    (pss_one (ps_ret (pe_ifExp (pt_cmpR op_gt (pe_callH C_many hr (pa_cons (pv 0) pa_nil)) pe_int (nomark _)) (pe_callTy call_tuple_of (by rfl) T.z_tuple (by decide +kernel) (pa_cons (pv 0) pa_nil)) pe_non))))), ?_⟩
  walk_at "sx"
  have fl_more : ∀ (i : Nat) (e : Option Int × Option Int), es[i]? = some e → flatE (es.take (i + 1)) = flatE (es.take i) ++ [e.1, e.2] := by
    intro i e he
    unfold flatE
    rw [take_more he, List.flatMap_append]
    simp
  have fl_split : ∀ (i : Nat) (e : Option Int × Option Int), es[i]? = some e → flatE es = flatE (es.take i) ++ ([e.1, e.2] ++ flatE (es.drop (i + 1))) := by
    intro i e he
    have h1 : es = es.take i ++ e :: es.drop (i + 1) := by
      obtain ⟨hi, rfl⟩ := List.getElem?_eq_some_iff.mp he
      rw [← List.drop_eq_getElem_cons hi, List.take_append_drop]
    conv => lhs; rw [h1]
    unfold flatE
    rw [List.flatMap_append, List.flatMap_cons]
  refine x_forL (K := K) (a := b) (xs := us) (fun i σ' G => ∃ (x y : Option V), σ' = [some (.ref b), x, y] ∧ G = H ∧ scan (flatE (es.take i)) = none) ⟨none, none, rfl, rfl, rfl⟩ (fun i σ' G _ h => by obtain ⟨_, _, _, rfl, _⟩ := h; exact .of hb) ?_ ?_ (.of hb)
  · rintro i x σ' G hx ⟨y, z, rfl, rfl, hsc⟩
    obtain ⟨e, he, pr, rfl, spr⟩ := hes.atv hx
    have hsp := fl_split i e he
    walk_at "sx"
    refine x_forT (K := K) (a := pr) (xs := [optV e.1, optV e.2]) (fun i2 σ' G' => ∃ (y : Option V), σ' = [some (.ref b), some (.ref pr), y] ∧ G' = G ∧ scan (flatE (es.take i) ++ [e.1, e.2].take i2) = none) ⟨z, rfl, rfl, by rw [List.take_zero, List.append_nil]; exact hsc⟩ (fun i2 σ' G' _ h => by obtain ⟨_, _, rfl, _⟩ := h; exact spr) ?_ ?_ spr
    · rintro i2 x2 σ' G' hx2 ⟨y, rfl, rfl, hs2⟩
      have step : ∀ (o : Option Int) (rest : List (Option Int)), x2 = optV o → flatE es = flatE (es.take i) ++ [e.1, e.2].take i2 ++ [o] ++ rest → (flatE (es.take i) ++ [e.1, e.2].take i2 ++ [o] = flatE (es.take i) ++ [e.1, e.2].take (i2 + 1)) →
          (o = none → boxOf es = .non) ∧ ∀ x, o = some x → (10 ^ 60 ≤ x.natAbs → boxOf es = .opn) ∧ (x.natAbs < 10 ^ 60 → scan (flatE (es.take i) ++ [e.1, e.2].take (i2 + 1)) = none) := by
        intro o rest _ e1 e2
        refine ⟨fun h => ?_, fun x h => ⟨fun c => ?_, fun c => ?_⟩⟩
        · subst h
          unfold boxOf
          rw [e1, List.append_assoc, scan_append, hs2]
          rfl
        · subst h
          unfold boxOf
          rw [e1, List.append_assoc, scan_append, hs2]
          have e3 : scan ([some x] ++ rest) = some .opn := by
            show (if 10 ^ 60 ≤ x.natAbs then some BR.opn else scan ([] ++ rest)) = _
            rw [if_pos c]
          rw [e3]
          rfl
        · subst h
          rw [← e2, scan_append, hs2]
          show (if 10 ^ 60 ≤ x.natAbs then some BR.opn else scan []) = none
          rw [if_neg (by omega)]
          rfl
      obtain ⟨o, rest, eo, s1, s2⟩ : ∃ (o : Option Int) (rest : List (Option Int)), x2 = optV o ∧ flatE es = flatE (es.take i) ++ [e.1, e.2].take i2 ++ [o] ++ rest ∧ (flatE (es.take i) ++ [e.1, e.2].take i2 ++ [o] = flatE (es.take i) ++ [e.1, e.2].take (i2 + 1)) := by
        match i2, hx2 with
        | 0, hx2 =>
          cases hx2
          exact ⟨e.1, e.2 :: flatE (es.drop (i + 1)), rfl, by rw [hsp]; simp, by simp⟩
        | 1, hx2 =>
          cases hx2
          exact ⟨e.2, flatE (es.drop (i + 1)), rfl, by rw [hsp]; simp, by simp⟩
      obtain ⟨t1, t2⟩ := step o rest eo s1 s2
      subst eo
      walk_at "sx"
      cases o with
      | none =>
        refine ⟨rfl, ?_⟩
        walk_at "sx"
        exact q2 (t1 rfl)
      | some x =>
        obtain ⟨t3, t4⟩ := t2 x rfl
        refine ⟨rfl, ?_⟩
        walk_at "sx"
        refine ⟨x, rfl, ?_⟩
        walk_at "sx"
        refine x_ite (fun c => ?_) (fun c => ?_)
        · walk_at "sx"
          exact q1 (t3 (by split at c <;> omega))
        · walk_at "sx"
          exact ⟨_, rfl, rfl, t4 (by split at c <;> omega)⟩
    · rintro σ' G' ⟨y, rfl, rfl, hs2⟩
      exact ⟨_, _, rfl, rfl, by rw [fl_more i e he]; exact hs2⟩
  · rintro σ' G ⟨y, z, rfl, rfl, hsc⟩
    rw [hes.1, List.take_length] at hsc
    obtain ⟨bo, all⟩ := scan_none hsc
    have eb : boxOf es = if 400 < many (boxE es) then .opn else if 0 < many (boxE es) then .box (boxE es) else .non := by
      unfold boxOf
      rw [hsc]
    have hbl : BoxL K G b (boxE es) := by
      refine ⟨us, hb, by unfold boxE; rw [List.length_map]; exact hes.1, fun i v e hv he => ?_⟩
      obtain ⟨o, ho, pr, rfl, spr⟩ := hes.atv hv
      obtain ⟨x, y, rfl⟩ := all o (List.mem_of_getElem? ho)
      unfold boxE at he
      rw [List.getElem?_map, ho] at he
      cases he
      exact ⟨pr, rfl, spr⟩
    walk_at "sx"
    refine ⟨b, boxE es, rfl, hbl, bo, by unfold boxE; rw [List.length_map]; exact hl, fun c => ?_, fun c => ?_⟩
    · rw [if_neg (by omega)] at eb
      walk_at "sx"
      refine ⟨b, boxE es, rfl, hbl, bo, by unfold boxE; rw [List.length_map]; exact hl, ?_⟩
      walk_at "sx"
      refine x_ite (fun c2 => ?_) (fun c2 => ?_)
      · rw [if_pos c2] at eb
        walk_at "sx"
        refine ⟨b, us, rfl, .inl ⟨.of hb, fun p np => ?_⟩⟩
        refine q3 _ p _ eb (same_upd np) ⟨us, .of upd_same, ?_⟩
        obtain ⟨us', hb', a'⟩ := hbl
        rw [hb] at hb'
        cases hb'
        exact a'.mono fun _ _ x => x.mono fun _ _ s => Same.sqT (same_upd np) s
      · rw [if_neg c2] at eb
        walk_at "sx"
        exact q2 eb
    · rw [if_pos c] at eb
      walk_at "sx"
      exact q1 eb
end
end Gs

namespace Gs
open PySem PySem.Spec PyProof.Rows L2 TL
abbrev s_resolved : Stmt := PySem.Challenge.pw_goalstead_k39_resolved.main.body.getD 23 (.Pass ⟨0, 0, 0, 0⟩)
theorem sc_resolved : FnScope ["goal", "filling", "ranges", "tests", "box", "trees", "part", "test"] ["goal", "filling"] (defScope s_resolved) := ⟨rfl, rfl, rfl, by decide +kernel, rfl, by decide +kernel, by decide +kernel⟩
abbrev Rg := Str × Sm × Sm
def rgP (e : Rg) : Pt := .t "in" [.s e.1, .t ".." [e.2.1.pt, e.2.2.pt]]
def tsP (e : Rg) : Pt := .t e.1 [e.2.1.pt, e.2.2.pt]
def smN : Sm → List Str
  | .n _ => []
  | .v s => [s]
  | .op _ a b => smN a ++ smN b
theorem nm_sm : ∀ {t : Sm}, (∀ z ∈ smN t, unkS z = true) → nmT t.pt = smN t
  | .n _, _ => rfl
  | .v s, h => by
    rw [Sm.pt, nmT, if_pos (h s (List.mem_cons_self ..))]
    rfl
  | .op s a b, h => by
    rw [Sm.pt, nmT, nmL, nmL, nmL, List.append_nil, nm_sm fun z hz => h z (List.mem_append_left _ hz), nm_sm fun z hz => h z (List.mem_append_right _ hz), smN]
theorem Sm.Ok.names {D D' : Str → Prop} : ∀ {t : Sm}, t.Ok D → (∀ z ∈ smN t, D' z) → t.Ok D'
  | .n _, o, _ => o
  | .v s, _, h => h s (List.mem_cons_self ..)
  | .op _ _ _, o, h => ⟨o.1, o.2.1.names fun z hz => h z (List.mem_append_left _ hz), o.2.2.names fun z hz => h z (List.mem_append_right _ hz)⟩
/-- the tree of a sum: places and numbers in place of names -/
def ltr (ρ : Str → Option Pt) : Sm → Option Pt
  | .n z => some (.i z)
  | .v s => ρ s
  | .op s a b => match ltr ρ a, ltr ρ b with
    | some x, some y => some (.t s [x, y])
    | _, _ => none
def ltt (ρ : Str → Option Pt) (e : Rg) : Option Pt := match ltr ρ e.2.1, ltr ρ e.2.2 with
  | some x, some y => some (.t e.1 [x, y])
  | _, _ => none
def lts (ρ : Str → Option Pt) : List Rg → Option (List Pt)
  | [] => some []
  | e :: r => match ltt ρ e, lts ρ r with
    | some x, some y => some (x :: y)
    | _, _ => none
theorem ltr_put {ρ : Str → Option Pt} {g : Fl} : ∀ {t : Sm}, (∀ z ∈ smN t, ∃ p, ρ z = some p ∧ look g z = some p) → ltr ρ t = some (putI g t.pt)
  | .n _, _ => rfl
  | .v s, h => by
    obtain ⟨p, h1, h2⟩ := h s (List.mem_cons_self ..)
    rw [ltr, h1, Sm.pt, putI, h2]
    rfl
  | .op s a b, h => by
    rw [ltr, ltr_put fun z hz => h z (List.mem_append_left _ hz), ltr_put fun z hz => h z (List.mem_append_right _ hz), Sm.pt, putI, putL, putL, putL]
theorem ltr_none {ρ : Str → Option Pt} : ∀ {t : Sm} {z : Str}, z ∈ smN t → ρ z = none → ltr ρ t = none
  | .n _, z, h, _ => by cases h
  | .v s, z, h, e => by
    rw [smN, List.mem_singleton] at h
    rw [ltr, ← h, e]
  | .op s a b, z, h, e => by
    rw [smN] at h
    rw [ltr]
    rcases List.mem_append.mp h with h | h
    · rw [ltr_none h e]
    · rw [ltr_none h e]
      cases ltr ρ a <;> rfl
def tnN (e : Rg) : List Str := smN e.2.1 ++ smN e.2.2
theorem ltt_put {ρ : Str → Option Pt} {g : Fl} {e : Rg} (h : ∀ z ∈ tnN e, ∃ p, ρ z = some p ∧ look g z = some p) : ltt ρ e = some (.t e.1 [putI g e.2.1.pt, putI g e.2.2.pt]) := by
  unfold ltt
  rw [ltr_put fun z hz => h z (List.mem_append_left _ hz), ltr_put fun z hz => h z (List.mem_append_right _ hz)]
theorem ltt_none {ρ : Str → Option Pt} {e : Rg} {z : Str} (h : z ∈ tnN e) (hz : ρ z = none) : ltt ρ e = none := by
  unfold ltt
  rcases List.mem_append.mp h with h | h
  · rw [ltr_none h hz]
  · rw [ltr_none h hz]
    cases ltr ρ e.2.1 <;> rfl
theorem lts_put {ρ : Str → Option Pt} {g : Fl} : ∀ {es : List Rg}, (∀ e ∈ es, ∀ z ∈ tnN e, ∃ p, ρ z = some p ∧ look g z = some p) → lts ρ es = some (es.map fun e => .t e.1 [putI g e.2.1.pt, putI g e.2.2.pt])
  | [], _ => rfl
  | e :: r, h => by
    rw [lts, ltt_put (h e (List.mem_cons_self ..)), lts_put fun e' m => h e' (List.mem_cons_of_mem _ m), List.map_cons]
theorem lts_none {ρ : Str → Option Pt} : ∀ {es : List Rg} {e : Rg} {z : Str}, e ∈ es → z ∈ tnN e → ρ z = none → lts ρ es = none
  | x :: r, e, z, h, h1, h2 => by
    rw [lts]
    rcases List.mem_cons.mp h with rfl | h
    · rw [ltt_none h1 h2]
    · rw [lts_none h h1 h2]
      cases ltt ρ x <;> rfl
inductive RR where
  | opn
  | non
  | tup (bx : List (Int × Int)) (ts : List Pt)
def ends3 (f : Fl) (rs : List Rg) : List (Option Int × Option Int) := rs.map fun e => (wo f e.2.1, wo f e.2.2)
def resP (f : Fl) (rs ts : List Rg) : RR := match boxOf (ends3 f rs) with
  | .opn => .opn
  | .non => .non
  | .box bx => match lts (rho (rs.map (·.1)) f) ts with
    | some us => .tup bx us
    | none => .non
/-- a dict of things, none of them missing, is a filling -/
theorem SoAt.whole {K : PySem.W.Frag} {H : Hp} {k : Nat} {r : List (Key × V)} {o : Ol} (h : SoAt K H k r o) : (∀ e ∈ o, e.2 ≠ none) → ∃ g, StAt K H k r g ∧ ∀ z, lookO o z = (look g z).map some := by
  induction h with
  | nil => exact fun _ => ⟨[], .nil, fun _ => rfl⟩
  | @cons z v p r f a b ih =>
    intro hn
    obtain ⟨g, h1, h2⟩ := ih fun e he => hn e (List.mem_cons_of_mem _ he)
    cases p with
    | none => exact absurd rfl (hn _ (List.mem_cons_self ..))
    | some p =>
      refine ⟨(z, p) :: g, .cons a h1, fun y => ?_⟩
      rw [lookO, look]
      by_cases c : z = y
      · rw [if_pos c, if_pos c]
        rfl
      · rw [if_neg c, if_neg c]
        exact h2 y
def oD : Option Pt → PyData
  | none => .none
  | some p => ptD p
theorem SoAt.dpd {K : PySem.W.Frag} {H : Hp} {k : Nat} {r : List (Key × V)} {o : Ol} (h : SoAt K H k r o) : DpAll K H (r.map (·.2)) (o.map fun e => oD e.2) := by
  induction h with
  | nil => exact .nil
  | @cons z v p r f a b ih =>
    rw [List.map_cons, List.map_cons]
    refine .cons ?_ ih
    cases p with
    | none =>
      have : v = .non := a
      rw [this]
      exact .non
    | some p => exact PtAt.dpd a
theorem oD_any (o : Ol) : (o.map fun e => oD e.2).any (fun z => PyData.eqv z .none) = o.any fun e => e.2.isNone := by
  rw [List.any_map]
  congr 1
  funext e
  show PyData.eqv (oD e.2) .none = e.2.isNone
  cases e.2 with
  | none => rfl
  | some p => cases p <;> rfl
theorem oD_lay {p : Pt} (h : (∃ n : Int, p = .i n) ∨ ∃ j : Int, p = .t "at" [.i j]) : PyData.canLay0 (ptD p) = true ∧ PyData.depth (ptD p) ≤ 3 := by
  rcases h with ⟨n, rfl⟩ | ⟨j, rfl⟩
  · exact ⟨rfl, by simp [ptD, PyData.depth]⟩
  · refine ⟨?_, ?_⟩
    · show (PyData.canLay0 (.str "at") && (PyData.canLay0 (.int j) && true)) = true
      have : PyData.canLay0 (.str "at") = true := by decide +kernel
      rw [this]
      rfl
    · simp [ptD, ptDL, PyData.depth, PyData.depthAll]
theorem oD_all : ∀ {o : Ol}, (∀ e ∈ o, ∀ p, e.2 = some p → (∃ n : Int, p = .i n) ∨ ∃ j : Int, p = .t "at" [.i j]) → PyData.canLayAll0 (o.map fun e => oD e.2) = true ∧ PyData.depthAll (o.map fun e => oD e.2) ≤ 3
  | [], _ => ⟨rfl, by simp [PyData.depthAll]⟩
  | e :: r, h => by
    obtain ⟨i1, i2⟩ := oD_all fun e' m => h e' (List.mem_cons_of_mem _ m)
    have h1 : PyData.canLay0 (oD e.2) = true ∧ PyData.depth (oD e.2) ≤ 3 := by
      cases c : e.2 with
      | none => exact ⟨rfl, by simp [oD, PyData.depth]⟩
      | some p => exact oD_lay (h e (List.mem_cons_self ..) p c)
    rw [List.map_cons]
    refine ⟨?_, ?_⟩
    · show (PyData.canLay0 (oD e.2) && PyData.canLayAll0 (r.map fun e => oD e.2)) = true
      rw [h1.1, i1]
      rfl
    · simp only [PyData.depthAll]
      omega
theorem oD_shaped {o : Ol} (h : ∀ e ∈ o, ∀ p, e.2 = some p → (∃ n : Int, p = .i n) ∨ ∃ j : Int, p = .t "at" [.i j]) : SeqAt.shaped (.list (o.map fun e => oD e.2)) = true := by
  obtain ⟨i1, i2⟩ := oD_all h
  show (PyData.canLayAll0 (o.map fun e => oD e.2) && decide (PyData.depth (.list (o.map fun e => oD e.2)) ≤ 64)) = true
  rw [i1, Bool.true_and]
  refine decide_eq_true ?_
  simp only [PyData.depth]
  omega
theorem rho_kind {ns : List Str} {f : Fl} {z : Str} {p : Pt} (h : rho ns f z = some p) : (∃ n : Int, p = .i n) ∨ ∃ j : Int, p = .t "at" [.i j] := by
  by_cases m : z ∈ ns
  · obtain ⟨j, _, h2⟩ := plc0_some ns 0 z m
    unfold rho at h
    rw [h2] at h
    cases h
    exact .inr ⟨j, rfl⟩
  · rw [rho_out m] at h
    cases c : look f z with
    | none =>
      rw [c] at h
      cases h
    | some u =>
      rw [c] at h
      cases u with
      | i n =>
        cases h
        exact .inl ⟨n, rfl⟩
      | s _ => cases h
      | t _ _ => cases h
def spResolved (K : PySem.W.Frag) (k : Nat) (O : Addr) : Sp := fun vs H Q E => ∃ (v : V) (d : Addr) (rs ts : List Rg) (r : List (Key × V)) (f : Fl) (j : Nat) (N D : Str → Prop), vs = [v, .ref d] ∧ PtAt K H (k + 2) v (fieldP (rs.map rgP) (ts.map tsP)) ∧ rs ≠ [] ∧ rs.length ≤ 10 ∧ ts.length ≤ 100 ∧ (rs.map (·.1)).Nodup ∧
  (∀ e ∈ rs, e.2.1.Ok (fun z => (look f z).isSome = true) ∧ e.2.2.Ok (fun z => (look f z).isSome = true) ∧ e.2.1.wt ≤ 8500 ∧ e.2.2.wt ≤ 8500) ∧
  (∀ e ∈ ts, e.1 ≠ "and" ∧ e.2.1.Ok D ∧ e.2.2.Ok D ∧ ∀ z ∈ tnN e, unkS z = true ∧ (z ∈ rs.map (·.1) ∨ (look f z).isSome = true)) ∧ okL TxOk N (ts.map tsP) ∧ szL (ts.map tsP) ≤ 5000 ∧ H d = some (.dK r) ∧ StAt K H j r f ∧ 2 ≤ j ∧ NumLt f ∧
  (∀ H', Same H H' → resP f rs ts = .opn → E (.ref O) none H') ∧ (∀ H', Same H H' → resP f rs ts = .non → Q .non H') ∧
  ∀ bx us H' q p tr ws, resP f rs ts = .tup bx us → Same H H' → SqT K H' q [.ref p, .ref tr] → BoxAt K H' p bx → SqT K H' tr ws → PtsAt K H' (k + j + 2) ws us → Q (.ref q) H'
section
variable {P : Program} {w : World} {K : PySem.W.Frag} {mg : Str → Option Value} {base : Heap} {f : Addr} {fd : FuncData} {O : Addr}
def HasResolved (k : Nat) (O : Addr) (P : Program) (w : World) (K : PySem.W.Frag) (mg : Str → Option Value) (base : Heap) : Prop := HasE P w K mg base (k + 5) "resolved" ["goal", "filling"] (spResolved K k O)
theorem tnN_pt {e : Rg} (h : ∀ z ∈ tnN e, unkS z = true) : nmT (tsP e) = tnN e := by
  show nmL [e.2.1.pt, e.2.2.pt] = _
  rw [nmL, nmL, nmL, List.append_nil, nm_sm fun z hz => h z (List.mem_append_left _ hz), nm_sm fun z hz => h z (List.mem_append_right _ hz)]
  rfl
set_option maxHeartbeats 1000000 in
theorem ok_resolved {k : Nat} (F : Fun K "resolved" "resolved" s_resolved f fd) (T : Txt mg) (C_field_parts : HasFieldParts P w K mg base) (C_worths_of : HasWorths k P w K mg base) (C_box_of : HasBoxOf O P w K mg base) (C_trees_of : Has P w K mg base 3 "_trees_of" ["ranges", "tests", "filling"] (spTreesOf K)) (C_placed_test : HasPlaced (k + 1) P w K mg base) : FnOk P w K mg base (L2.CX P w) (k + 5) f fd ["goal", "filling"] (spResolved K k O) := by
  refine F.okX sc_resolved (fun vs H Q E h => ?_) (fun cdv A outer s H vs Q E hr h => ?_)
  · obtain ⟨v, d, rs, ts, r, fl, j, N, D, rfl, _⟩ := h
    rfl
  obtain ⟨v, d, rs, ts, r, fl, j, N, D, rfl, hv, hne, hl1, hl2, hnd, hrs, hts, hok, hsz, hd, sf, hj, hf, q1, q2, q3⟩ := h
  refine ⟨_, (pss_cons (ps_asg (pe_callH C_field_parts hr (pa_cons (pv 0) pa_nil) (hk := by omega)) (pg_tup (by rfl) (pgs_cons (pg_name (i := 2) sc_resolved.nd rfl (.inl rfl)) (pgs_cons (pg_name (i := 3) sc_resolved.nd rfl (.inl rfl)) pgs_nil))))
    (pss_cons (ps_set (i := 4) sc_resolved.nd rfl (Or.inl rfl) (pe_callE C_box_of hr (takes_of rfl rfl rfl rfl) (pa_cons (pe_lc (own := [("part", 6)]) (g := gName 6) (tt := tYes) rfl sc_resolved.nd (pi_list (pv 2)) (blkOk_by (own := [("part", 6)]) (N := ["goal", "filling", "ranges", "tests", "box", "trees", "part", "test"]) (sc := defScope s_resolved) (by decide +kernel)) (fun _ _ _ _ _ => pg_name (i := 6) sc_resolved.nd rfl (Or.inl rfl)) (fun _ _ _ _ _ => pts_nil) (fun _ _ _ _ _ => (pe_callH C_worths_of hr (pa_cons (pv 6) (pa_cons (pv 1) pa_nil)) (hk := by omega)))) pa_nil) (hk := by omega)))
    (pss_cons (ps_set (i := 5) sc_resolved.nd rfl (Or.inr rfl) (pe_callH C_trees_of hr (pa_cons (pv 2) (pa_cons (pv 3) (pa_cons (pv 1) pa_nil))) (hk := by omega)))
    (pss_cons (ps_if (PW.pt (pw_or (pt_cmpR op_isN (pv 4) pe_non (nomark _)) (pw_or1 (pt_cmpR (op_inDR (K := K) hr) pe_non (pe_listVals rfl (by rfl) T.z_list (pv 5)) (by first | exact nomark _ | rfl)))))
      (pss_one (ps_ret pe_non))
      pss_nil)
    (pss_one (ps_ret (pe_tup (pa_cons (pv 4) (pa_cons (pe_callTy call_tuple_of (by rfl) T.z_tuple (by decide +kernel) (pa_cons (pe_lc (own := [("test", 7)]) (g := gName 7) (tt := tYes) rfl sc_resolved.nd (pi_list (pv 3)) (blkOk_by (own := [("test", 7)]) (N := ["goal", "filling", "ranges", "tests", "box", "trees", "part", "test"]) (sc := defScope s_resolved) (by decide +kernel)) (fun _ _ _ _ _ => pg_name (i := 7) sc_resolved.nd rfl (Or.inl rfl)) (fun _ _ _ _ _ => pts_nil) (fun _ _ _ _ _ => (pe_callH C_placed_test hr (pa_cons (pv 7) (pa_cons (pv 5) pa_nil)) (hk := by omega)))) pa_nil)) pa_nil))))))))), ?_⟩
  walk_at "sx"
  refine ⟨v, _, rs.map rgP, ts.map tsP, rfl, hv, by simpa using hne, by rw [List.length_map]; omega, by rw [List.length_map]; omega, fun p hp => ?_, fun p hp => ?_, fun t0 a b us ws H1 k1 ht0 ha hb hus hws => ?_⟩
  · obtain ⟨e, _, rfl⟩ := List.mem_map.mp hp
    exact ⟨_, rfl⟩
  · obtain ⟨e, he, rfl⟩ := List.mem_map.mp hp
    show isAnd (.t e.1 _) = false
    rw [isAnd_t, decide_eq_false (hts e he).1, Bool.false_and]
  have lus := hus.1
  have lws := hws.1
  rw [List.length_map] at lus lws
  have hd1 := k1 _ _ hd
  have sf1 := sf.mono fun _ _ s => Same.sqT k1 s
  walk_at "sx"
  refine x_lcL (K := K) (a := a) (xs := us) (fun D i G => ∃ (zs : List V), G D = some (.lst zs) ∧ AllAt (PairO K G) zs ((ends3 fl rs).take i) ∧ Same H1 G) (.of ha) (fun D hD => ⟨[], upd_same, .nil, same_upd hD⟩) ?_ ?_ ?_
  · rintro D hD i G _ ⟨zs, e1, e2, kG⟩
    exact .of (kG _ _ ha)
  · rintro D hD i x G hx ⟨zs, e1, e2, kG⟩
    obtain ⟨u, hu, pu⟩ := hus.at hx
    rw [List.getElem?_map] at hu
    cases he : rs[i]? with
    | none =>
      rw [he] at hu
      cases hu
    | some e =>
      rw [he] at hu
      cases hu
      obtain ⟨o1, o2, w1, w2⟩ := hrs e (List.mem_of_getElem? he)
      walk_at "sx"
      refine ⟨rfl, ?_⟩
      walk_at "sx"
      refine ⟨x, d, "..", _, e.2.1, e.2.2, r, fl, j, rfl, pu.same kG, o1, o2, w1, w2, kG _ _ hd1, sf1.mono (fun _ _ s => Same.sqT kG s), hf, fun v' G2 k2 hv' => ?_⟩
      have e1' := k2 _ _ e1
      have lz := e2.1
      have hi : i < rs.length := (List.getElem?_eq_some_iff.mp he).1
      have lz2 : zs.length ≤ 10 := by
        rw [lz, List.length_take]
        omega
      refine ⟨zs, e1', szl (by omega), zs ++ [v'], upd_same, ?_, same_updf (kG.trans k2) hD⟩
      have he3 : (ends3 fl rs)[i]? = some (wo fl e.2.1, wo fl e.2.2) := by
        unfold ends3
        rw [List.getElem?_map, he]
        rfl
      rw [take_more he3]
      have mo : ∀ (v : V) (a : Option Int × Option Int), PairO K G2 v a → PairO K (upd G2 D (.lst (zs ++ [v']))) v a := fun v a ⟨p, e, s⟩ => ⟨p, e, sqT_lst e1' s⟩
      exact ((e2.mono fun v a ⟨p, e, s⟩ => mo v a ⟨p, e, Same.sqT k2 s⟩).append (.one (mo _ _ hv')))
  · rintro D hD G ⟨zs, e1, e2, kG⟩
    have len3 : (ends3 fl rs).length = us.length := by
      unfold ends3
      rw [List.length_map, lus]
    rw [← len3, List.take_length] at e2
    have kk := k1.trans kG
    walk_at "sx"
    have hin : ∀ (i : Nat) (p : Pt) (z : Str), (rs.map rgP)[i]? = some p → (rs.map (·.1))[i]? = some z → ∃ x : Pt, p = Pt.t "in" [.s z, x] := by
      intro i p z h1 h2
      rw [List.getElem?_map] at h1 h2
      cases he : rs[i]? with
      | none =>
        rw [he] at h1
        cases h1
      | some e =>
        rw [he] at h1 h2
        cases h1
        cases h2
        exact ⟨_, rfl⟩
    have hnm : ∀ t ∈ ts.map tsP, ∀ z ∈ nmT t, z ∈ rs.map (·.1) ∨ (look fl z).isSome = true := by
      intro t ht z hz
      obtain ⟨e, he, rfl⟩ := List.mem_map.mp ht
      have h4 := (hts e he).2.2.2
      rw [tnN_pt fun z hz => (h4 z hz).1] at hz
      exact (h4 z hz).2
    refine ⟨D, zs, ends3 fl rs, rfl, e1, e2, by rw [len3, lus]; exact hl1, fun hb1 => ?_, fun hb2 => ?_, fun bx p G2 hb3 k2 hbx => ?_⟩
    · exact q1 G kk (by unfold resP; rw [hb1])
    · walk_at "sx"
      refine ⟨a, b, d, us, ws, rs.map rgP, ts.map tsP, rs.map (·.1), k + 2, N, r, fl, j, rfl, kG _ _ ha, hus.same kG, kG _ _ hb, hws.same kG, by rw [List.length_map, List.length_map], hin, hnd, hok, by rw [List.length_map]; omega, kG _ _ hd1, sf1.mono (fun _ _ s => Same.sqT kG s), hj, hnm, fun d' r' o G3 nd' k3 hd' so h1 h2 h3 => ?_⟩
      walk_at "sx"
      refine ⟨rfl, ?_⟩
      walk_at "sx"
      exact q2 _ (kk.trans k3) (by unfold resP; rw [hb2])
    · walk_at "sx"
      have kG2 := kG.trans k2
      refine ⟨a, b, d, us, ws, rs.map rgP, ts.map tsP, rs.map (·.1), k + 2, N, r, fl, j, rfl, kG2 _ _ ha, hus.same kG2, kG2 _ _ hb, hws.same kG2, by rw [List.length_map, List.length_map], hin, hnd, hok, by rw [List.length_map]; omega, kG2 _ _ hd1, sf1.mono (fun _ _ s => Same.sqT kG2 s), hj, hnm, fun d' r' o G3 nd' k3 hd' so h1 h2 h3 => ?_⟩
      have kk3 := (kk.trans k2).trans k3
      walk_at "sx"
      refine ⟨rfl, ?_⟩
      walk_at "sx"
      refine x_listVals ?_
      walk_at "sx"
      refine ⟨d', r', rfl, hd', fun lv nlv => ?_⟩
      have k4 : Same G3 (upd G3 lv (.lst (r'.map (·.2)))) := same_upd nlv
      have hoN : ∀ e ∈ o, ∀ p, e.2 = some p → (∃ n : Int, p = .i n) ∨ ∃ j : Int, p = .t "at" [.i j] := fun e he p hp => rho_kind (by rw [← h1 e he]; exact hp)
      refine ⟨.none, _, .non, .lst (.of upd_same) ((so.mono fun _ _ s => Same.sqT k4 s).dpd), rfl, oD_shaped hoN, ?_⟩
      rw [oD_any]
      refine ⟨_, rfl, ?_⟩
      refine x_iteB (fun ca => ?_) (fun ca => ?_)
      · obtain ⟨e, he, hen⟩ := List.any_eq_true.mp ca
        have hen' : e.2 = none := by simpa using hen
        have hrn : rho (rs.map (·.1)) fl e.1 = none := by rw [← h1 e he, hen']
        have hno : e.1 ∉ rs.map (·.1) := fun m => by
          obtain ⟨jj, _, h5⟩ := plc0_some _ 0 _ m
          unfold rho at hrn
          rw [h5] at hrn
          cases hrn
        rcases h3 e he with h | ⟨t, ht, hz⟩
        · exact absurd h hno
        obtain ⟨e4, he4, rfl⟩ := List.mem_map.mp ht
        rw [tnN_pt fun z hz => ((hts e4 he4).2.2.2 z hz).1] at hz
        walk_at "sx"
        exact q2 _ (kk3.trans k4) (by unfold resP; rw [hb3]; show (match lts _ ts with | some us => RR.tup bx us | none => RR.non) = _; rw [lts_none he4 hz hrn])
      · have hall : ∀ e ∈ o, e.2 ≠ none := fun e he c => by
          have := List.any_eq_false.mp ca e he
          rw [c] at this
          exact this rfl
        obtain ⟨g, sg, hg⟩ := so.whole hall
        have hlook : ∀ e ∈ ts, ∀ z ∈ tnN e, ∃ p, rho (rs.map (·.1)) fl z = some p ∧ look g z = some p := by
          intro e he z hz
          have h5 := h2 (tsP e) (List.mem_map.mpr ⟨e, he, rfl⟩) z (by rw [tnN_pt fun z hz => ((hts e he).2.2.2 z hz).1]; exact hz)
          cases c : lookO o z with
          | none =>
            rw [c] at h5
            cases h5
          | some x =>
            have h6 := h1 _ (lookO_mem c)
            have h7 := hg z
            rw [c] at h7
            cases c2 : look g z with
            | none =>
              rw [c2] at h7
              cases h7
            | some p =>
              rw [c2] at h7
              cases h7
              exact ⟨p, h6.symm, rfl⟩
        have hres : resP fl rs ts = .tup bx (ts.map fun e => .t e.1 [putI g e.2.1.pt, putI g e.2.2.pt]) := by
          unfold resP
          rw [hb3]
          show (match lts _ ts with | some us => RR.tup bx us | none => RR.non) = _
          rw [lts_put hlook]
        generalize hG4 : upd G3 lv (.lst (r'.map (·.2))) = G4 at *
        have kk4 := kk3.trans k4
        have k14 : Same H1 G4 := (kG2.trans k3).trans k4
        have hb4 := k14 _ _ hb
        have hd4 := k4 _ _ hd'
        have sg4 := sg.mono fun _ _ s => Same.sqT k4 s
        walk_at "sx"
        refine x_lcL (K := K) (a := b) (xs := ws) (fun D i G => ∃ (zs : List V), G D = some (.lst zs) ∧ PtsAt K G (k + j + 2) zs ((ts.take i).map fun e => .t e.1 [putI g e.2.1.pt, putI g e.2.2.pt]) ∧ Same G4 G) (.of hb4) (fun D hD => ⟨[], upd_same, .nil, same_upd hD⟩) ?_ ?_ ?_
        · rintro D2 hD2 i G5 _ ⟨zs, f1, f2, kG5⟩
          exact .of (kG5 _ _ hb4)
        · rintro D2 hD2 i x G5 hx ⟨zs, f1, f2, kG5⟩
          obtain ⟨u, hu, pu⟩ := hws.at hx
          rw [List.getElem?_map] at hu
          cases he : ts[i]? with
          | none =>
            rw [he] at hu
            cases hu
          | some e =>
            rw [he] at hu
            cases hu
            have hem := List.mem_of_getElem? he
            obtain ⟨_, o1, o2, o3⟩ := hts e hem
            have isS : ∀ z ∈ tnN e, (look g z).isSome = true := fun z hz => by
              obtain ⟨p, _, h⟩ := hlook e hem z hz
              rw [h]
              rfl
            have kk5 := k14.trans kG5
            walk_at "sx"
            refine ⟨rfl, ?_⟩
            walk_at "sx"
            refine ⟨x, d', e.1, e.2.1, e.2.2, r', g, j, rfl, pu.same kk5, o1.names fun z hz => isS z (List.mem_append_left _ hz), o2.names fun z hz => isS z (List.mem_append_right _ hz), kG5 _ _ hd4, sg4.mono (fun _ _ s => Same.sqT kG5 s), fun v' G6 k6 hv' => ?_⟩
            have f1' := k6 _ _ f1
            have lz := f2.1
            have hi : i < ts.length := (List.getElem?_eq_some_iff.mp he).1
            rw [List.length_map, List.length_take] at lz
            refine ⟨zs, f1', szl (by omega), zs ++ [v'], upd_same, ?_, same_updf (kG5.trans k6) hD2⟩
            rw [take_more he, List.map_append]
            exact ((f2.same k6).append (.one (hv'.up (by omega)))).lst f1'
        · rintro D2 hD2 G5 ⟨zs, f1, f2, kG5⟩
          rw [lws, List.take_length] at f2
          walk_at "sx"
          refine ⟨D2, zs, rfl, .inl ⟨.of f1, fun tr ntr => ?_⟩⟩
          walk_at "sx"
          rename_i tq ntq
          have k7 : Same G5 (upd (upd G5 tr (.tup zs)) tq (.tup [.ref p, .ref tr])) := (same_upd ntr).trans (same_upd ntq)
          refine q3 bx _ _ tq p tr zs hres ((kk4.trans kG5).trans k7) (.of upd_same) (hbx.same (((k3.trans k4).trans kG5).trans k7)) (Same.sqT (same_upd ntq) (.of upd_same)) (f2.same k7)
end
end Gs

namespace Gs
open PySem PySem.Spec PyProof.Rows L2 TL
abbrev s_law_text : Stmt := PySem.Challenge.pw_goalstead_k39_resolved.main.body.getD 31 (.Pass ⟨0, 0, 0, 0⟩)
theorem sc_law_text : FnScope ["stream", "first", "taken", "text", "k"] ["stream", "first", "taken"] (defScope s_law_text) := ⟨rfl, rfl, rfl, by decide +kernel, rfl, by decide +kernel, by decide +kernel⟩
abbrev s_law_term : Stmt := PySem.Challenge.pw_goalstead_k39_resolved.main.body.getD 32 (.Pass ⟨0, 0, 0, 0⟩)
theorem sc_law_term : FnScope ["stream", "way", "sign"] ["stream"] (defScope s_law_term) := ⟨rfl, rfl, rfl, by decide +kernel, rfl, by decide +kernel, by decide +kernel⟩
abbrev s_law_sum : Stmt := PySem.Challenge.pw_goalstead_k39_resolved.main.body.getD 33 (.Pass ⟨0, 0, 0, 0⟩)
theorem sc_law_sum : FnScope ["stream", "names", "deep", "way", "sign"] ["stream", "names", "deep"] (defScope s_law_sum) := ⟨rfl, rfl, rfl, by decide +kernel, rfl, by decide +kernel, by decide +kernel⟩
/-- a text of plain signs, its first one of some -/
def TxR (S : List Nat) (L : Nat) (z : Str) : Prop := ∃ c t, tl z = c :: t ∧ c ∈ S ∧ (∀ x ∈ t, x < 128) ∧ z.length ≤ L
theorem TxR.imp {S : List Nat} {L M : Nat} {z : Str} (h : TxR S L z) (k : L ≤ M) : TxR S M z := by
  obtain ⟨c, t, e, a, b, d⟩ := h
  exact ⟨c, t, e, a, b, by omega⟩
theorem TxR.snoc {S : List Nat} {L : Nat} {z : Str} {c : Nat} (h : TxR S L z) (hc : c < 128) : TxR S (L + 1) (z ++ (⟨#[c]⟩ : Str)) := by
  obtain ⟨d, t, e, a, b, f⟩ := h
  refine ⟨d, t ++ [c], ?_, a, fun x hx => ?_, ?_⟩
  · rw [tl_append, e]
    rfl
  · rcases List.mem_append.mp hx with hx | hx
    · exact b x hx
    · rw [List.mem_singleton.mp hx]
      exact hc
  · show (z ++ (⟨#[c]⟩ : Str)).cps.size ≤ _
    have := tl_append z (⟨#[c]⟩ : Str)
    have h2 := congrArg List.length this
    rw [List.length_append] at h2
    have h3 : (tl z).length = z.length := by show z.cps.toList.length = z.cps.size; rw [Array.length_toList]
    have h4 : (tl (z ++ (⟨#[c]⟩ : Str))).length = (z ++ (⟨#[c]⟩ : Str)).cps.size := by show (z ++ (⟨#[c]⟩ : Str)).cps.toList.length = _; rw [Array.length_toList]
    have h5 : (tl (⟨#[c]⟩ : Str)).length = 1 := rfl
    omega
def barred9 : List Str := ["op", "mode", "table", "not", "is", "in", "such", "and", "mod"]
def spText (K : PySem.W.Frag) : Sp := fun vs H Q _ => ∃ (p l tk : Addr) (c : Int) (first : Str) (zs : List Str) (L : Nat), vs = [.ref p, .str first, .ref tk] ∧ PoolAt H p l c ∧ c + 10 ≤ 1000000000000 ∧ 0 < first.length ∧ first.length ≤ 100 ∧ H tk = some (.lst (zs.map V.str)) ∧ zs.length ≤ 100 ∧ (∀ z ∈ zs, z.length ≤ L) ∧ 5 ≤ L ∧ L ≤ 900 ∧ tk ≠ p ∧ tk ≠ l ∧
  ∀ (z : Str) (H' : Hp), TxR (tl first) (L + 1) z → z ∉ zs → PoolAt H' p l (c + 10) → Kx p l H H' → Q (.str z) H'
section
variable {P : Program} {w : World} {K : PySem.W.Frag} {mg : Str → Option Value} {base : Heap} {f : Addr} {fd : FuncData}
def HasText (P : Program) (w : World) (K : PySem.W.Frag) (mg : Str → Option Value) (base : Heap) : Prop := Has P w K mg base 2 "_law_text" ["stream", "first", "taken"] (spText K)
theorem lt_L36 : ∀ c ∈ tl ("abcdefghijklmnopqrstuvwxyz0123456789" : Str), c < 128 := by decide +kernel
theorem len_L36 : (tl ("abcdefghijklmnopqrstuvwxyz0123456789" : Str)).length = 36 := by decide +kernel
theorem len_b9 : ∀ z ∈ barred9, z.length ≤ 5 := by decide +kernel
theorem turns_0 {v : V} (h : v ∈ [V.int 0, .int 0, .int 1, .int 3]) : ∃ n : Int, 0 ≤ n ∧ n ≤ 3 ∧ v = .int n := by
  simp only [List.mem_cons, List.not_mem_nil, or_false] at h
  rcases h with rfl | rfl | rfl | rfl
  · exact ⟨0, by decide, by decide, rfl⟩
  · exact ⟨0, by decide, by decide, rfl⟩
  · exact ⟨1, by decide, by decide, rfl⟩
  · exact ⟨3, by decide, by decide, rfl⟩
set_option maxHeartbeats 1000000 in
theorem ok_law_text (F : Fun K "_law_text" "_law_text" s_law_text f fd) (T : Txt mg) (C_law_draw : HasDraw P w K mg base) : FnOk P w K mg base CX0 2 f fd ["stream", "first", "taken"] (spText K) := by
  refine F.ok sc_law_text (fun vs H Q E h => ?_) (fun cdv A outer s H vs Q E hr h => ?_)
  · obtain ⟨p, l, tk, c, first, zs, L, rfl, _⟩ := h
    rfl
  obtain ⟨p, l, tk, c, first, zs, L, rfl, P0, hc, hf0, hf1, htk, hzl, hzs, hL, hL2, ntp, ntl, q⟩ := h
  have lf : (tl first).length = first.length := by show first.cps.toList.length = first.cps.size; rw [Array.length_toList]
  refine ⟨_, (pss_cons (ps_set (i := 3) sc_law_text.nd rfl (Or.inl rfl) (pe_ix ix_str (pv 1) (pe_callH C_law_draw hr (pa_cons (pv 0) (pa_cons (pe_callB call_len_str (by rfl) T.z_len (by decide +kernel) (pa_cons (pv 1) pa_nil)) pa_nil))) (fun _ _ => rfl)))
    (pss_cons (ps_for PassesOwn.never rfl (pi_range1 (by rfl) T.z_range (pa_cons (pe_ix (ix_listK (K := K)) (pe_lst (pa_cons pe_int (pa_cons pe_int (pa_cons pe_int (pa_cons pe_int pa_nil))))) (pe_callH C_law_draw hr (pa_cons (pv 0) (pa_cons pe_int pa_nil))) (fun _ _ => rfl)) pa_nil)) (pg_name (i := 4) sc_law_text.nd rfl (.inl rfl))
      (pss_one (ps_set (i := 3) sc_law_text.nd rfl (Or.inl rfl) (pe_op op_add_str (pv 3) (pe_ix ix_str pe_str (pe_callH C_law_draw hr (pa_cons (pv 0) (pa_cons pe_int pa_nil))) (fun _ _ => rfl))))))
    (pss_cons (ps_while PassesOwn.never (pt_cmpR (op_inK (K := K)) (pv 3) (pe_op op_cat (pv 2) (pe_lst (pa_cons pe_str (pa_cons pe_str (pa_cons pe_str (pa_cons pe_str (pa_cons pe_str (pa_cons pe_str (pa_cons pe_str (pa_cons pe_str (pa_cons pe_str pa_nil))))))))))) (by first | exact nomark _ | rfl))
      (pss_one (ps_set (i := 3) sc_law_text.nd rfl (Or.inl rfl) (pe_op op_add_str (pv 3) pe_str))))
    (pss_one (ps_ret (pv 3)))))), ?_⟩
  walk_at "sx"
  refine ⟨first, rfl, sz (by omega), ?_⟩
  walk_at "sx"
  refine ⟨p, l, c, (first.length : Int), rfl, P0, by omega, by omega, by omega, fun n0 H0 n00 n01 Q0 k0 => ?_⟩
  obtain ⟨ch, hch, hat⟩ := atL (xs := tl first) n00 (by rw [lf]; exact n01)
  refine x_ixS (sz (by omega)) hat ?_
  walk_at "sx"
  rename_i bl nb
  refine ⟨p, l, _, 4, rfl, Q0.upd nb, by omega, by decide, by decide, fun n3 H3 n30 n31 P3 k3 => ?_⟩
  obtain ⟨v3, hv3, hat3⟩ := atL (xs := [V.int 0, .int 0, .int 1, .int 3]) n30 (by show n3 < 4; exact n31)
  obtain ⟨n, hn0, hn1, rfl⟩ := turns_0 hv3
  refine x_ixL (.of (kxl Q0 nb k3)) hat3 ?_
  have k03 : Kx p l H H3 := k0.trans (((Kx.refl _).updn nb).trans k3)
  walk_at "sx"
  refine x_forR1 (n := n) (fun i σ' G => ∃ (z : Str) (x : Option V), σ' = [some (.ref p), some (.str first), some (.ref tk), some (.str z), x] ∧ TxR (tl first) (1 + i) z ∧ PoolAt G p l (c + 2 + i) ∧ Kx p l H G) (by omega) (by omega) ?_ (fun i σ' G hi h => ?_) (fun σ' G h => ?_)
  · exact ⟨_, none, rfl, ⟨ch, [], rfl, hch, (by intro x hx; cases hx), Nat.le_refl _⟩, P3.mono (by omega), k03⟩
  · obtain ⟨z, x, rfl, hz, PG, kG⟩ := h
    have lz : z.length ≤ 1 + i := hz.choose_spec.choose_spec.2.2.2
    walk_at "sx"
    refine ⟨p, l, _, 36, rfl, PG, by omega, by decide, by decide, fun n4 H4 n40 n41 P4 k4 => ?_⟩
    obtain ⟨c4, hc4, hat4⟩ := atL (xs := tl ("abcdefghijklmnopqrstuvwxyz0123456789" : Str)) n40 (by rw [len_L36]; exact n41)
    refine x_ixS (by decide +kernel) hat4 ?_
    walk_at "sx"
    refine x_addS (sz (by show z.length + 1 ≤ _; omega)) ?_
    walk_at "sx"
    exact ⟨_, _, rfl, hz.snoc (lt_L36 _ hc4), P4.mono (by omega), kG.trans k4⟩
  · obtain ⟨z0, x, rfl, hz0, PG0, kG0⟩ := h
    walk_at "sx"
    refine x_while (fun m σ' G => ∃ (z : Str), σ' = [some (.ref p), some (.str first), some (.ref tk), some (.str z), x] ∧ TxR (tl first) (L + 1) z ∧ PoolAt G p l (c + 10) ∧ Kx p l H G ∧ m = L + 2 - z.length) (L + 2 - z0.length) ?_ ?_
    · exact ⟨z0, rfl, hz0.imp (by omega), PG0.mono (by omega), kG0, rfl⟩
    · rintro m σ' G ⟨z, rfl, hz, PG, kG, rfl⟩
      walk_at "sx"
      rename_i b9 nb9
      have k9 : Same G (upd G b9 (.lst (barred9.map V.str))) := same_upd nb9
      refine x_cat (k9 _ _ (kG _ _ htk ntp ntl)) (zs := barred9.map V.str) upd_same (sz (by rw [List.length_map, List.length_map]; show zs.length + 9 ≤ _; omega)) fun r nr => ?_
      have k10 : Same (upd G b9 (.lst (barred9.map V.str))) (upd (upd G b9 (.lst (barred9.map V.str))) r (.lst (zs.map V.str ++ barred9.map V.str))) := same_upd nr
      have kk := k9.trans k10
      refine ⟨r, _, rfl, .inl (.of upd_same), rfl, ?_, _, rfl, ?_⟩
      · rw [← List.map_append, List.all_map]
        exact List.all_eq_true.mpr fun _ _ => rfl
      have e9 : (if false = true then !inV (V.str z) (zs.map V.str ++ barred9.map V.str) else inV (V.str z) (zs.map V.str ++ barred9.map V.str)) = decide (z ∈ zs ++ barred9) := by
        rw [if_neg (show ¬ (false = true) by decide), ← List.map_append, inV_strs]
      rw [e9]
      refine x_ite (fun c1 => ?_) (fun c1 => ?_)
      · have lz : z.length ≤ L := by
          rcases List.mem_append.mp c1 with h | h
          · exact hzs z h
          · have := len_b9 z h
            omega
        refine ⟨fun σ' G' => ∃ (z' : Str), σ' = [some (.ref p), some (.str first), some (.ref tk), some (.str z'), x] ∧ TxR (tl first) (L + 1) z' ∧ PoolAt G' p l (c + 10) ∧ Kx p l H G' ∧ L + 2 - z'.length < L + 2 - z.length, ?_, ?_⟩
        · rintro σ' G' ⟨z', rfl, g1, g2, g3, g4⟩
          exact ⟨_, g4, z', rfl, g1, g2, g3, rfl⟩
        walk_at "sx"
        refine x_addS (sz (by show z.length + 1 ≤ _; omega)) ?_
        walk_at "sx"
        have hz' : TxR (tl first) L z := by
          obtain ⟨c, t, e, a, b, d⟩ := hz
          exact ⟨c, t, e, a, b, lz⟩
        refine ⟨_, rfl, hz'.snoc (c := 97) (by decide), PG.same kk, kG.trans (.of kk), ?_⟩
        have hl : (z ++ ("a" : Str)).length = z.length + 1 := by
          show (z.cps ++ #[97]).size = _
          rw [Array.size_append]
          rfl
        rw [hl]
        omega
      · walk_at "sx"
        exact q z _ hz (fun h => c1 (List.mem_append_left _ h)) (PG.same kk) (kG.trans (.of kk))
end
/-- its numbers are small -/
def Sm.Sml : Sm → Prop
  | .n z => z.natAbs ≤ 100
  | .v _ => True
  | .op _ a b => a.Sml ∧ b.Sml
def spSum (K : PySem.W.Frag) (k : Nat) : Sp := fun vs H Q _ => ∃ (p l na : Addr) (c : Int) (n : Nat) (ns : List Str), vs = [.ref p, .ref na, .int (n : Int)] ∧ PoolAt H p l c ∧ c + (24 * 2 ^ n - 4) ≤ 1000000000000 ∧ H na = some (.lst (ns.map V.str)) ∧ 0 < ns.length ∧ ns.length ≤ 100 ∧ na ≠ p ∧ na ≠ l ∧ n < k ∧ n ≤ 5 ∧
  ∀ (v : V) (t : Sm) (H' : Hp), PtAt K H' k v t.pt → t.Ok (fun z => z ∈ ns) → t.Sml → t.wt + 1 ≤ 211 * 2 ^ n → PoolAt H' p l (c + (24 * 2 ^ n - 4)) → Kx p l H H' → Q v H'
theorem small_lt {z : Int} (h : z.natAbs ≤ 100) : z.natAbs < 2 ^ 210 := Nat.lt_of_le_of_lt h (by decide)
theorem signs_in {v : V} (h : v ∈ [V.str "+", .str "-", .str "*", .str "//", .str "mod"]) : ∃ s, v = .str s ∧ s ∈ signs5 := by
  simp only [List.mem_cons, List.not_mem_nil, or_false] at h
  rcases h with rfl | rfl | rfl | rfl | rfl
  · exact ⟨_, rfl, by decide +kernel⟩
  · exact ⟨_, rfl, by decide +kernel⟩
  · exact ⟨_, rfl, by decide +kernel⟩
  · exact ⟨_, rfl, by decide +kernel⟩
  · exact ⟨_, rfl, by decide +kernel⟩
section
variable {P : Program} {w : World} {K : PySem.W.Frag} {mg : Str → Option Value} {base : Heap} {f : Addr} {fd : FuncData}
def HasSum (k : Nat) (P : Program) (w : World) (K : PySem.W.Frag) (mg : Str → Option Value) (base : Heap) : Prop := Has P w K mg base (k + 1) "_law_sum" ["stream", "names", "deep"] (spSum K k)
set_option maxHeartbeats 1000000 in
theorem ok_law_sum (F : Fun K "_law_sum" "_law_sum" s_law_sum f fd) (T : Txt mg) (b : Binds K fd ["stream", "names", "deep"] []) (kp : PySem.W.keepIn K (.ref f) = true) (m : mg "_law_sum" = some (.ref f)) (C_law_draw : HasDraw P w K mg base) : ∀ k, FnOk P w K mg base CX0 (k + 1) f fd ["stream", "names", "deep"] (spSum K k)
  | 0 => ⟨fun vs H Q E h => by
      obtain ⟨p, l, na, c, n, ns, _, _, _, _, _, _, _, _, h, _⟩ := h
      omega, fun A outer s H args us vs Q E _ _ _ _ h => by
      obtain ⟨p, l, na, c, n, ns, _, _, _, _, _, _, _, _, h, _⟩ := h
      omega⟩
  | k + 1 => by
    have C_law_sum : HasSum k P w K mg base := ⟨f, fd, ok_law_sum F T b kp m C_law_draw k, b, kp, m⟩
    refine F.ok sc_law_sum (fun vs H Q E h => ?_) (fun cdv A outer s H vs Q E hr h => ?_)
    · obtain ⟨p, l, na, c, n, ns, rfl, _⟩ := h
      rfl
    obtain ⟨p, l, na, c, n, ns, rfl, P0, hc, hna, hn0, hn1, np, nl, hk, hn5, q⟩ := h
    have h2 : 1 ≤ 2 ^ n := Nat.one_le_two_pow
    have h2' : (1 : Int) ≤ 2 ^ n := by exact_mod_cast h2
    refine ⟨_, (pss_cons (ps_set (i := 3) sc_law_sum.nd rfl (Or.inl rfl) (pe_callH C_law_draw hr (pa_cons (pv 0) (pa_cons pe_int pa_nil)) (hk := by omega)))
    (pss_cons (ps_if (pt_cmpR op_lt (pv 3) pe_int (nomark _))
      (pss_one (ps_ret (pe_ix (ix_listK (K := K)) (pv 1) (pe_callH C_law_draw hr (pa_cons (pv 0) (pa_cons (pe_callB (call_lenK (K := K)) (by rfl) T.z_len (by decide +kernel) (pa_cons (pv 1) pa_nil)) pa_nil)) (hk := by omega)) (fun _ _ => rfl))))
      pss_nil)
    (pss_cons (ps_if (PW.pt (pw_or (pt_cmpR op_eq (pv 2) pe_int (nomark _)) (pw_or1 (pt_cmpR op_lt (pv 3) pe_int (nomark _)))))
      (pss_one (ps_ret (pe_op op_sub (pe_callH C_law_draw hr (pa_cons (pv 0) (pa_cons pe_int pa_nil)) (hk := by omega)) pe_int)))
      pss_nil)
    (pss_cons (ps_set (i := 4) sc_law_sum.nd rfl (Or.inl rfl) (pe_ix (ix_listK (K := K)) (pe_lst (pa_cons pe_str (pa_cons pe_str (pa_cons pe_str (pa_cons pe_str (pa_cons pe_str pa_nil)))))) (pe_callH C_law_draw hr (pa_cons (pv 0) (pa_cons pe_int pa_nil)) (hk := by omega)) (fun _ _ => rfl)))
    (pss_one (ps_ret (pe_tup (pa_cons (pv 4) (pa_cons (pe_callH C_law_sum hr (pa_cons (pv 0) (pa_cons (pv 1) (pa_cons (pe_op op_sub (pv 2) pe_int) pa_nil))) (hk := Nat.le_refl _)) (pa_cons (pe_callH C_law_sum hr (pa_cons (pv 0) (pa_cons (pv 1) (pa_cons (pe_op op_sub (pv 2) pe_int) pa_nil))) (hk := Nat.le_refl _)) pa_nil)))))))))), ?_⟩
    walk_at "sx"
    refine ⟨p, l, c, 5, rfl, P0, by omega, by decide, by decide, fun n0 H0 n00 n01 Q0 k0 => ?_⟩
    have hna0 := k0 _ _ hna np nl
    walk_at "sx"
    refine x_ite (fun c1 => ?_) (fun c1 => ?_)
    · walk_at "sx"
      refine ⟨p, l, _, _, rfl, Q0, by omega, by rw [List.length_map]; omega, by rw [List.length_map]; omega, fun n1 H1 n10 n11 Q1 k1 => ?_⟩
      obtain ⟨v, hv, hat⟩ := atL (xs := ns.map V.str) n10 n11
      obtain ⟨z, hz, rfl⟩ := List.mem_map.mp hv
      refine x_ixL (.of (k1 _ _ hna0 np nl)) hat ?_
      exact q (.str z) (.v z) H1 (PtAt.up (k := 1) (u := .s z) rfl (by omega)) hz trivial (by show 210 + 1 ≤ _; omega) (Q1.mono (by omega)) (k0.trans k1)
    walk_at "sx"
    have leaf : ∀ (n1 : Int) (H1 : Hp), 0 ≤ n1 → n1 < 13 → PoolAt H1 p l (c + 1 + 1) → Kx p l H0 H1 → Q (.int (n1 - 5)) H1 := by
      intro n1 H1 n10 n11 Q1 k1
      have hs : (n1 - 5).natAbs ≤ 100 := by omega
      exact q (.int (n1 - 5)) (.n (n1 - 5)) H1 (PtAt.up (k := 1) (u := .i (n1 - 5)) rfl (by omega)) (small_lt hs) hs (by show 210 + 1 ≤ _; omega) (Q1.mono (by omega)) (k0.trans k1)
    refine x_ite (fun c2 => ?_) (fun c2 => ?_)
    · walk_at "sx"
      refine ⟨p, l, _, 13, rfl, Q0, by omega, by decide, by decide, fun n1 H1 n10 n11 Q1 k1 => ?_⟩
      walk_at "sx"
      exact leaf n1 H1 n10 n11 Q1 k1
    walk_at "sx"
    refine x_ite (fun c3 => ?_) (fun c3 => ?_)
    · walk_at "sx"
      refine ⟨p, l, _, 13, rfl, Q0, by omega, by decide, by decide, fun n1 H1 n10 n11 Q1 k1 => ?_⟩
      walk_at "sx"
      exact leaf n1 H1 n10 n11 Q1 k1
    obtain ⟨m', rfl⟩ : ∃ m', n = m' + 1 := by
      cases n with
      | zero => exact absurd rfl c2
      | succ m' => exact ⟨m', rfl⟩
    rw [show (2 : Int) ^ (m' + 1) = 2 * 2 ^ m' from by rw [Int.pow_succ]; omega] at hc q
    have g2' : (1 : Int) ≤ 2 ^ m' := by exact_mod_cast (Nat.one_le_two_pow (n := m'))
    walk_at "sx"
    rename_i bl nb
    refine ⟨p, l, _, 5, rfl, Q0.upd nb, by omega, by decide, by decide, fun n3 H3 n30 n31 P3 k3 => ?_⟩
    obtain ⟨v3, hv3, hat3⟩ := atL (xs := [V.str "+", .str "-", .str "*", .str "//", .str "mod"]) n30 (by show n3 < 5; exact n31)
    obtain ⟨sg, rfl, hsg⟩ := signs_in hv3
    refine x_ixL (.of (kxl Q0 nb k3)) hat3 ?_
    have k03 : Kx p l H H3 := k0.trans (((Kx.refl _).updn nb).trans k3)
    have ed : ((m' + 1 : Nat) : Int) - 1 = (m' : Int) := by omega
    walk_at "sx"
    rw [ed]
    refine ⟨p, l, na, _, m', ns, rfl, P3, by omega, k03 _ _ hna np nl, hn0, hn1, np, nl, by omega, by omega, fun v1 t1 H4 a1 o1 s1 w1 P4 k4 => ?_⟩
    walk_at "sx"
    rw [ed]
    refine ⟨p, l, na, _, m', ns, rfl, P4, by omega, (k03.trans k4) _ _ hna np nl, hn0, hn1, np, nl, by omega, by omega, fun v2 t2 H5 a2 o2 s2 w2 P5 k5 => ?_⟩
    walk_at "sx"
    rename_i tn ntn
    refine q _ (.op sg t1 t2) _ (PtAt.tup (vs := [v1, v2]) (.of upd_same) ((PtsAt.one ((a1.kx k5 P4).same (same_upd ntn))).append (.one (a2.same (same_upd ntn))))) ⟨hsg, o1, o2⟩ ⟨s1, s2⟩ (by rw [Sm.wt, Nat.pow_succ]; omega) ((P5.upd ntn).mono (by omega)) (((k03.trans k4).trans k5).updn ntn)
end
end Gs

namespace Gs
open PySem PySem.Spec PyProof.Rows L2 TL
def T9 (z : Str) : Prop := ∀ x ∈ tl z, x < 128
def spTerm (K : PySem.W.Frag) : Sp := fun vs H Q _ => ∃ (p l : Addr) (c : Int), vs = [.ref p] ∧ PoolAt H p l c ∧ c + 20 ≤ 1000000000000 ∧
  ∀ (v : V) (t : Pt) (H' : Hp), PtAt K H' 2 v t → okT T9 T9 t → PoolAt H' p l (c + 20) → Kx p l H H' → Q v H'
theorem signs7 {v : V} (h : v ∈ [V.str "f", .str "+", .str "-", .str "*", .str "//", .str "mod", .str "at"]) : ∃ s, v = .str s ∧ T9 s := by
  simp only [List.mem_cons, List.not_mem_nil, or_false] at h
  rcases h with rfl | rfl | rfl | rfl | rfl | rfl | rfl
  · exact ⟨_, rfl, by unfold T9; decide +kernel⟩
  · exact ⟨_, rfl, by unfold T9; decide +kernel⟩
  · exact ⟨_, rfl, by unfold T9; decide +kernel⟩
  · exact ⟨_, rfl, by unfold T9; decide +kernel⟩
  · exact ⟨_, rfl, by unfold T9; decide +kernel⟩
  · exact ⟨_, rfl, by unfold T9; decide +kernel⟩
  · exact ⟨_, rfl, by unfold T9; decide +kernel⟩
theorem TxR.t9 {S : List Nat} {L : Nat} {z : Str} (h : TxR S L z) (hS : ∀ c ∈ S, c < 128) : T9 z := by
  obtain ⟨c, t, e, a, b, _⟩ := h
  intro x hx
  rw [e] at hx
  rcases List.mem_cons.mp hx with rfl | hx
  · exact hS _ a
  · exact b x hx
theorem cut_two (a b c : V) : cutV [a, b, c] none (some (2 + 0)) = a :: [b] := by
  unfold cutV
  rw [HT.sIx_none, show ((2 : Int) + 0) = ((2 : Nat) : Int) from rfl, HT.sIx_nat]
  rfl
theorem cut_three (a b c : V) : cutV [a, b, c] none (some (2 + 1)) = a :: [b, c] := by
  unfold cutV
  rw [HT.sIx_none, show ((2 : Int) + 1) = ((3 : Nat) : Int) from rfl, HT.sIx_nat]
  rfl
theorem lt_a : ∀ c ∈ tl ("abcdefghijklmnopqrstuvwxyz" : Str), c < 128 := by decide +kernel
section
variable {P : Program} {w : World} {K : PySem.W.Frag} {mg : Str → Option Value} {base : Heap} {f : Addr} {fd : FuncData}
def HasTerm9 (P : Program) (w : World) (K : PySem.W.Frag) (mg : Str → Option Value) (base : Heap) : Prop := Has P w K mg base 3 "_law_term" ["stream"] (spTerm K)
set_option maxHeartbeats 1000000 in
theorem ok_law_term (F : Fun K "_law_term" "_law_term" s_law_term f fd) (T : Txt mg) (C_law_draw : HasDraw P w K mg base) (C_law_text : HasText P w K mg base) : FnOk P w K mg base CX0 3 f fd ["stream"] (spTerm K) := by
  refine F.ok sc_law_term (fun vs H Q E h => ?_) (fun cdv A outer s H vs Q E hr h => ?_)
  · obtain ⟨p, l, c, rfl, _⟩ := h
    rfl
  obtain ⟨p, l, c, rfl, P0, hc, q⟩ := h
  refine ⟨_, (pss_cons (ps_set (i := 1) sc_law_term.nd rfl (Or.inl rfl) (pe_callH C_law_draw hr (pa_cons (pv 0) (pa_cons pe_int pa_nil))))
    (pss_cons (ps_if (pt_cmpR op_eq (pv 1) pe_int (nomark _))
      (pss_one (ps_ret (pe_callH C_law_text hr (pa_cons (pv 0) (pa_cons pe_str (pa_cons (pe_lst pa_nil) pa_nil))))))
      pss_nil)
    (pss_cons (ps_if (pt_cmpR op_eq (pv 1) pe_int (nomark _))
      (pss_cons (ps_set (i := 2) sc_law_term.nd rfl (Or.inl rfl) (pe_ix (ix_listK (K := K)) (pe_lst (pa_cons pe_str (pa_cons pe_str (pa_cons pe_str (pa_cons pe_str (pa_cons pe_str (pa_cons pe_str (pa_cons pe_str pa_nil)))))))) (pe_callH C_law_draw hr (pa_cons (pv 0) (pa_cons pe_int pa_nil))) (fun _ _ => rfl)))
    (pss_one (ps_ret (pe_slice (sl_tupAK (K := K)) (pe_tup (pa_cons (pv 2) (pa_cons (pe_callH C_law_draw hr (pa_cons (pv 0) (pa_cons pe_int pa_nil))) (pa_cons (pe_callH C_law_draw hr (pa_cons (pv 0) (pa_cons pe_int pa_nil))) pa_nil)))) po_none (po_some (pe_op op_add pe_int (pe_callH C_law_draw hr (pa_cons (pv 0) (pa_cons pe_int pa_nil)))))))))
      pss_nil)
    (pss_cons (ps_if (pt_cmpR op_eq (pv 1) pe_int (nomark _))
      (pss_one (ps_ret (pe_op op_mulW (pe_op op_sub (pe_op op_sub (pe_op op_pow pe_int pe_int) pe_int) (pe_callH C_law_draw hr (pa_cons (pv 0) (pa_cons (pe_op op_pow pe_int pe_int) pa_nil)))) (pe_op op_sub pe_int (pe_op op_mulW pe_int (pe_callH C_law_draw hr (pa_cons (pv 0) (pa_cons pe_int pa_nil))))))))
      pss_nil)
    (pss_one (ps_ret (pe_op op_sub (pe_callH C_law_draw hr (pa_cons (pv 0) (pa_cons pe_int pa_nil))) pe_int))))))), ?_⟩
  walk_at "sx"
  refine ⟨p, l, c, 10, rfl, P0, by omega, by decide, by decide, fun n0 H0 n00 n01 Q0 k0 => ?_⟩
  walk_at "sx"
  refine x_ite (fun c1 => ?_) (fun c1 => ?_)
  · walk_at "sx"
    rename_i bl nb
    have fb := Q0.fresh nb
    refine ⟨p, l, bl, _, "abcdefghijklmnopqrstuvwxyz", [], 5, rfl, Q0.upd nb, by omega, by decide +kernel, by decide +kernel, upd_same, by decide, (by intro z hz; cases hz), by decide, by decide, fb.1, fb.2, fun z G hz _ PG kG => ?_⟩
    exact q (.str z) (.s z) G (PtAt.up (k := 1) (u := .s z) rfl (by decide)) (hz.t9 lt_a) (PG.mono (by omega)) (k0.trans (((Kx.refl _).updn nb).trans kG))
  walk_at "sx"
  refine x_ite (fun c2 => ?_) (fun c2 => ?_)
  · walk_at "sx"
    rename_i bl nb
    refine ⟨p, l, _, 7, rfl, Q0.upd nb, by omega, by decide, by decide, fun n3 H3 n30 n31 P3 k3 => ?_⟩
    obtain ⟨v3, hv3, hat3⟩ := atL (xs := [V.str "f", .str "+", .str "-", .str "*", .str "//", .str "mod", .str "at"]) n30 (by show n3 < 7; exact n31)
    obtain ⟨sg, rfl, hsg⟩ := signs7 hv3
    refine x_ixL (.of (kxl Q0 nb k3)) hat3 ?_
    have k03 : Kx p l H H3 := k0.trans (((Kx.refl _).updn nb).trans k3)
    walk_at "sx"
    refine ⟨p, l, _, 6, rfl, P3, by omega, by decide, by decide, fun n4 H4 n40 n41 P4 k4 => ?_⟩
    walk_at "sx"
    refine ⟨p, l, _, 6, rfl, P4, by omega, by decide, by decide, fun n5 H5 n50 n51 P5 k5 => ?_⟩
    walk_at "sx"
    rename_i tn ntn
    have st : SqT K (upd H5 tn (.tup [V.str sg, .int n4, .int n5])) tn [V.str sg, .int n4, .int n5] := .of upd_same
    refine ⟨p, l, _, 2, rfl, P5.upd ntn, by omega, by decide, by decide, fun n6 H6 n60 n61 P6 k6 => ?_⟩
    have st6 := k6.sqT (P5.upd ntn) st
    walk_at "sx"
    refine x_slA st6 fun r G1 g1 sr => ?_
    have kall : Kx p l H G1 := (((k03.trans k4).trans k5).trans (((Kx.refl _).updn ntn).trans k6)).trans (.of g1)
    have hn6 : n6 = 0 ∨ n6 = 1 := by omega
    have i4 : ∀ k, PtAt K G1 (k + 1) (.int n4) (.i n4) := fun k => rfl
    have i5 : ∀ k, PtAt K G1 (k + 1) (.int n5) (.i n5) := fun k => rfl
    have o4 : n4.natAbs < 10 ^ 60 := by omega
    have o5 : n5.natAbs < 10 ^ 60 := by omega
    rcases hn6 with rfl | rfl
    · have e : cutV [V.str sg, .int n4, .int n5] none (some (2 + 0)) = V.str sg :: [.int n4] := cut_two _ _ _
      rw [e] at sr
      exact q _ (.t sg [.i n4]) G1 (PtAt.tup sr (.one (i4 0))) ⟨hsg, Nat.le_of_ble_eq_true rfl, Nat.le_of_ble_eq_true rfl, o4, trivial⟩ ((P6.same g1).mono (by omega)) kall
    · have e : cutV [V.str sg, .int n4, .int n5] none (some (2 + 1)) = V.str sg :: [.int n4, .int n5] := cut_three _ _ _
      rw [e] at sr
      exact q _ (.t sg [.i n4, .i n5]) G1 (PtAt.tup sr ((PtsAt.one (i4 0)).append (.one (i5 0)))) ⟨hsg, Nat.le_of_ble_eq_true rfl, Nat.le_of_ble_eq_true rfl, o4, o5, trivial⟩ ((P6.same g1).mono (by omega)) kall
  walk_at "sx"
  refine x_ite (fun c3 => ?_) (fun c3 => ?_)
  · walk_at "sx"
    refine ⟨p, l, _, _, rfl, Q0, by omega, by decide, by decide, fun n3 H3 n30 n31 P3 k3 => ?_⟩
    walk_at "sx"
    refine ⟨p, l, _, 2, rfl, P3, by omega, by decide, by decide, fun n4 H4 n40 n41 P4 k4 => ?_⟩
    have hn3 : ((10 : Int) ^ Int.toNat 60 - 1 - n3).natAbs < 10 ^ 60 := by
      show ((10 : Int) ^ 60 - 1 - n3).natAbs < 10 ^ 60
      have h20 : n3 < 10 ^ 20 := n31
      omega
    have h01 : n4 = 0 ∨ n4 = 1 := by omega
    have m1 : CMulW 2 n4 := cmulW (by decide) (by omega)
    have m2 : CMulW ((10 : Int) ^ Int.toNat 60 - 1 - n3) (1 - 2 * n4) := cmulW (Nat.lt_trans hn3 (by decide)) (by omega)
    walk_at "sx"
    refine q _ (.i (((10 : Int) ^ Int.toNat 60 - 1 - n3) * (1 - 2 * n4))) _ rfl ?_ (P4.mono (by omega)) ((k0.trans k3).trans k4)
    show (((10 : Int) ^ Int.toNat 60 - 1 - n3) * (1 - 2 * n4)).natAbs < 10 ^ 60
    rcases h01 with rfl | rfl
    · rw [show (1 : Int) - 2 * 0 = 1 from rfl, Int.mul_one]
      exact hn3
    · rw [show (1 : Int) - 2 * 1 = -1 from rfl, Int.mul_neg, Int.mul_one, Int.natAbs_neg]
      exact hn3
  walk_at "sx"
  refine ⟨p, l, _, 13, rfl, Q0, by omega, by decide, by decide, fun n3 H3 n30 n31 P3 k3 => ?_⟩
  walk_at "sx"
  exact q (.int (n3 - 5)) (.i (n3 - 5)) _ rfl (by show (n3 - 5).natAbs < 10 ^ 60; omega) (P3.mono (by omega)) (k0.trans k3)
end
end Gs

namespace Gs
open PySem PySem.Spec PyProof.Rows L2 TL
abbrev s_law_worth : Stmt := PySem.Challenge.pw_goalstead_k39_resolved.main.body.getD 36 (.Pass ⟨0, 0, 0, 0⟩)
theorem sc_law_worth : FnScope ["total", "filling", "found", "left", "right"] ["total", "filling"] (defScope s_law_worth) := ⟨rfl, rfl, rfl, by decide +kernel, rfl, by decide +kernel, by decide +kernel⟩
def spLWorth (K : PySem.W.Frag) (k : Nat) : Sp := fun vs H Q _ => ∃ (v : V) (d : Addr) (t : Sm) (r : List (Key × V)) (f : Fl) (j : Nat), vs = [v, .ref d] ∧ PtAt K H k v t.pt ∧ t.Ok (fun z => (look f z).isSome = true) ∧ t.wt ≤ 4000 ∧ H d = some (.dK r) ∧ StAt K H j r f ∧ NumLt f ∧ ∀ H', Same H H' → Q (optV (wo f t)) H'
section
variable {P : Program} {w : World} {K : PySem.W.Frag} {mg : Str → Option Value} {base : Heap} {f : Addr} {fd : FuncData}
def HasLWorth (k : Nat) (P : Program) (w : World) (K : PySem.W.Frag) (mg : Str → Option Value) (base : Heap) : Prop := Has P w K mg base k "_law_worth" ["total", "filling"] (spLWorth K k)
theorem sgn5 {s : Str} (h : s ∈ signs5) : s = "+" ∨ s = "-" ∨ s = "*" ∨ s = "//" ∨ s = "mod" := by
  simpa [signs5] using h
set_option maxHeartbeats 1000000 in
theorem ok_law_worth (F : Fun K "_law_worth" "_law_worth" s_law_worth f fd) (T : Txt mg) (b : Binds K fd ["total", "filling"] []) (kp : PySem.W.keepIn K (.ref f) = true) (m : mg "_law_worth" = some (.ref f)) : ∀ k, FnOk P w K mg base CX0 k f fd ["total", "filling"] (spLWorth K k)
  | 0 => ⟨fun vs H Q E h => by
      obtain ⟨v, d, t, r, fl, j, _, h, _⟩ := h
      exact h.elim, fun A outer s H args us vs Q E _ _ _ _ h => by
      obtain ⟨v, d, t, r, fl, j, _, h, _⟩ := h
      exact h.elim⟩
  | k + 1 => by
    have C_law_worth : HasLWorth k P w K mg base := ⟨f, fd, ok_law_worth F T b kp m k, b, kp, m⟩
    refine F.ok sc_law_worth (fun vs H Q E h => ?_) (fun cdv A outer s H vs Q E hr h => ?_)
    · obtain ⟨v, d, t, r, fl, j, rfl, _⟩ := h
      rfl
    obtain ⟨v, d, t, r, fl, j, rfl, hv, hok, hw, hd, sf, hf, q⟩ := h
    refine ⟨_, (pss_cons (ps_if (pt_not (pt_val (pe_callB (call_isiKK (K := K)) (by rfl) T.z_isinstance (by decide +kernel) (pa_cons (pv 0) (pa_cons (pe_bltn (v := .ty "tuple") (by rfl) T.z_tuple (by decide +kernel) rfl) pa_nil)))))
      (pss_cons (ps_set (i := 2) sc_law_worth.nd rfl (Or.inl rfl) (pe_dget2 (hu_of hr) (pv 1) (pv 0) (pv 0) ⟨rfl, rfl, rfl, rfl⟩))
    (pss_one (ps_ret (pe_ix (ix_listK (K := K)) (pe_lst (pa_cons pe_non (pa_cons (pv 2) pa_nil))) (pe_callTy call_int1 (by rfl) T.z_int (by decide +kernel) (pa_cons (pe_callB (call_isiKK (K := K)) (by rfl) T.z_isinstance (by decide +kernel) (pa_cons (pv 2) (pa_cons (pe_bltn (v := .ty "int") (by rfl) T.z_int (by decide +kernel) rfl) pa_nil))) pa_nil)) (fun _ _ => rfl)))))
      pss_nil)
    (pss_cons (ps_set (i := 3) sc_law_worth.nd rfl (Or.inl rfl) (pe_callH C_law_worth hr (pa_cons (pe_ix (ix_tupK (K := K)) (pv 0) pe_int (fun _ _ => rfl)) (pa_cons (pv 1) pa_nil)) (hk := Nat.le_refl _)))
    (pss_cons (ps_set (i := 4) sc_law_worth.nd rfl (Or.inl rfl) (pe_callH C_law_worth hr (pa_cons (pe_ix (ix_tupK (K := K)) (pv 0) pe_int (fun _ _ => rfl)) (pa_cons (pv 1) pa_nil)) (hk := Nat.le_refl _)))
    (Evl.pss_cut (ps_if (PW.pt (pw_or (pt_cmpR op_isN (pv 3) pe_non (nomark _)) (pw_or (pt_cmpR op_isN (pv 4) pe_non (nomark _)) (pw_or1 (PW.pt (pw_and (pt_cmpR op_eq (pv 4) pe_int (nomark _)) (pw_and1 (pt_cmpR (op_inK (K := K)) (pe_ix (ix_tupK (K := K)) (pv 0) pe_int (fun _ _ => rfl)) (pe_lst (pa_cons pe_str (pa_cons pe_str pa_nil))) (by first | exact nomark _ | rfl)))))))))
      (pss_one (ps_ret pe_non))
      pss_nil)
    (pss_cons (ps_if (pt_cmpR op_eq (pe_ix (ix_tupK (K := K)) (pv 0) pe_int (fun _ _ => rfl)) pe_str (nomark _))
      (pss_one (ps_ret (pe_op op_add (pv 3) (pv 4))))
      pss_nil)
    (pss_cons (ps_if (pt_cmpR op_eq (pe_ix (ix_tupK (K := K)) (pv 0) pe_int (fun _ _ => rfl)) pe_str (nomark _))
      (pss_one (ps_ret (pe_op op_sub (pv 3) (pv 4))))
      pss_nil)
    (pss_cons (ps_if (pt_cmpR op_eq (pe_ix (ix_tupK (K := K)) (pv 0) pe_int (fun _ _ => rfl)) pe_str (nomark _))
      (pss_one (ps_ret (pe_op op_mulW (pv 3) (pv 4))))
      pss_nil)
    (pss_cons (ps_if (pt_cmpR op_eq (pe_ix (ix_tupK (K := K)) (pv 0) pe_int (fun _ _ => rfl)) pe_str (nomark _))
      (pss_one (ps_ret (pe_op op_fdivB (pv 3) (pv 4))))
      pss_nil)
    (pss_one (ps_ret (pe_op op_modN (pv 3) (pv 4)))))))))))), ?_⟩
    walk_at "sx"
    rcases Sm.three hv with ⟨z, rfl, rfl⟩ | ⟨z, rfl, rfl⟩ | ⟨i0, s, t1, t2, p, x, y, hk, rfl, rfl, sp, h1, h2⟩
    · refine x_isT (t := .type "int") (c := false) (.base (.int z)) (kit_ty (by decide +kernel)) ?_
      walk_at "sx"
      refine x_dget2 ?_
      walk_at "sx"
      refine ⟨d, rfl, .inl ⟨_, .inl hd⟩, ?_⟩
      walk_at "sx"
      refine ⟨_, DGet.k (k := Sum.inl z) hd, ?_⟩
      rw [sf.no_int]
      walk_at "sx"
      rename_i ld nld
      refine x_isT (t := .type "int") (c := true) (.base (.int z)) (kit_ty (by decide +kernel)) ?_
      walk_at "sx"
      exact q _ (same_upd nld)
    · refine x_isT (t := .type "str") (c := false) (.base (.str z)) (kit_ty (by decide +kernel)) ?_
      walk_at "sx"
      refine x_dget2 ?_
      walk_at "sx"
      refine ⟨d, rfl, .inl ⟨_, .inl hd⟩, ?_⟩
      walk_at "sx"
      refine ⟨_, DGet.k (k := Sum.inr z) hd, ?_⟩
      have hz : (look fl z).isSome = true := hok
      rcases sf.find z with ⟨e1, e2⟩ | ⟨v1, u1, e1, e2, pu⟩
      · rw [e2] at hz
        cases hz
      · rw [e1]
        rw [wo, e2] at q
        walk_at "sx"
        rename_i ld nld
        rcases pu.three with ⟨nn, rfl, rfl⟩ | ⟨zz, rfl, rfl⟩ | ⟨i1, nm, qs, pa, ys, _, rfl, rfl, sp, _⟩
        · refine x_isT (t := .type "int") (c := true) (.base (.int nn)) (kit_ty (by decide +kernel)) ?_
          walk_at "sx"
          exact q _ (same_upd nld)
        · refine x_isT (t := .type "str") (c := false) (.base (.str zz)) (kit_ty (by decide +kernel)) ?_
          walk_at "sx"
          exact q _ (same_upd nld)
        · refine x_isT (t := .type "tuple") (c := false) (ty_tup (sqT_new nld sp)) (kit_ty (by decide +kernel)) ?_
          walk_at "sx"
          exact q _ (same_upd nld)
    · obtain rfl : k = i0 := by omega
      obtain ⟨hs, ok1, ok2⟩ := hok
      rw [Sm.wt] at hw
      have w1 := Sm.wt_pos t1
      have w2 := Sm.wt_pos t2
      refine x_isT (t := .type "tuple") (c := true) (ty_tup sp) (kit_ty (by decide +kernel)) ?_
      walk_at "sx"
      refine ⟨x, d, t1, r, fl, j, rfl, h1, ok1, by omega, hd, sf, hf, fun H1 k1 => ?_⟩
      have sp1 := Same.sqT k1 sp
      walk_at "sx"
      refine ⟨y, d, t2, r, fl, j, rfl, h2.same k1, ok2, by omega, k1 _ _ hd, sf.mono (fun _ _ s => Same.sqT k1 s), hf, fun H2 k2 => ?_⟩
      have sp2 := Same.sqT k2 sp1
      have k12 := k1.trans k2
      walk_at "sx"
      refine x_cut (M := fun σ' G => ∃ (l r : Int), σ' = [some (.ref p), some (.ref d), none, some (.int l), some (.int r)] ∧ Same H2 G ∧ wo fl t1 = some l ∧ wo fl t2 = some r ∧ ¬ (r = 0 ∧ (s = "//" ∨ s = "mod"))) ?_ ?_
      · walk_at "sx"
        cases e1 : wo fl t1 with
        | none =>
          have e : wo fl (.op s t1 t2) = none := by rw [wo, e1]
          rw [e] at q
          refine ⟨rfl, ?_⟩
          walk_at "sx"
          exact q _ k12
        | some l =>
        refine ⟨rfl, ?_⟩
        walk_at "sx"
        cases e2 : wo fl t2 with
        | none =>
          have e : wo fl (.op s t1 t2) = none := by rw [wo, e1, e2]
          rw [e] at q
          refine ⟨rfl, ?_⟩
          walk_at "sx"
          exact q _ k12
        | some r' =>
        refine ⟨rfl, ?_⟩
        dsimp only [optV]
        walk_at "sx"
        refine x_ite (fun c4 => ?_) (fun c4 => ?_)
        · cases V.int.inj c4
          walk_at "sx"
          rename_i lb nlb
          refine ⟨lb, _, rfl, .inl (.of upd_same), rfl, rfl, _, rfl, ?_⟩
          have e9 : (if false = true then !inV (V.str s) [.str "//", .str "mod"] else inV (V.str s) [.str "//", .str "mod"]) = decide (s ∈ ([("//" : Str), "mod"] : List Str)) := by
            rw [if_neg (show ¬ (false = true) by decide), show [V.str "//", V.str "mod"] = ([("//" : Str), "mod"] : List Str).map V.str from rfl, inV_strs]
          rw [e9]
          refine x_ite (fun c5 => ?_) (fun c5 => ?_)
          · have c5' : s = "//" ∨ s = "mod" := by simpa using c5
            rw [wo_op e1 e2] at q
            have er : reck s l 0 = none := by
              rcases c5' with rfl | rfl <;> (unfold reck; rw [if_neg (by decide +kernel), if_neg (by decide +kernel), if_neg (by decide +kernel), if_pos rfl])
            rw [er] at q
            walk_at "sx"
            exact q _ (k12.trans (same_upd nlb))
          · have c5' : ¬ (s = "//" ∨ s = "mod") := by simpa using c5
            walk_at "sx"
            exact ⟨l, 0, rfl, same_upd nlb, rfl, rfl, fun h => c5' h.2⟩
        · walk_at "sx"
          exact ⟨l, r', rfl, fun _ _ e => e, rfl, rfl, fun h => c4 (congrArg V.int h.1)⟩
      · rintro σ' G ⟨l, r', rfl, kG, e1, e2, hn⟩
        have sp3 := Same.sqT kG sp2
        have k3 := k12.trans kG
        rw [wo_op e1 e2] at q
        have l1 := wo_lt hf ok1 e1
        have l2 := wo_lt hf ok2 e2
        have mlr : CMulW l r' := wide_mulW l1 l2 (by omega) (by omega) (by omega)
        walk_at "sx"
        refine x_ite (fun c1 => ?_) (fun c1 => ?_)
        · cases V.str.inj c1
          walk_at "sx"
          exact q _ k3
        walk_at "sx"
        refine x_ite (fun c2 => ?_) (fun c2 => ?_)
        · cases V.str.inj c2
          walk_at "sx"
          exact q _ k3
        walk_at "sx"
        refine x_ite (fun c3 => ?_) (fun c3 => ?_)
        · cases V.str.inj c3
          walk_at "sx"
          exact q _ k3
        have c1' : s ≠ "+" := fun z => c1 (congrArg V.str z)
        have c2' : s ≠ "-" := fun z => c2 (congrArg V.str z)
        have c3' : s ≠ "*" := fun z => c3 (congrArg V.str z)
        have s2 : s = "//" ∨ s = "mod" := by
          rcases sgn5 hs with h | h | h | h | h
          · exact absurd h c1'
          · exact absurd h c2'
          · exact absurd h c3'
          · exact .inl h
          · exact .inr h
        have c4' : r' ≠ 0 := fun z => hn ⟨z, s2⟩
        have dv : CDivB l r' := ⟨c4', Nat.lt_of_lt_of_le (PySem.Flt.log2_lt_of (by omega) l2) (by omega)⟩
        walk_at "sx"
        refine x_ite (fun c5 => ?_) (fun c5 => ?_)
        · have er : reck s l r' = some (l.fdiv r') := by
            unfold reck
            rw [if_neg c1', if_neg c2', if_neg c3', if_neg c4', if_pos (V.str.inj c5)]
          rw [er] at q
          walk_at "sx"
          exact q _ k3
        · have er : reck s l r' = some (l.fmod r') := by
            unfold reck
            rw [if_neg c1', if_neg c2', if_neg c3', if_neg c4', if_neg fun z => c5 (congrArg V.str z)]
          rw [er] at q
          walk_at "sx"
          exact q _ k3
end
end Gs

namespace Gs
open PySem PySem.Spec PyProof.Rows L2 TL
abbrev s_law_tree : Stmt := PySem.Challenge.pw_goalstead_k39_resolved.main.body.getD 37 (.Pass ⟨0, 0, 0, 0⟩)
theorem sc_law_tree : FnScope ["total", "ranged", "filling", "sides", "found"] ["total", "ranged", "filling"] (defScope s_law_tree) := ⟨rfl, rfl, rfl, by decide +kernel, rfl, by decide +kernel, by decide +kernel⟩
theorem plc0_first : ∀ {ns : List Str} {z : Str} (i : Nat), z ∈ ns → ∃ j : Nat, ns[j]? = some z ∧ (∀ m, m < j → ns[m]? ≠ some z) ∧ lookO (plc0 ns i) z = some (some (.t "at" [.i ((i + j : Nat) : Int)]))
  | [], z, i, h => by cases h
  | y :: r, z, i, h => by
    by_cases e : y = z
    · refine ⟨0, by rw [e]; rfl, (by intro m hm; omega), ?_⟩
      rw [plc0, lookO, if_pos e]
      rfl
    · obtain ⟨j, h1, h2, h3⟩ := plc0_first (ns := r) (i + 1) (by
        rcases List.mem_cons.mp h with h | h
        · exact absurd h.symm e
        · exact h)
      refine ⟨j + 1, h1, fun m hm => ?_, ?_⟩
      · cases m with
        | zero =>
          intro c
          exact e (Option.some.inj c)
        | succ m => exact h2 m (by omega)
      · rw [plc0, lookO, if_neg e, h3, show i + 1 + j = i + (j + 1) from by omega]
def spLTree (K : PySem.W.Frag) (k : Nat) : Sp := fun vs H Q _ => ∃ (v : V) (ra d : Addr) (t : Sm) (ns : List Str) (r : List (Key × V)) (f : Fl) (j : Nat), vs = [v, .ref ra, .ref d] ∧ PtAt K H k v t.pt ∧ t.Ok (fun z => z ∈ ns ∨ (look f z).isSome = true) ∧ H ra = some (.lst (ns.map V.str)) ∧ ns.length ≤ 100 ∧ H d = some (.dK r) ∧ StAt K H j r f ∧ ∀ v' H', Same H H' → PoAt K H' (k + 1) v' (ltr (rho ns f) t) → Q v' H'
theorem mt_indexR {X : Cx} {K : PySem.W.Frag} (h : X.K = K := by rfl) : MtR X "list.index" (rIndex K) := h ▸ mt_index
theorem inV_int {z : Int} {zs : List Str} : inV (.int z) (zs.map V.str) = false := by
  unfold inV
  rw [List.any_map]
  exact List.any_eq_false.mpr fun x _ => by
    show ¬ eqV (.str x) (.int z) = true
    intro h
    cases h
theorem not_non {K : PySem.W.Frag} {H : Hp} {k : Nat} {v : V} {p : Pt} (h : PtAt K H k v p) : decide (v = .non) = false := by
  rcases h.three with ⟨n, rfl, _⟩ | ⟨z, rfl, _⟩ | ⟨_, _, _, _, _, _, rfl, _⟩ <;> rfl
section
variable {P : Program} {w : World} {K : PySem.W.Frag} {mg : Str → Option Value} {base : Heap} {f : Addr} {fd : FuncData}
def HasLTree (k : Nat) (P : Program) (w : World) (K : PySem.W.Frag) (mg : Str → Option Value) (base : Heap) : Prop := Has P w K mg base k "_law_tree" ["total", "ranged", "filling"] (spLTree K k)
set_option maxHeartbeats 1000000 in
theorem ok_law_tree (F : Fun K "_law_tree" "_law_tree" s_law_tree f fd) (T : Txt mg) (b : Binds K fd ["total", "ranged", "filling"] []) (kp : PySem.W.keepIn K (.ref f) = true) (m : mg "_law_tree" = some (.ref f)) : ∀ k, FnOk P w K mg base CX0 k f fd ["total", "ranged", "filling"] (spLTree K k)
  | 0 => ⟨fun vs H Q E h => by
      obtain ⟨v, ra, d, t, ns, r, fl, j, _, h, _⟩ := h
      exact h.elim, fun A outer s H args us vs Q E _ _ _ _ h => by
      obtain ⟨v, ra, d, t, ns, r, fl, j, _, h, _⟩ := h
      exact h.elim⟩
  | k + 1 => by
    have C_law_tree : HasLTree k P w K mg base := ⟨f, fd, ok_law_tree F T b kp m k, b, kp, m⟩
    refine F.ok sc_law_tree (fun vs H Q E h => ?_) (fun cdv A outer s H vs Q E hr h => ?_)
    · obtain ⟨v, ra, d, t, ns, r, fl, j, rfl, _⟩ := h
      rfl
    obtain ⟨v, ra, d, t, ns, r, fl, j, rfl, hv, hok, hra, hnl, hd, sf, q⟩ := h
    refine ⟨_, (pss_cons (ps_if (pt_val (pe_callB (call_isiKK (K := K)) (by rfl) T.z_isinstance (by decide +kernel) (pa_cons (pv 0) (pa_cons (pe_bltn (v := .ty "tuple") (by rfl) T.z_tuple (by decide +kernel) rfl) pa_nil))))
      (pss_cons (ps_set (i := 3) sc_law_tree.nd rfl (Or.inl rfl) (pe_lst (pa_cons (pe_callH C_law_tree hr (pa_cons (pe_ix (ix_tupK (K := K)) (pv 0) pe_int (fun _ _ => rfl)) (pa_cons (pv 1) (pa_cons (pv 2) pa_nil))) (hk := Nat.le_refl _)) (pa_cons (pe_callH C_law_tree hr (pa_cons (pe_ix (ix_tupK (K := K)) (pv 0) pe_int (fun _ _ => rfl)) (pa_cons (pv 1) (pa_cons (pv 2) pa_nil))) (hk := Nat.le_refl _)) pa_nil))))
    (pss_one (ps_ret (pe_ix (ix_listK (K := K)) (pe_lst (pa_cons (pe_tup (pa_cons (pe_ix (ix_tupK (K := K)) (pv 0) pe_int (fun _ _ => rfl)) (pa_cons (pe_ix (ix_listK (K := K)) (pv 3) pe_int (fun _ _ => rfl)) (pa_cons (pe_ix (ix_listK (K := K)) (pv 3) pe_int (fun _ _ => rfl)) pa_nil)))) (pa_cons pe_non pa_nil))) (pe_callTy call_int1 (by rfl) T.z_int (by decide +kernel) (pa_cons (pe_or (pe_cmpR op_isN (pe_ix (ix_listK (K := K)) (pv 3) pe_int (fun _ _ => rfl)) pe_non (nomark _)) (pe_one (pe_cmpR op_isN (pe_ix (ix_listK (K := K)) (pv 3) pe_int (fun _ _ => rfl)) pe_non (nomark _)))) pa_nil)) (fun _ _ => rfl)))))
      pss_nil)
    (pss_cons (ps_if (pt_cmpR (op_inK (K := K)) (pv 0) (pv 1) (by first | exact nomark _ | rfl))
      (pss_one (ps_ret (pe_tup (pa_cons pe_str (pa_cons (pe_bm PySem.F.plainAttrs_list PySem.F.slot_list_index PySem.F.type_list_index (mt_indexR (K := K)) (pv 1) (pa_cons (pv 0) pa_nil)) pa_nil)))))
      pss_nil)
    (pss_cons (ps_set (i := 4) sc_law_tree.nd rfl (Or.inl rfl) (pe_dget2 (hu_of hr) (pv 2) (pv 0) (pv 0) ⟨rfl, rfl, rfl, rfl⟩))
    (pss_one (ps_ret (pe_ix (ix_listK (K := K)) (pe_lst (pa_cons pe_non (pa_cons (pv 4) pa_nil))) (pe_callTy call_int1 (by rfl) T.z_int (by decide +kernel) (pa_cons (pe_callB (call_isiKK (K := K)) (by rfl) T.z_isinstance (by decide +kernel) (pa_cons (pv 4) (pa_cons (pe_bltn (v := .ty "int") (by rfl) T.z_int (by decide +kernel) rfl) pa_nil))) pa_nil)) (fun _ _ => rfl))))))), ?_⟩
    walk_at "sx"
    rcases Sm.three hv with ⟨z, rfl, rfl⟩ | ⟨z, rfl, rfl⟩ | ⟨i0, s, t1, t2, p, x, y, hk, rfl, rfl, sp, h1, h2⟩
    · refine x_isT (t := .type "int") (c := false) (.base (.int z)) (kit_ty (by decide +kernel)) ?_
      walk_at "sx"
      refine ⟨ra, _, rfl, .inl (.of hra), rfl, (by rw [List.all_map]; exact List.all_eq_true.mpr fun _ _ => rfl), _, rfl, ?_⟩
      rw [if_neg (show ¬ (false = true) by decide), inV_int]
      walk_at "sx"
      refine x_dget2 ?_
      walk_at "sx"
      refine ⟨d, rfl, .inl ⟨_, .inl hd⟩, ?_⟩
      walk_at "sx"
      refine ⟨_, DGet.k (k := Sum.inl z) hd, ?_⟩
      rw [sf.no_int]
      walk_at "sx"
      rename_i ld nld
      refine x_isT (t := .type "int") (c := true) (.base (.int z)) (kit_ty (by decide +kernel)) ?_
      walk_at "sx"
      exact q _ _ (same_upd nld) (PtAt.up (k := 1) (u := .i z) rfl (by omega))
    · refine x_isT (t := .type "str") (c := false) (.base (.str z)) (kit_ty (by decide +kernel)) ?_
      walk_at "sx"
      refine ⟨ra, _, rfl, .inl (.of hra), rfl, (by rw [List.all_map]; exact List.all_eq_true.mpr fun _ _ => rfl), _, rfl, ?_⟩
      rw [if_neg (show ¬ (false = true) by decide), inV_strs]
      refine x_ite (fun c1 => ?_) (fun c1 => ?_)
      · obtain ⟨jj, j1, j2, j3⟩ := plc0_first 0 c1
        walk_at "sx"
        have hz1 : (ns.map V.str)[jj]? = some (.str z) := by rw [List.getElem?_map, j1]; rfl
        refine ⟨ra, ns.map V.str, .str z, jj, .str z, rfl, rfl, .of hra, rfl, (by rw [List.all_map]; exact List.all_eq_true.mpr fun _ _ => rfl), hz1, ?_, fun m' z' hm hz' => ?_, ?_⟩
        · show eqV (.str z) (.str z) = true
          simp [eqV]
        · rw [List.getElem?_map] at hz'
          cases e : ns[m']? with
          | none =>
            rw [e] at hz'
            cases hz'
          | some y =>
            rw [e] at hz'
            cases hz'
            have hne : y ≠ z := fun c => j2 m' hm (by rw [e, c])
            show eqV (.str y) (.str z) = false
            simp [eqV, hne]
        walk_at "sx"
        rename_i tn ntn
        refine q _ _ (same_upd ntn) ?_
        have hr : ltr (rho ns fl) (.v z) = some (.t "at" [.i (jj : Int)]) := by
          rw [ltr]
          unfold rho
          rw [j3, Nat.zero_add]
        rw [hr]
        exact PtAt.up (k := 2) (PtAt.tup (vs := [.int (jj : Int)]) (.of upd_same) (.one (show PtAt K _ 1 (.int (jj : Int)) (.i (jj : Int)) from rfl))) (by omega)
      · have hz : (look fl z).isSome = true := by
          rcases hok with h | h
          · exact absurd h c1
          · exact h
        have q' := fun v' H' g => q v' H' g
        rw [ltr, rho_out c1] at q
        walk_at "sx"
        refine x_dget2 ?_
        walk_at "sx"
        refine ⟨d, rfl, .inl ⟨_, .inl hd⟩, ?_⟩
        walk_at "sx"
        refine ⟨_, DGet.k (k := Sum.inr z) hd, ?_⟩
        rcases sf.find z with ⟨e1, e2⟩ | ⟨v1, u1, e1, e2, pu⟩
        · rw [e2] at hz
          cases hz
        · rw [e1]
          rw [e2] at q
          walk_at "sx"
          rename_i ld nld
          rcases pu.three with ⟨nn, rfl, rfl⟩ | ⟨zz, rfl, rfl⟩ | ⟨i1, nm, qs, pa, ys, _, rfl, rfl, sp, _⟩
          · refine x_isT (t := .type "int") (c := true) (.base (.int nn)) (kit_ty (by decide +kernel)) ?_
            walk_at "sx"
            exact q _ _ (same_upd nld) (PtAt.up (k := 1) (u := .i nn) rfl (by omega))
          · refine x_isT (t := .type "str") (c := false) (.base (.str zz)) (kit_ty (by decide +kernel)) ?_
            walk_at "sx"
            exact q _ _ (same_upd nld) rfl
          · refine x_isT (t := .type "tuple") (c := false) (ty_tup (sqT_new nld sp)) (kit_ty (by decide +kernel)) ?_
            walk_at "sx"
            exact q _ _ (same_upd nld) rfl
    · obtain rfl : k = i0 := by omega
      obtain ⟨hs, ok1, ok2⟩ := hok
      refine x_isT (t := .type "tuple") (c := true) (ty_tup sp) (kit_ty (by decide +kernel)) ?_
      walk_at "sx"
      refine ⟨x, ra, d, t1, ns, r, fl, j, rfl, h1, ok1, hra, hnl, hd, sf, fun v1 H1 k1 a1 => ?_⟩
      have sp1 := Same.sqT k1 sp
      walk_at "sx"
      refine ⟨y, ra, d, t2, ns, r, fl, j, rfl, h2.same k1, ok2, k1 _ _ hra, hnl, k1 _ _ hd, sf.mono (fun _ _ s => Same.sqT k1 s), fun v2 H2 k2 a2 => ?_⟩
      have sp2 := Same.sqT k2 sp1
      have k12 := k1.trans k2
      walk_at "sx"
      rename_i l3 n3 t4 n4 l5 n5
      have kk : Same H2 (upd (upd (upd H2 l3 (.lst [v1, v2])) t4 (.tup [V.str s, v1, v2])) l5 (.lst [V.ref t4, V.non])) := ((same_upd n3).trans (same_upd n4)).trans (same_upd n5)
      have h5 : (upd (upd (upd H2 l3 (.lst [v1, v2])) t4 (.tup [V.str s, v1, v2])) l5 (.lst [V.ref t4, V.non])) l5 = some (.lst [V.ref t4, V.non]) := upd_same
      have h4 : SqT K (upd (upd (upd H2 l3 (.lst [v1, v2])) t4 (.tup [V.str s, v1, v2])) l5 (.lst [V.ref t4, V.non])) t4 (V.str s :: [v1, v2]) := Same.sqT (same_upd n5) (.of upd_same)
      have h3 : (upd (upd (upd H2 l3 (.lst [v1, v2])) t4 (.tup [V.str s, v1, v2])) l5 (.lst [V.ref t4, V.non])) l3 = some (.lst [v1, v2]) := (same_upd n5) _ _ ((same_upd n4) _ _ upd_same)
      have kall := k12.trans kk
      generalize upd (upd (upd H2 l3 (.lst [v1, v2])) t4 (.tup [V.str s, v1, v2])) l5 (.lst [V.ref t4, V.non]) = G at *
      refine ⟨rfl, ?_⟩
      cases e1 : ltr (rho ns fl) t1 with
      | none =>
        rw [e1] at a1
        obtain rfl : v1 = .non := a1
        have er : ltr (rho ns fl) (.op s t1 t2) = none := by rw [ltr, e1]
        rw [er] at q
        refine ⟨_, rfl, ?_⟩
        walk_at "sx"
        exact q _ _ kall rfl
      | some p1 =>
      rw [e1] at a1
      refine ⟨_, rfl, ?_⟩
      rw [not_non a1]
      walk_at "sx"
      refine ⟨rfl, ?_⟩
      cases e2 : ltr (rho ns fl) t2 with
      | none =>
        rw [e2] at a2
        obtain rfl : v2 = .non := a2
        have er : ltr (rho ns fl) (.op s t1 t2) = none := by rw [ltr, e1, e2]
        rw [er] at q
        walk_at "sx"
        exact q _ _ kall rfl
      | some p2 =>
      rw [e2] at a2
      have er : ltr (rho ns fl) (.op s t1 t2) = some (.t s [p1, p2]) := by rw [ltr, e1, e2]
      rw [er] at q
      rw [not_non a2]
      walk_at "sx"
      exact q _ _ kall (PtAt.tup h4 ((PtsAt.one ((PtAt.same a1 k2).same kk)).append (.one (PtAt.same a2 kk))))
end
end Gs

namespace Gs
open PySem PySem.Spec PyProof.Rows L2 TL
abbrev s_law_joined : Stmt := PySem.Challenge.pw_goalstead_k39_resolved.main.body.getD 35 (.Pass ⟨0, 0, 0, 0⟩)
theorem sc_law_joined : FnScope ["parts", "whole", "part"] ["parts"] (defScope s_law_joined) := ⟨rfl, rfl, rfl, by decide +kernel, rfl, by decide +kernel, by decide +kernel⟩
def spJoined39 (K : PySem.W.Frag) : Sp := fun vs H Q _ => ∃ (a : Addr) (us : List V) (ps : List Pt) (k : Nat), vs = [.ref a] ∧ H a = some (.lst us) ∧ PtsAt K H k us ps ∧ ps ≠ [] ∧ ps.length ≤ 100 ∧
  ∀ v' H', Same H H' → PtAt K H' (k + ps.length) v' (chain ps) → Q v' H'
theorem chain_cons {p : Pt} : ∀ {r : List Pt}, r ≠ [] → chain (p :: r) = .t "and" [p, chain r]
  | [], h => absurd rfl h
  | _ :: _, _ => rfl
section
variable {P : Program} {w : World} {K : PySem.W.Frag} {mg : Str → Option Value} {base : Heap} {f : Addr} {fd : FuncData}
def HasJoined39 (P : Program) (w : World) (K : PySem.W.Frag) (mg : Str → Option Value) (base : Heap) : Prop := Has P w K mg base 1 "_law_joined" ["parts"] (spJoined39 K)
theorem ok_law_joined (F : Fun K "_law_joined" "_law_joined" s_law_joined f fd) (T : Txt mg) : FnOk P w K mg base CX0 1 f fd ["parts"] (spJoined39 K) := by
  refine F.ok sc_law_joined (fun vs H Q E h => ?_) (fun cdv A outer s H vs Q E hr h => ?_)
  · obtain ⟨a, us, ps, k, rfl, _⟩ := h
    rfl
  obtain ⟨a, us, ps, k, rfl, ha, hus, hne, hl, q⟩ := h
  have lus := hus.1
  have hn : 0 < ps.length := List.length_pos_iff.mpr hne
  obtain ⟨ini, v, rfl⟩ : ∃ ini v, us = ini ++ [v] := ⟨us.dropLast, us.getLast (List.ne_nil_of_length_pos (by omega)), (List.dropLast_concat_getLast _).symm⟩
  refine ⟨_, (pss_cons (ps_set (i := 1) sc_law_joined.nd rfl (Or.inl rfl) (pe_ix (ix_listK (K := K)) (pv 0) (pe_un un_neg pe_int) (fun _ _ => rfl)))
    (pss_cons (ps_for PassesOwn.never rfl (pi_list (pe_backL (pv 0))) (pg_name (i := 2) sc_law_joined.nd rfl (.inl rfl))
      (pss_one (ps_set (i := 1) sc_law_joined.nd rfl (Or.inl rfl) (pe_tup (pa_cons pe_str (pa_cons (pv 2) (pa_cons (pv 1) pa_nil)))))))
    (pss_one (ps_ret (pv 1))))), ?_⟩
  walk_at "sx"
  refine x_ixL (.of ha) (atI_last _ _) ?_
  walk_at "sx"
  refine x_backL ?_
  walk_at "sx"
  refine ⟨a, _, rfl, .of ha, fun b nb => ?_⟩
  rw [List.dropLast_concat]
  rw [List.length_append] at lus
  have lus' : ini.length + 1 = ps.length := lus
  obtain ⟨u, hu, pu⟩ := hus.at (i := ini.length) (v := v) (by rw [List.getElem?_append_right (Nat.le_refl _), Nat.sub_self]; rfl)
  refine x_forL (K := K) (a := b) (xs := ini.reverse) (fun i σ' G => ∃ (v' : V) (x : Option V), σ' = [some (.ref a), some v', x] ∧ Same (upd H b (.lst ini.reverse)) G ∧ PtAt K G (k + i) v' (chain (ps.drop (ini.length - i)))) ⟨v, none, rfl, fun _ _ e => e, ?_⟩ ?_ ?_ ?_ (.of upd_same)
  · rw [Nat.sub_zero, List.drop_eq_getElem_cons (by omega), List.drop_of_length_le (by omega)]
    have : ps[ini.length]'(by omega) = u := (List.getElem?_eq_some_iff.mp hu).2
    rw [this]
    exact pu.same (same_upd nb)
  · rintro i σ' G _ ⟨v', x, rfl, kG, hv'⟩
    exact .of (kG _ _ upd_same)
  · rintro i x σ' G hx ⟨v', x0, rfl, kG, hv'⟩
    have hi : i < ini.length := by
      have := (List.getElem?_eq_some_iff.mp hx).1
      rwa [List.length_reverse] at this
    rw [List.getElem?_reverse hi] at hx
    obtain ⟨u2, hu2, pu2⟩ := hus.at (i := ini.length - 1 - i) (v := x) (by rw [List.getElem?_append_left (by omega)]; exact hx)
    walk_at "sx"
    rename_i tn ntn
    refine ⟨_, _, rfl, kG.trans (same_upd ntn), ?_⟩
    have hlt : ini.length - 1 - i < ps.length := by omega
    have e : ps.drop (ini.length - (i + 1)) = u2 :: ps.drop (ini.length - i) := by
      rw [show ini.length - (i + 1) = ini.length - 1 - i from by omega, List.drop_eq_getElem_cons hlt, (List.getElem?_eq_some_iff.mp hu2).2, show ini.length - 1 - i + 1 = ini.length - i from by omega]
    rw [e, chain_cons (by
      intro c
      have := congrArg List.length c
      rw [List.length_drop] at this
      simp at this
      omega)]
    have k1 : Same H G := (same_upd nb).trans kG
    exact PtAt.tup (vs := [x, v']) (.of upd_same) ((PtsAt.one (((pu2.same k1).same (same_upd ntn)).up (Nat.le_add_right k i))).append (.one (hv'.same (same_upd ntn))))
  · rintro σ' G ⟨v', x, rfl, kG, hv'⟩
    rw [List.length_reverse, Nat.sub_self, List.drop_zero] at hv'
    walk_at "sx"
    exact q v' G ((same_upd nb).trans kG) (hv'.up (by omega))
end
end Gs

namespace Gs
open PySem PySem.Spec PyProof.Rows L2 TL
abbrev s_law_due : Stmt := PySem.Challenge.pw_goalstead_k39_resolved.main.body.getD 38 (.Pass ⟨0, 0, 0, 0⟩)
theorem sc_law_due : FnScope ["ranges", "tests", "ranged", "filling", "row", "one", "total", "worth", "box", "many", "pair", "trees", "test", "sides", "k"] ["ranges", "tests", "ranged", "filling"] (defScope s_law_due) := ⟨rfl, rfl, rfl, by decide +kernel, rfl, by decide +kernel, by decide +kernel⟩
def resD : RR → PyData
  | .opn => .tuple [.str "open"]
  | .non => .tuple [.str "told", .none]
  | .tup bx us => .tuple [.str "told", .tuple [boxD bx, .tuple (us.map ptD)]]
def spLDue39 (K : PySem.W.Frag) : Sp := fun vs H Q _ => ∃ (a b c d : Addr) (us ws : List V) (rs ts : List Rg) (r : List (Key × V)) (f : Fl) (j : Nat), vs = [.ref a, .ref b, .ref c, .ref d] ∧ H a = some (.lst us) ∧ PtsAt K H 12 us (rs.map rgP) ∧ H b = some (.lst ws) ∧ PtsAt K H 12 ws (ts.map tsP) ∧ H c = some (.lst ((rs.map (·.1)).map V.str)) ∧ rs.length ≤ 10 ∧ ts.length ≤ 100 ∧
  (∀ e ∈ rs, e.2.1.Ok (fun z => (look f z).isSome = true) ∧ e.2.2.Ok (fun z => (look f z).isSome = true) ∧ e.2.1.wt ≤ 4000 ∧ e.2.2.wt ≤ 4000) ∧
  (∀ e ∈ ts, e.2.1.Ok (fun z => z ∈ rs.map (·.1) ∨ (look f z).isSome = true) ∧ e.2.2.Ok (fun z => z ∈ rs.map (·.1) ∨ (look f z).isSome = true)) ∧ H d = some (.dK r) ∧ StAt K H j r f ∧ NumLt f ∧
  ∀ v' H', Same H H' → Dp K H' v' (resD (resP f rs ts)) → Q v' H'
theorem flat_more {es : List (Option Int × Option Int)} {i : Nat} {e : Option Int × Option Int} (he : es[i]? = some e) : flatE (es.take (i + 1)) = flatE (es.take i) ++ [e.1, e.2] := by
  unfold flatE
  rw [take_more he, List.flatMap_append]
  simp
theorem flat_split {es : List (Option Int × Option Int)} {i : Nat} {e : Option Int × Option Int} (he : es[i]? = some e) : flatE es = flatE (es.take i) ++ ([e.1, e.2] ++ flatE (es.drop (i + 1))) := by
  have h1 : es = es.take i ++ e :: es.drop (i + 1) := by
    obtain ⟨hi, rfl⟩ := List.getElem?_eq_some_iff.mp he
    rw [← List.drop_eq_getElem_cons hi, List.take_append_drop]
  conv => lhs; rw [h1]
  unfold flatE
  rw [List.flatMap_append, List.flatMap_cons]
theorem flat_len : ∀ (es : List (Option Int × Option Int)), (flatE es).length = 2 * es.length
  | [] => rfl
  | e :: r => by
    show ([e.1, e.2] ++ flatE r).length = _
    simp only [List.length_append, List.length_cons, List.length_nil, flat_len r]
    omega
theorem flat_at : ∀ {es : List (Option Int × Option Int)} {i : Nat} {e : Option Int × Option Int}, es[i]? = some e → (flatE es)[2 * i]? = some e.1 ∧ (flatE es)[2 * i + 1]? = some e.2
  | [], _, _, h => by cases h
  | x :: r, 0, e, h => by
    cases h
    exact ⟨rfl, rfl⟩
  | x :: r, i + 1, e, h => by
    have := flat_at (es := r) h
    have e0 : flatE (x :: r) = x.1 :: x.2 :: flatE r := rfl
    rw [e0, show 2 * (i + 1) = 2 * i + 1 + 1 from by omega]
    exact this
theorem lts_snoc {ρ : Str → Option Pt} {e : Rg} {t : Pt} : ∀ {es : List Rg} {tr : List Pt}, lts ρ es = some tr → ltt ρ e = some t → lts ρ (es ++ [e]) = some (tr ++ [t])
  | [], tr, h, ht => by
    cases h
    rw [List.nil_append, lts, ht]
    rfl
  | x :: r, tr, h, ht => by
    rw [lts] at h
    cases c1 : ltt ρ x with
    | none =>
      rw [c1] at h
      cases h
    | some a =>
      cases c2 : lts ρ r with
      | none =>
        rw [c1, c2] at h
        cases h
      | some b =>
        rw [c1, c2] at h
        cases h
        rw [List.cons_append, lts, c1, lts_snoc c2 ht]
        rfl
theorem lts_bad {ρ : Str → Option Pt} {e : Rg} : ∀ {es : List Rg}, e ∈ es → ltt ρ e = none → lts ρ es = none
  | x :: r, h, ht => by
    rw [lts]
    rcases List.mem_cons.mp h with rfl | h
    · rw [ht]
    · rw [lts_bad h ht]
      cases ltt ρ x <;> rfl
theorem many_pos0 : ∀ (bx : List (Int × Int)), 0 ≤ many bx
  | [] => by decide
  | e :: r => by
    rw [many]
    exact Int.mul_nonneg (by omega) (many_pos0 r)
section
variable {P : Program} {w : World} {K : PySem.W.Frag} {mg : Str → Option Value} {base : Heap} {f : Addr} {fd : FuncData}
def HasLDue39 (P : Program) (w : World) (K : PySem.W.Frag) (mg : Str → Option Value) (base : Heap) : Prop := Has P w K mg base 13 "_law_due" ["ranges", "tests", "ranged", "filling"] (spLDue39 K)
set_option maxHeartbeats 2000000 in
theorem ok_law_due (F : Fun K "_law_due" "_law_due" s_law_due f fd) (T : Txt mg) (C_law_worth : HasLWorth 10 P w K mg base) (C_law_tree : HasLTree 11 P w K mg base) : FnOk P w K mg base CX0 13 f fd ["ranges", "tests", "ranged", "filling"] (spLDue39 K) := by
  refine F.ok sc_law_due (fun vs H Q E h => ?_) (fun cdv A outer s H vs Q E hr h => ?_)
  · obtain ⟨a, b, c, d, us, ws, rs, ts, r, fl, j, rfl, _⟩ := h
    rfl
  obtain ⟨a, b, c, d, us, ws, rs, ts, r, fl, j, rfl, ha, hus, hb, hws, hcc, hl1, hl2, hrs, hts, hd, sf, hf, q⟩ := h
  have lus := hus.1
  have lws := hws.1
  rw [List.length_map] at lus lws
  have tNone : ∀ (G : Hp) (p : Addr), Same H G → resP fl rs ts = .non → G p = none → Q (.ref p) (upd G p (.tup [V.str "told", .non])) := fun G p kG e np => q _ _ (kG.trans (same_upd np)) (by rw [e]; exact .tup (.of upd_same) (.cons (.str _) (.cons .non .nil)))
  have tOpen : ∀ (G : Hp) (p : Addr), Same H G → resP fl rs ts = .opn → G p = none → Q (.ref p) (upd G p (.tup [V.str "open"])) := fun G p kG e np => q _ _ (kG.trans (same_upd np)) (by rw [e]; exact .tup (.of upd_same) (.cons (.str _) .nil))
  have rNone : ∀ {x : BR}, boxOf (ends3 fl rs) = x → x = .non → resP fl rs ts = .non := fun h e => by unfold resP; rw [h, e]
  have rOpen : ∀ {x : BR}, boxOf (ends3 fl rs) = x → x = .opn → resP fl rs ts = .opn := fun h e => by unfold resP; rw [h, e]
  refine ⟨_, (pss_cons (ps_set (i := 4) sc_law_due.nd rfl (Or.inr rfl) (pe_lst pa_nil))
    (Evl.pss_cut (ps_for PassesOwn.never rfl (pi_list (pv 0)) (pg_name (i := 5) sc_law_due.nd rfl (.inl rfl))
      (pss_one (ps_for PassesOwn.never rfl (pi_tup (pe_slice (sl_tupAK (K := K)) (pe_ix (ix_tupK (K := K)) (pv 5) pe_int (fun _ _ => rfl)) (po_some pe_int) po_none)) (pg_name (i := 6) sc_law_due.nd rfl (.inl rfl))
      (pss_cons (ps_set (i := 7) sc_law_due.nd rfl (Or.inl rfl) (pe_callH C_law_worth hr (pa_cons (pv 6) (pa_cons (pv 3) pa_nil))))
    (pss_cons (ps_if (pt_cmpR op_isN (pv 7) pe_non (nomark _))
      (pss_one (ps_ret (pe_tup (pa_cons pe_str (pa_cons pe_non pa_nil)))))
      pss_nil)
    (pss_cons (ps_if (pt_cmpR op_ge (pe_callB call_abs (by rfl) T.z_abs (by decide +kernel) (pa_cons (pv 7) pa_nil)) (pe_op op_pow pe_int pe_int) (nomark _))
      (pss_one (ps_ret (pe_tup (pa_cons pe_str pa_nil))))
      pss_nil)
    (pss_one (ps_expr (pe_bm PySem.F.plainAttrs_list PySem.F.slot_list_append PySem.F.type_list_append mt_append (pv 4) (pa_cons (pv 7) pa_nil))))))))))
    (pss_cons (ps_setLc (i := 8) (own := [("k", 14)]) (g := gName 14) (tt := tYes) rfl sc_law_due.nd rfl rfl (sw_true rfl rfl rfl (by decide +kernel)) (pi_range1 (by rfl) T.z_range (pa_cons (pe_callB (call_lenK (K := K)) (by rfl) T.z_len (by decide +kernel) (pa_cons (pv 0) pa_nil)) pa_nil)) (blkOk_by (own := [("k", 14)]) (N := ["ranges", "tests", "ranged", "filling", "row", "one", "total", "worth", "box", "many", "pair", "trees", "test", "sides", "k"]) (sc := defScope s_law_due) (by decide +kernel)) (fun _ _ _ _ _ => pg_name (i := 14) sc_law_due.nd rfl (Or.inl rfl)) (fun _ _ _ _ _ => pts_nil) (fun _ _ _ _ _ => (pe_tup (pa_cons (pe_ix (ix_listK (K := K)) (pv 4) (pe_op op_mulW pe_int (pv 14)) (fun _ _ => rfl)) (pa_cons (pe_ix (ix_listK (K := K)) (pv 4) (pe_op op_add (pe_op op_mulW pe_int (pv 14)) pe_int) (fun _ _ => rfl)) pa_nil)))))
    (Evl.pss_cut (ps_set (i := 9) sc_law_due.nd rfl (Or.inl rfl) pe_int)
    (pss_cons (ps_for PassesOwn.never rfl (pi_list (pv 8)) (pg_name (i := 10) sc_law_due.nd rfl (.inl rfl))
      (pss_one (ps_set (i := 9) sc_law_due.nd rfl (Or.inl rfl) (pe_op op_mulW (pv 9) (pe_callB (call_max2 rfl) (by rfl) T.z_max (by decide +kernel) (pa_cons pe_int (pa_cons (pe_op op_add (pe_op op_sub (pe_ix (ix_tupK (K := K)) (pv 10) pe_int (fun _ _ => rfl)) (pe_ix (ix_tupK (K := K)) (pv 10) pe_int (fun _ _ => rfl))) pe_int) pa_nil)))))))
    (Evl.pss_cut (ps_if (pt_cmpR op_eq (pv 9) pe_int (nomark _))
      (pss_one (ps_ret (pe_tup (pa_cons pe_str (pa_cons pe_non pa_nil)))))
      pss_nil)
    (pss_cons (ps_if (pt_cmpR op_gt (pv 9) pe_int (nomark _))
      (pss_one (ps_ret (pe_tup (pa_cons pe_str pa_nil))))
      pss_nil)
    (pss_cons (ps_set (i := 11) sc_law_due.nd rfl (Or.inl rfl) (pe_lst pa_nil))
    (Evl.pss_cut (ps_for PassesOwn.never rfl (pi_list (pv 1)) (pg_name (i := 12) sc_law_due.nd rfl (.inl rfl))
      (pss_cons (ps_set (i := 13) sc_law_due.nd rfl (Or.inl rfl) (pe_lst (pa_cons (pe_callH C_law_tree hr (pa_cons (pe_ix (ix_tupK (K := K)) (pv 12) pe_int (fun _ _ => rfl)) (pa_cons (pv 2) (pa_cons (pv 3) pa_nil)))) (pa_cons (pe_callH C_law_tree hr (pa_cons (pe_ix (ix_tupK (K := K)) (pv 12) pe_int (fun _ _ => rfl)) (pa_cons (pv 2) (pa_cons (pv 3) pa_nil)))) pa_nil))))
    (pss_cons (ps_if (PW.pt (pw_or (pt_cmpR op_isN (pe_ix (ix_listK (K := K)) (pv 13) pe_int (fun _ _ => rfl)) pe_non (nomark _)) (pw_or1 (pt_cmpR op_isN (pe_ix (ix_listK (K := K)) (pv 13) pe_int (fun _ _ => rfl)) pe_non (nomark _)))))
      (pss_one (ps_ret (pe_tup (pa_cons pe_str (pa_cons pe_non pa_nil)))))
      pss_nil)
    (pss_one (ps_expr (pe_bm PySem.F.plainAttrs_list PySem.F.slot_list_append PySem.F.type_list_append mt_append (pv 11) (pa_cons (pe_tup (pa_cons (pe_ix (ix_tupK (K := K)) (pv 12) pe_int (fun _ _ => rfl)) (pa_cons (pe_ix (ix_listK (K := K)) (pv 13) pe_int (fun _ _ => rfl)) (pa_cons (pe_ix (ix_listK (K := K)) (pv 13) pe_int (fun _ _ => rfl)) pa_nil)))) pa_nil)))))))
    (pss_one (ps_ret (pe_tup (pa_cons pe_str (pa_cons (pe_tup (pa_cons (pe_callTy call_tuple_of (by rfl) T.z_tuple (by decide +kernel) (pa_cons (pv 8) pa_nil)) (pa_cons (pe_callTy call_tuple_of (by rfl) T.z_tuple (by decide +kernel) (pa_cons (pv 11) pa_nil)) pa_nil))) pa_nil)))))))))))))), ?_⟩
  walk_at "sx"
  rename_i row nrow
  have krow : Same H (upd H row (.lst [])) := same_upd nrow
  have ha0 := krow _ _ ha
  refine x_cut (M := fun σ' G => ∃ (x5 x6 x7 : Option V), σ' = [some (.ref a), some (.ref b), some (.ref c), some (.ref d), some (.ref row), x5, x6, x7, none, none, none, none, none, none, none] ∧ Same H G ∧ scan (flatE (ends3 fl rs)) = none ∧ G row = some (.lst ((flatE (ends3 fl rs)).map optV))) ?_ ?_
  · walk_at "sx"
    refine x_forL (K := K) (a := a) (xs := us) (fun i σ' G => ∃ (x5 x6 x7 : Option V), σ' = [some (.ref a), some (.ref b), some (.ref c), some (.ref d), some (.ref row), x5, x6, x7, none, none, none, none, none, none, none] ∧ Same H G ∧ scan (flatE ((ends3 fl rs).take i)) = none ∧ G row = some (.lst ((flatE ((ends3 fl rs).take i)).map optV))) ⟨none, none, none, rfl, krow, rfl, upd_same⟩ ?_ ?_ ?_ (.of ha0)
    · rintro i σ' G _ ⟨x5, x6, x7, rfl, kG, hsc, hrow⟩
      exact .of (kG _ _ ha)
    · rintro i v σ' G hv ⟨x5, x6, x7, rfl, kG, hsc, hrow⟩
      obtain ⟨u, hu, pu⟩ := hus.at hv
      rw [List.getElem?_map] at hu
      cases he : rs[i]? with
      | none =>
        rw [he] at hu
        cases hu
      | some e =>
      rw [he] at hu
      cases hu
      have hi : i < rs.length := (List.getElem?_eq_some_iff.mp he).1
      obtain ⟨o1, o2, w1, w2⟩ := hrs e (List.mem_of_getElem? he)
      have hes : (ends3 fl rs)[i]? = some (wo fl e.2.1, wo fl e.2.2) := by
        unfold ends3
        rw [List.getElem?_map, he]
        rfl
      have hsp := flat_split hes
      rcases (pu.same kG).three with ⟨_, _, e'⟩ | ⟨_, _, e'⟩ | ⟨i0, nm', qs, p, ys, hk, rfl, e', sp, pq⟩
      · cases e'
      · cases e'
      cases e'
      match ys, pq with
      | [x1, y1], pq =>
      rcases (pq.2 1 y1 _ rfl rfl).three with ⟨_, _, e'⟩ | ⟨_, _, e'⟩ | ⟨i1, nm'', qs, p2, us2, hk2, rfl, e', sp2, pq2⟩
      · cases e'
      · cases e'
      cases e'
      match us2, pq2 with
      | [x2, y2], pq2 =>
      walk_at "sx"
      refine x_slA sp2 fun r1 G1 g1 sr => ?_
      rw [cut_tail] at sr
      have p20 := (pq2.2 0 x2 _ rfl rfl).same g1
      have p21 := (pq2.2 1 y2 _ rfl rfl).same g1
      have kG1 := kG.trans g1
      have hrow1 := g1 _ _ hrow
      refine x_forT (K := K) (a := r1) (xs := [x2, y2]) (fun i2 σ' G' => ∃ (x6 x7 : Option V), σ' = [some (.ref a), some (.ref b), some (.ref c), some (.ref d), some (.ref row), some (.ref p), x6, x7, none, none, none, none, none, none, none] ∧ (∀ a xs, SqT K G1 a xs → SqT K G' a xs) ∧ Same H G' ∧ scan (flatE ((ends3 fl rs).take i) ++ [wo fl e.2.1, wo fl e.2.2].take i2) = none ∧ G' row = some (.lst ((flatE ((ends3 fl rs).take i) ++ [wo fl e.2.1, wo fl e.2.2].take i2).map optV))) ⟨x6, x7, rfl, fun _ _ s => s, kG1, by rw [List.take_zero, List.append_nil]; exact hsc, by rw [List.take_zero, List.append_nil]; exact hrow1⟩ ?_ ?_ ?_ sr
      · rintro i2 σ' G' _ ⟨x6, x7, rfl, mo, _⟩
        exact mo _ _ sr
      · rintro i2 xx σ' G' hx2 ⟨x6, x7, rfl, mo, kH, hs2, hr2⟩
        obtain ⟨t, o, rest, pt, ot, wt, eo, s1, s2⟩ : ∃ (t : Sm) (o : Option Int) (rest : List (Option Int)), PtAt K G' 10 xx t.pt ∧ t.Ok (fun z => (look fl z).isSome = true) ∧ t.wt ≤ 4000 ∧ wo fl t = o ∧ flatE (ends3 fl rs) = flatE ((ends3 fl rs).take i) ++ [wo fl e.2.1, wo fl e.2.2].take i2 ++ [o] ++ rest ∧ (flatE ((ends3 fl rs).take i) ++ [wo fl e.2.1, wo fl e.2.2].take i2 ++ [o] = flatE ((ends3 fl rs).take i) ++ [wo fl e.2.1, wo fl e.2.2].take (i2 + 1)) := by
          match i2, hx2 with
          | 0, hx2 =>
            cases hx2
            exact ⟨e.2.1, wo fl e.2.1, wo fl e.2.2 :: flatE ((ends3 fl rs).drop (i + 1)), (p20.mono mo).up (by omega), o1, w1, rfl, by rw [hsp]; simp, by simp⟩
          | 1, hx2 =>
            cases hx2
            exact ⟨e.2.2, wo fl e.2.2, flatE ((ends3 fl rs).drop (i + 1)), (p21.mono mo).up (by omega), o2, w2, rfl, by rw [hsp]; simp, by simp⟩
        walk_at "sx"
        refine ⟨xx, d, t, r, fl, j, rfl, pt, ot, wt, kH _ _ hd, sf.mono (fun _ _ s => Same.sqT kH s), hf, fun G2 k2 => ?_⟩
        have kH2 := kH.trans k2
        have hr3 := k2 _ _ hr2
        rw [eo]
        walk_at "sx"
        cases o with
        | none =>
          refine ⟨rfl, ?_⟩
          walk_at "sx"
          rename_i tp ntp
          refine tNone _ tp kH2 (rNone (x := .non) ?_ rfl) ntp
          unfold boxOf
          rw [s1, List.append_assoc, scan_append, hs2]
          rfl
        | some x =>
          refine ⟨rfl, ?_⟩
          walk_at "sx"
          refine ⟨x, rfl, ?_⟩
          walk_at "sx"
          rw [show ((10 : Int) ^ Int.toNat 60) = 10 ^ 60 from rfl]
          refine x_ite (fun cx => ?_) (fun cx => ?_)
          · walk_at "sx"
            rename_i tp ntp
            refine tOpen _ tp kH2 (rOpen (x := .opn) ?_ rfl) ntp
            have hx : 10 ^ 60 ≤ x.natAbs := by split at cx <;> omega
            have e3 : scan ([some x] ++ rest) = some .opn := by
              show (if 10 ^ 60 ≤ x.natAbs then some BR.opn else scan ([] ++ rest)) = _
              rw [if_pos hx]
            unfold boxOf
            rw [s1, List.append_assoc, scan_append, hs2, e3]
            rfl
          · have hx : ¬ 10 ^ 60 ≤ x.natAbs := by split at cx <;> omega
            have hlen : (flatE ((ends3 fl rs).take i) ++ [wo fl e.2.1, wo fl e.2.2].take i2).length ≤ 100 := by
              have h1 := flat_len ((ends3 fl rs).take i)
              rw [List.length_take] at h1
              rw [List.length_append, List.length_take]
              have : [wo fl e.2.1, wo fl e.2.2].length = 2 := rfl
              omega
            walk_at "sx"
            refine x_app hr3 (szl (by rw [List.length_map]; omega)) ?_
            walk_at "sx"
            refine ⟨_, _, rfl, fun _ _ s => sqT_lst hr3 (Same.sqT k2 (mo _ _ s)), same_updf kH2 nrow, ?_, ?_⟩
            · rw [← s2, scan_append, hs2]
              show (if 10 ^ 60 ≤ x.natAbs then some BR.opn else scan []) = none
              rw [if_neg hx]
              rfl
            · have e5 : (flatE ((ends3 fl rs).take i) ++ [wo fl e.2.1, wo fl e.2.2].take (i2 + 1)).map optV = (flatE ((ends3 fl rs).take i) ++ [wo fl e.2.1, wo fl e.2.2].take i2).map optV ++ [V.int x] := by
                rw [← s2, List.map_append]
                rfl
              rw [e5]
              exact upd_same
      · rintro σ' G' ⟨x6, x7, rfl, mo, kH, hs2, hr2⟩
        exact ⟨_, _, _, rfl, kH, by rw [flat_more hes]; exact hs2, by rw [flat_more hes]; exact hr2⟩
    · rintro σ' G ⟨x5, x6, x7, rfl, kG, hsc, hrow⟩
      have len3 : (ends3 fl rs).length = us.length := by
        unfold ends3
        rw [List.length_map, lus]
      rw [← len3, List.take_length] at hsc hrow
      exact ⟨x5, x6, x7, rfl, kG, hsc, hrow⟩
  · rintro σ' G ⟨x5, x6, x7, rfl, kG, hsc, hrow⟩
    obtain ⟨bo, all⟩ := scan_none hsc
    have len3 : (ends3 fl rs).length = rs.length := by
      unfold ends3
      rw [List.length_map]
    have lenB : (boxE (ends3 fl rs)).length = rs.length := by
      unfold boxE
      rw [List.length_map, len3]
    have eb : boxOf (ends3 fl rs) = if 400 < many (boxE (ends3 fl rs)) then .opn else if 0 < many (boxE (ends3 fl rs)) then .box (boxE (ends3 fl rs)) else .non := by
      unfold boxOf
      rw [hsc]
    have haG := kG _ _ ha
    have hbG := kG _ _ hb
    walk_at "sx"
    refine x_lcR1 (n := (us.length : Int)) (fun D i G' => ∃ (zs : List V), G' D = some (.lst zs) ∧ AllAt (PairAt K G') zs ((boxE (ends3 fl rs)).take i) ∧ Same G G') (by omega) (by omega) (fun D hD => ⟨[], upd_same, .nil, same_upd hD⟩) ?_ ?_
    · rintro D hD i G' hi ⟨zs, e1, e2, kGG⟩
      have hi' : i < (ends3 fl rs).length := by omega
      obtain ⟨e, he⟩ : ∃ e, (ends3 fl rs)[i]? = some e := ⟨_, List.getElem?_eq_getElem hi'⟩
      obtain ⟨x, y, rfl⟩ := all e (List.mem_of_getElem? he)
      obtain ⟨f1, f2⟩ := flat_at he
      have g1 : ((flatE (ends3 fl rs)).map optV)[2 * i]? = some (V.int x) := by rw [List.getElem?_map, f1]; rfl
      have g2 : ((flatE (ends3 fl rs)).map optV)[2 * i + 1]? = some (V.int y) := by rw [List.getElem?_map, f2]; rfl
      have hrow' := kGG _ _ hrow
      have m2 : CMulW 2 (i : Int) := cmulW (by decide) (by omega)
      have lz := e2.1
      rw [List.length_take] at lz
      walk_at "sx"
      refine ⟨rfl, ?_⟩
      walk_at "sx"
      rw [show (2 : Int) * (i : Int) = ((2 * i : Nat) : Int) from by omega]
      refine x_ixL (.of hrow') (atI_nat g1) ?_
      walk_at "sx"
      rw [show (2 : Int) * (i : Int) + 1 = ((2 * i + 1 : Nat) : Int) from by omega]
      refine x_ixL (.of hrow') (atI_nat g2) ?_
      walk_at "sx"
      rename_i tn ntn
      have kn : Same G' (upd G' tn (.tup [V.int x, .int y])) := same_upd ntn
      have e1' := kn _ _ e1
      refine ⟨zs, e1', szl (by omega), zs ++ [.ref tn], upd_same, ?_, same_updf (kGG.trans kn) hD⟩
      have hbx : (boxE (ends3 fl rs))[i]? = some (x, y) := by
        unfold boxE
        rw [List.getElem?_map, he]
        rfl
      rw [take_more hbx]
      exact (e2.mono fun v a h => (h.mono fun _ _ s => sqT_lst e1' (Same.sqT kn s))).append (.one ⟨tn, rfl, sqT_lst e1' (.of upd_same)⟩)
    · rintro D hD G' ⟨zs, e1, e2, kGG⟩
      rw [show (us.length : Int).toNat = (boxE (ends3 fl rs)).length from by omega, List.take_length] at e2
      have kG' := kG.trans kGG
      walk_at "sx"
      refine x_cut (M := fun σ' G2 => σ' = [some (.ref a), some (.ref b), some (.ref c), some (.ref d), some (.ref row), x5, x6, x7, some (.ref D), some (.int 1), none, none, none, none, none] ∧ G2 = G') ?_ ?_
      · walk_at "sx"
        exact ⟨rfl, rfl⟩
      rintro σ' G2 ⟨rfl, rfl⟩
      walk_at "sx"
      refine x_forL (K := K) (a := D) (xs := zs) (fun i σ' G3 => ∃ (x10 : Option V), σ' = [some (.ref a), some (.ref b), some (.ref c), some (.ref d), some (.ref row), x5, x6, x7, some (.ref D), some (.int (many ((boxE (ends3 fl rs)).take i))), x10, none, none, none, none] ∧ G3 = G2) ⟨none, rfl, rfl⟩ (fun i σ' G3 _ h => by obtain ⟨_, _, rfl⟩ := h; exact .of e1) ?_ ?_ (.of e1)
      · rintro i v σ' G3 hv ⟨x10, rfl, rfl⟩
        obtain ⟨e, he, pr, rfl, spr⟩ := e2.atv hv
        have hi : i < (boxE (ends3 fl rs)).length := (List.getElem?_eq_some_iff.mp he).1
        have hlt := many_lt (bx := (boxE (ends3 fl rs)).take i) fun z hz => bo z (List.mem_of_mem_take hz)
        have hmul : CMulW (many ((boxE (ends3 fl rs)).take i)) (if e.2 - e.1 + 1 > 0 then e.2 - e.1 + 1 else 0) := by
          refine wide_mul hlt (b := 202) ?_ (by omega) (by decide) (by rw [List.length_take]; omega)
          have := max_lt (bo e (List.mem_of_getElem? he))
          split
          · next c => rw [Int.max_eq_right (by omega)] at this; exact this
          · decide
        walk_at "sx"
        refine x_ii ?_
        walk_at "sx"
        refine ⟨some (.ref pr), ?_, rfl⟩
        rw [many_take he]
        have e22 : (if e.2 - e.1 + 1 > 0 then e.2 - e.1 + 1 else 0) = max 0 (e.2 - e.1 + 1) := by split <;> omega
        rw [← e22]
        rfl
      · rintro σ' G3 ⟨x10, rfl, rfl⟩
        rw [e2.1, List.take_length]
        have mpos : 0 ≤ many (boxE (ends3 fl rs)) := many_pos0 _
        refine x_cut (M := fun σ' G4 => σ' = [some (.ref a), some (.ref b), some (.ref c), some (.ref d), some (.ref row), x5, x6, x7, some (.ref D), some (.int (many (boxE (ends3 fl rs)))), x10, none, none, none, none] ∧ G4 = G3 ∧ 0 < many (boxE (ends3 fl rs))) ?_ ?_
        · walk_at "sx"
          refine x_ite (fun c => ?_) (fun c => ?_)
          · have c' : many (boxE (ends3 fl rs)) = 0 := V.int.inj c
            walk_at "sx"
            rename_i tp ntp
            exact tNone _ tp kG' (rNone eb (by rw [if_neg (by omega), if_neg (by omega)])) ntp
          · have c' : many (boxE (ends3 fl rs)) ≠ 0 := fun h => c (congrArg V.int h)
            walk_at "sx"
            exact ⟨rfl, rfl, by omega⟩
        rintro σ' G4 ⟨rfl, rfl, mp⟩
        walk_at "sx"
        refine x_ite (fun c4 => ?_) (fun c4 => ?_)
        · walk_at "sx"
          rename_i tp ntp
          exact tOpen _ tp kG' (rOpen eb (by rw [if_pos c4])) ntp
        have eb2 : boxOf (ends3 fl rs) = .box (boxE (ends3 fl rs)) := by rw [eb, if_neg c4, if_pos mp]
        walk_at "sx"
        rename_i tl0 ntl
        have kT : Same G4 (upd G4 tl0 (.lst [])) := same_upd ntl
        have kH := kG'.trans kT
        have htl : H tl0 = none := kG'.free ntl
        have noneR : lts (rho (rs.map (·.1)) fl) ts = none → resP fl rs ts = .non := fun h => by
          unfold resP
          rw [eb2]
          show (match lts _ ts with | some us => RR.tup _ us | none => RR.non) = _
          rw [h]
        refine x_cut (M := fun σ' G5 => ∃ (x12 x13 : Option V) (zs' : List V) (tr : List Pt), σ' = [some (.ref a), some (.ref b), some (.ref c), some (.ref d), some (.ref row), x5, x6, x7, some (.ref D), some (.int (many (boxE (ends3 fl rs)))), x10, some (.ref tl0), x12, x13, none] ∧ Same G4 G5 ∧ G5 tl0 = some (.lst zs') ∧ lts (rho (rs.map (·.1)) fl) ts = some tr ∧ PtsAt K G5 13 zs' tr) ?_ ?_
        · walk_at "sx"
          refine x_forL (K := K) (a := b) (xs := ws) (fun i σ' G5 => ∃ (x12 x13 : Option V) (zs' : List V) (tr : List Pt), σ' = [some (.ref a), some (.ref b), some (.ref c), some (.ref d), some (.ref row), x5, x6, x7, some (.ref D), some (.int (many (boxE (ends3 fl rs)))), x10, some (.ref tl0), x12, x13, none] ∧ Same G4 G5 ∧ G5 tl0 = some (.lst zs') ∧ lts (rho (rs.map (·.1)) fl) (ts.take i) = some tr ∧ PtsAt K G5 13 zs' tr ∧ zs'.length ≤ i) ⟨none, none, [], [], rfl, kT, upd_same, rfl, .nil, Nat.le_refl _⟩ ?_ ?_ ?_ (.of (kH _ _ hb))
          · rintro i σ' G5 _ ⟨x12, x13, zs', tr, rfl, k45, _⟩
            exact .of (k45 _ _ (kG' _ _ hb))
          · rintro i v σ' G5 hv ⟨x12, x13, zs', tr, rfl, k45, h5, hlt, pts, hzl⟩
            obtain ⟨u, hu, pu⟩ := hws.at hv
            rw [List.getElem?_map] at hu
            cases he : ts[i]? with
            | none =>
              rw [he] at hu
              cases hu
            | some e =>
            rw [he] at hu
            cases hu
            have hem := List.mem_of_getElem? he
            have hi : i < ts.length := (List.getElem?_eq_some_iff.mp he).1
            obtain ⟨o1, o2⟩ := hts e hem
            have kH5 := kG'.trans k45
            rcases (pu.same kH5).three with ⟨_, _, e'⟩ | ⟨_, _, e'⟩ | ⟨i0, nm', qs, p, ys, hk, rfl, e', sp, pq⟩
            · cases e'
            · cases e'
            cases e'
            match ys, pq with
            | [x1, y1], pq =>
            walk_at "sx"
            refine ⟨x1, c, d, e.2.1, rs.map (·.1), r, fl, j, rfl, (pq.2 0 x1 _ rfl rfl).up (by omega), o1, kH5 _ _ hcc, by rw [List.length_map]; omega, kH5 _ _ hd, sf.mono (fun _ _ s => Same.sqT kH5 s), fun v1 H1 k1 a1 => ?_⟩
            have sp1 := Same.sqT k1 sp
            have kH6 := kH5.trans k1
            walk_at "sx"
            refine ⟨y1, c, d, e.2.2, rs.map (·.1), r, fl, j, rfl, ((pq.2 1 y1 _ rfl rfl).same k1).up (by omega), o2, kH6 _ _ hcc, by rw [List.length_map]; omega, kH6 _ _ hd, sf.mono (fun _ _ s => Same.sqT kH6 s), fun v2 H2 k2 a2 => ?_⟩
            have kH7 := kH6.trans k2
            have sp2 := Same.sqT k2 sp1
            walk_at "sx"
            rename_i l3 n3
            have k3 : Same H2 (upd H2 l3 (.lst [v1, v2])) := same_upd n3
            have h3 : (upd H2 l3 (.lst [v1, v2])) l3 = some (.lst [v1, v2]) := upd_same
            have sp3 := Same.sqT k3 sp2
            have kH8 := kH7.trans k3
            have k48 : Same G4 (upd H2 l3 (.lst [v1, v2])) := ((k45.trans k1).trans k2).trans k3
            have h58 := k3 _ _ (k2 _ _ (k1 _ _ h5))
            have pts8 := ((pts.same k1).same k2).same k3
            generalize upd H2 l3 (.lst [v1, v2]) = G8 at *
            refine ⟨rfl, ?_⟩
            cases e1' : ltr (rho (rs.map (·.1)) fl) e.2.1 with
            | none =>
              rw [e1'] at a1
              obtain rfl : v1 = .non := a1
              have hb9 : ltt (rho (rs.map (·.1)) fl) e = none := by unfold ltt; rw [e1']
              walk_at "sx"
              rename_i tp ntp
              exact tNone _ tp kH8 (noneR (lts_bad hem hb9)) ntp
            | some p1 =>
            rw [e1'] at a1
            rw [not_non a1]
            walk_at "sx"
            refine ⟨rfl, ?_⟩
            cases e2' : ltr (rho (rs.map (·.1)) fl) e.2.2 with
            | none =>
              rw [e2'] at a2
              obtain rfl : v2 = .non := a2
              have hb9 : ltt (rho (rs.map (·.1)) fl) e = none := by unfold ltt; rw [e1', e2']
              walk_at "sx"
              rename_i tp ntp
              exact tNone _ tp kH8 (noneR (lts_bad hem hb9)) ntp
            | some p2 =>
            rw [e2'] at a2
            rw [not_non a2]
            have hb9 : ltt (rho (rs.map (·.1)) fl) e = some (.t e.1 [p1, p2]) := by unfold ltt; rw [e1', e2']
            walk_at "sx"
            rename_i tn ntn
            have k9 : Same G8 (upd G8 tn (.tup [V.str e.1, v1, v2])) := same_upd ntn
            have h9 := k9 _ _ h58
            refine x_app h9 (szl (by omega)) ?_
            have pt : PtAt K (upd G8 tn (.tup [V.str e.1, v1, v2])) 13 (.ref tn) (.t e.1 [p1, p2]) := PtAt.tup (vs := [v1, v2]) (.of upd_same) ((PtsAt.one (((PtAt.same a1 k2).same k3).same k9)).append (.one ((PtAt.same a2 k3).same k9)))
            refine ⟨_, _, zs' ++ [.ref tn], tr ++ [.t e.1 [p1, p2]], rfl, same_updf (k48.trans k9) ntl, upd_same, ?_, ((pts8.same k9).append (.one pt)).lst h9, by rw [List.length_append]; show _ + 1 ≤ _; omega⟩
            rw [take_more he]
            exact lts_snoc hlt hb9
          · rintro σ' G5 ⟨x12, x13, zs', tr, rfl, k45, h5, hlt, pts, hzl⟩
            rw [lws, List.take_length] at hlt
            exact ⟨x12, x13, zs', tr, rfl, k45, h5, hlt, pts⟩
        · rintro σ' G5 ⟨x12, x13, zs', tr, rfl, k45, h5, hlts, pts⟩
          have kH5 := kG'.trans k45
          have hD5 := k45 _ _ e1
          have hb5 : AllAt (PairAt K G5) zs (boxE (ends3 fl rs)) := e2.mono fun _ _ h => h.mono fun _ _ s => Same.sqT k45 s
          walk_at "sx"
          refine ⟨D, zs, rfl, .inl ⟨.of hD5, fun tb ntb => ?_⟩⟩
          walk_at "sx"
          have kb : Same G5 (upd G5 tb (.tup zs)) := same_upd ntb
          refine ⟨tl0, zs', rfl, .inl ⟨.of (kb _ _ h5), fun tt ntt => ?_⟩⟩
          walk_at "sx"
          rename_i t2 nt2 t3 nt3
          have kk : Same (upd (upd G5 tb (.tup zs)) tt (.tup zs')) (upd (upd (upd (upd G5 tb (.tup zs)) tt (.tup zs')) t2 (.tup [V.ref tb, .ref tt])) t3 (.tup [V.str "told", .ref t2])) := (same_upd nt2).trans (same_upd nt3)
          have ktt : Same (upd G5 tb (.tup zs)) (upd (upd G5 tb (.tup zs)) tt (.tup zs')) := same_upd ntt
          have kall := (kb.trans ktt).trans kk
          have hres : resP fl rs ts = .tup (boxE (ends3 fl rs)) tr := by
            unfold resP
            rw [eb2]
            show (match lts _ ts with | some us => RR.tup _ us | none => RR.non) = _
            rw [hlts]
          refine q _ _ (kH5.trans kall) ?_
          rw [hres]
          have dB : BoxAt K (upd (upd (upd (upd G5 tb (.tup zs)) tt (.tup zs')) t2 (.tup [V.ref tb, .ref tt])) t3 (.tup [V.str "told", .ref t2])) tb (boxE (ends3 fl rs)) := ⟨zs, Same.sqT (ktt.trans kk) (.of upd_same), hb5.mono fun _ _ h => h.mono fun _ _ s => Same.sqT kall s⟩
          have dT : Dp K (upd (upd (upd (upd G5 tb (.tup zs)) tt (.tup zs')) t2 (.tup [V.ref tb, .ref tt])) t3 (.tup [V.str "told", .ref t2])) (.ref tt) (.tuple (tr.map ptD)) := .tup (Same.sqT kk (.of upd_same)) (pts.same kall).dpd
          exact .tup (.of upd_same) (.cons (.str _) (.cons (.tup (Same.sqT (same_upd nt3) (.of upd_same)) (.cons dB.dp (.cons dT .nil))) .nil))
end
end Gs

namespace Gs
open PySem PySem.Spec PyProof.Rows L2 TL
abbrev s_law_range : Stmt := PySem.Challenge.pw_goalstead_k39_resolved.main.body.getD 34 (.Pass ⟨0, 0, 0, 0⟩)
theorem sc_law_range : FnScope ["stream", "name", "names", "deep", "way", "low", "high"] ["stream", "name", "names", "deep"] (defScope s_law_range) := ⟨rfl, rfl, rfl, by decide +kernel, rfl, by decide +kernel, by decide +kernel⟩
/-- an end of a range -/
def SA (K : PySem.W.Frag) (G : Hp) (ns : List Str) (v : V) : Prop := ∃ t : Sm, PtAt K G 3 v t.pt ∧ t.Ok (fun z => z ∈ ns) ∧ t.wt ≤ 1000
theorem SA.kx {K : PySem.W.Frag} {p l : Addr} {c : Int} {H G : Hp} {ns : List Str} {v : V} (h : SA K H ns v) (k : Kx p l H G) (P : PoolAt H p l c) : SA K G ns v := by
  obtain ⟨t, a, b, d⟩ := h
  exact ⟨t, a.kx k P, b, d⟩
theorem SA.same {K : PySem.W.Frag} {H G : Hp} {ns : List Str} {v : V} (h : SA K H ns v) (k : Same H G) : SA K G ns v := by
  obtain ⟨t, a, b, d⟩ := h
  exact ⟨t, a.same k, b, d⟩
theorem SA.int {K : PySem.W.Frag} {G : Hp} {ns : List Str} {z : Int} (h : z.natAbs < 2 ^ 210) : SA K G ns (.int z) := ⟨.n z, PtAt.up (k := 1) (u := .i z) rfl (by decide), h, by show 210 ≤ 1000; decide⟩
/-- how the ends stand between the steps -/
def RI (K : PySem.W.Frag) (p l na : Addr) (name : Str) (dp : Nat) (way : Int) (ns : List Str) (c : Int) (H : Hp) : L2.St → Hp → Prop := fun σ' G => ∃ lv hv : V, σ' = [some (.ref p), some (.str name), some (.ref na), some (.int (dp : Int)), some (.int way), some lv, some hv] ∧ SA K G ns lv ∧ SA K G ns hv ∧ PoolAt G p l c ∧ Kx p l H G
def spRange39 (K : PySem.W.Frag) : Sp := fun vs H Q _ => ∃ (p l na : Addr) (c : Int) (dp : Nat) (name : Str) (ns : List Str), vs = [.ref p, .str name, .ref na, .int (dp : Int)] ∧ PoolAt H p l c ∧ c + 400 ≤ 1000000000000 ∧ dp ≤ 1 ∧ H na = some (.lst (ns.map V.str)) ∧ 0 < ns.length ∧ ns.length ≤ 100 ∧ na ≠ p ∧ na ≠ l ∧
  ∀ (v : V) (t1 t2 : Sm) (H' : Hp), PtAt K H' 12 v (rgP (name, t1, t2)) → t1.Ok (fun z => z ∈ ns) → t2.Ok (fun z => z ∈ ns) → t1.wt ≤ 1000 → t2.wt ≤ 1000 → PoolAt H' p l (c + 400) → Kx p l H H' → Q v H'
theorem x_par {i j : Nat} {ta : TA} {D : Ends} {σ : L2.St} {H : Hp} (q : ta σ H fun xs H1 => ∃ v w, xs = [v, w] ∧ D.nx ((σ.set i (some v)).set j (some w)) H1) : tPar i j ta D σ H := q
section
variable {P : Program} {w : World} {K : PySem.W.Frag} {mg : Str → Option Value} {base : Heap} {f : Addr} {fd : FuncData}
def HasRange39 (P : Program) (w : World) (K : PySem.W.Frag) (mg : Str → Option Value) (base : Heap) : Prop := Has P w K mg base 4 "_law_range" ["stream", "name", "names", "deep"] (spRange39 K)
theorem wides {v : V} (h : v ∈ [V.int 19, .int 20, .int 399, .int 400, .int (-1), .int (-2)]) : ∃ n : Int, v = .int n ∧ -2 ≤ n ∧ n ≤ 400 := by
  simp only [List.mem_cons, List.not_mem_nil, or_false] at h
  rcases h with rfl | rfl | rfl | rfl | rfl | rfl
  · exact ⟨19, rfl, by decide, by decide⟩
  · exact ⟨20, rfl, by decide, by decide⟩
  · exact ⟨399, rfl, by decide, by decide⟩
  · exact ⟨400, rfl, by decide, by decide⟩
  · exact ⟨-1, rfl, by decide, by decide⟩
  · exact ⟨-2, rfl, by decide, by decide⟩
theorem lt210 {z : Int} (h : z.natAbs ≤ 10 ^ 60) : z.natAbs < 2 ^ 210 := Nat.lt_of_le_of_lt h (by decide)
set_option maxHeartbeats 2000000 in
theorem ok_law_range (F : Fun K "_law_range" "_law_range" s_law_range f fd) (T : Txt mg) (C_law_draw : HasDraw P w K mg base) (C_law_sum : HasSum 2 P w K mg base) : FnOk P w K mg base CX0 4 f fd ["stream", "name", "names", "deep"] (spRange39 K) := by
  refine F.ok sc_law_range (fun vs H Q E h => ?_) (fun cdv A outer s H vs Q E hr h => ?_)
  · obtain ⟨p, l, na, c, dp, name, ns, rfl, _⟩ := h
    rfl
  obtain ⟨p, l, na, c, dp, name, ns, rfl, P0, hc, hdp, hna, hn0, hn1, np, nl, q⟩ := h
  refine ⟨_, (pss_cons (ps_set (i := 4) sc_law_range.nd rfl (Or.inl rfl) (pe_callH C_law_draw hr (pa_cons (pv 0) (pa_cons pe_int pa_nil)) (hk := by omega)))
    (pss_cons (ps_set (i := 5) sc_law_range.nd rfl (Or.inl rfl) (pe_op op_sub (pe_callH C_law_draw hr (pa_cons (pv 0) (pa_cons pe_int pa_nil)) (hk := by omega)) pe_int))
    (pss_cons (ps_set (i := 6) sc_law_range.nd rfl (Or.inl rfl) (pe_op op_add (pv 5) (pe_callH C_law_draw hr (pa_cons (pv 0) (pa_cons pe_int pa_nil)) (hk := by omega))))
    (Evl.pss_cut (ps_if (pt_cmpR op_eq (pv 4) pe_int (nomark _))
      (pss_one (ps_set (i := 6) sc_law_range.nd rfl (Or.inl rfl) (pe_op op_add (pv 5) (pe_ix (ix_listK (K := K)) (pe_lst (pa_cons pe_int (pa_cons pe_int (pa_cons pe_int (pa_cons pe_int (pa_cons (pe_un un_neg pe_int) (pa_cons (pe_un un_neg pe_int) pa_nil))))))) (pe_callH C_law_draw hr (pa_cons (pv 0) (pa_cons pe_int pa_nil)) (hk := by omega)) (fun _ _ => rfl)))))
      pss_nil)
    (Evl.pss_cut (ps_if (pt_cmpR op_eq (pv 4) pe_int (nomark _))
      (pss_cons (ps_set (i := 6) sc_law_range.nd rfl (Or.inl rfl) (pe_op op_sub (pe_op op_pow pe_int pe_int) pe_int))
    (pss_cons (ps_set (i := 5) sc_law_range.nd rfl (Or.inl rfl) (pe_op op_sub (pv 6) (pe_callH C_law_draw hr (pa_cons (pv 0) (pa_cons pe_int pa_nil)) (hk := by omega))))
    (pss_one (ps_if (pt_cmpR op_eq (pe_callH C_law_draw hr (pa_cons (pv 0) (pa_cons pe_int pa_nil)) (hk := by omega)) pe_int (nomark _))
      (pss_one (ps_par (i := 5) (j := 6) rfl sc_law_range.nd rfl rfl (by decide) rfl rfl (pa_cons (pe_op op_sub pe_int (pv 6)) (pa_cons (pe_op op_sub pe_int (pv 5)) pa_nil)) rfl))
      pss_nil))))
      pss_nil)
    (Evl.pss_cut (ps_if (PW.pt (pw_or (pt_cmpR op_eq (pv 4) pe_int (nomark _)) (pw_or1 (pt_cmpR op_eq (pv 4) pe_int (nomark _)))))
      (pss_one (ps_set (i := 6) sc_law_range.nd rfl (Or.inl rfl) (pe_callH C_law_sum hr (pa_cons (pv 0) (pa_cons (pv 2) (pa_cons (pv 3) pa_nil))) (hk := by omega))))
      pss_nil)
    (Evl.pss_cut (ps_if (PW.pt (pw_or (pt_cmpR op_eq (pv 4) pe_int (nomark _)) (pw_or1 (pt_cmpR op_eq (pv 4) pe_int (nomark _)))))
      (pss_one (ps_set (i := 5) sc_law_range.nd rfl (Or.inl rfl) (pe_callH C_law_sum hr (pa_cons (pv 0) (pa_cons (pv 2) (pa_cons (pv 3) pa_nil))) (hk := by omega))))
      pss_nil)
    (Evl.pss_cut (ps_if (PW.pt (pw_and (pt_cmpR op_eq (pv 4) pe_int (nomark _)) (pw_and1 (pt_cmpR op_gt (pv 3) pe_int (nomark _)))))
      (pss_cons (ps_set (i := 5) sc_law_range.nd rfl (Or.inl rfl) (pe_op op_sub (pe_op op_pow pe_int pe_int) pe_int))
    (pss_one (ps_set (i := 6) sc_law_range.nd rfl (Or.inl rfl) (pe_tup (pa_cons pe_str (pa_cons (pv 5) (pa_cons (pe_callH C_law_draw hr (pa_cons (pv 0) (pa_cons pe_int pa_nil)) (hk := by omega)) pa_nil)))))))
      pss_nil)
    (Evl.pss_cut (ps_if (PW.pt (pw_and (pt_cmpR op_gt (pv 4) pe_int (nomark _)) (pw_and (pt_cmpR op_lt (pv 4) pe_int (nomark _)) (pw_and1 (pt_cmpR op_gt (pv 3) pe_int (nomark _))))))
      (pss_one (ps_set (i := 5) sc_law_range.nd rfl (Or.inl rfl) (pe_tup (pa_cons pe_str (pa_cons (pe_op op_pow pe_int pe_int) (pa_cons (pe_op op_mulW (pe_ix (ix_listK (K := K)) (pe_lst (pa_cons (pe_un un_neg pe_int) (pa_cons pe_int pa_nil))) (pe_callH C_law_draw hr (pa_cons (pv 0) (pa_cons pe_int pa_nil)) (hk := by omega)) (fun _ _ => rfl)) (pe_op op_pow pe_int pe_int)) pa_nil))))))
      pss_nil)
    (Evl.pss_cut (ps_if (PW.pt (pw_and (pt_cmpR op_gt (pv 4) pe_int (nomark _)) (pw_and (pt_cmpR op_lt (pv 4) pe_int (nomark _)) (pw_and1 (pt_cmpR op_gt (pv 3) pe_int (nomark _))))))
      (pss_one (ps_set (i := 6) sc_law_range.nd rfl (Or.inl rfl) (pe_ix (ix_listK (K := K)) (pv 2) (pe_callH C_law_draw hr (pa_cons (pv 0) (pa_cons (pe_callB (call_lenK (K := K)) (by rfl) T.z_len (by decide +kernel) (pa_cons (pv 2) pa_nil)) pa_nil)) (hk := by omega)) (fun _ _ => rfl))))
      pss_nil)
    (Evl.pss_cut (ps_if (pt_cmpR op_eq (pv 4) pe_int (nomark _))
      (pss_one (ps_par (i := 5) (j := 6) rfl sc_law_range.nd rfl rfl (by decide) rfl rfl (pa_cons (pv 6) (pa_cons (pv 5) pa_nil)) rfl))
      pss_nil)
    (pss_one (ps_ret (pe_tup (pa_cons pe_str (pa_cons (pv 1) (pa_cons (pe_tup (pa_cons pe_str (pa_cons (pv 5) (pa_cons (pv 6) pa_nil)))) pa_nil))))))))))))))))), ?_⟩
  walk_at "sx"
  refine ⟨p, l, c, 16, rfl, P0, by omega, by decide, by decide, fun way H1 w0 w1 P1 k1 => ?_⟩
  walk_at "sx"
  refine ⟨p, l, _, 13, rfl, P1, by omega, by decide, by decide, fun n2 H2 n20 n21 P2 k2 => ?_⟩
  walk_at "sx"
  refine ⟨p, l, _, 6, rfl, P2, by omega, by decide, by decide, fun n3 H3 n30 n31 P3 k3 => ?_⟩
  have k03 := (k1.trans k2).trans k3
  walk_at "sx"
  refine x_cut (M := fun σ' G => ∃ hi : Int, σ' = [some (.ref p), some (.str name), some (.ref na), some (.int (dp : Int)), some (.int way), some (.int (n2 - 5)), some (.int hi)] ∧ hi.natAbs ≤ 1000 ∧ PoolAt G p l (c + 10) ∧ Kx p l H G) ?_ ?_
  · walk_at "sx"
    refine x_ite (fun c1 => ?_) (fun c1 => ?_)
    · walk_at "sx"
      rename_i bl nb
      refine ⟨p, l, _, 6, rfl, P3.upd nb, by omega, by decide, by decide, fun n4 H4 n40 n41 P4 k4 => ?_⟩
      obtain ⟨v4, hv4, hat4⟩ := atL (xs := [V.int 19, .int 20, .int 399, .int 400, .int (-1), .int (-2)]) n40 (by show n4 < 6; exact n41)
      obtain ⟨d, rfl, d1, d2⟩ := wides hv4
      refine x_ixL (.of (kxl P3 nb k4)) hat4 ?_
      walk_at "sx"
      exact ⟨_, rfl, by omega, P4.mono (by omega), k03.trans (((Kx.refl _).updn nb).trans k4)⟩
    · walk_at "sx"
      exact ⟨_, rfl, by omega, P3.mono (by omega), k03⟩
  rintro σ' G ⟨hi, rfl, hhi, PG, kG⟩
  have hsm : ∀ {z : Int}, z.natAbs ≤ 1000 → z.natAbs < 2 ^ 210 := fun h => Nat.lt_of_le_of_lt h (by decide)
  walk_at "sx"
  refine x_cut (M := RI K p l na name dp way ns (c + 20) H) ?_ ?_
  · walk_at "sx"
    refine x_ite (fun c1 => ?_) (fun c1 => ?_)
    · walk_at "sx"
      refine ⟨p, l, _, 3, rfl, PG, by omega, by decide, by decide, fun n4 H4 n40 n41 P4 k4 => ?_⟩
      walk_at "sx"
      refine ⟨p, l, _, 2, rfl, P4, by omega, by decide, by decide, fun n5 H5 n50 n51 P5 k5 => ?_⟩
      have e60 : (10 : Int) ^ Int.toNat 60 = 10 ^ 60 := rfl
      have h1 : ((10 : Int) ^ Int.toNat 60 - 1).natAbs ≤ 10 ^ 60 := by rw [e60]; decide
      have h2 : ((10 : Int) ^ Int.toNat 60 - 1 - n4).natAbs ≤ 10 ^ 60 := by rw [e60]; omega
      have h3 : (0 - ((10 : Int) ^ Int.toNat 60 - 1)).natAbs ≤ 10 ^ 60 := by rw [e60]; decide
      have h4 : (0 - ((10 : Int) ^ Int.toNat 60 - 1 - n4)).natAbs ≤ 10 ^ 60 := by rw [e60]; omega
      have kk := (kG.trans k4).trans k5
      walk_at "sx"
      refine x_ite (fun c2 => ?_) (fun c2 => ?_)
      · walk_at "sx"
        refine x_par ?_
        walk_at "sx"
        exact ⟨_, _, rfl, _, _, rfl, SA.int (lt210 h3), SA.int (lt210 h4), P5.mono (by omega), kk⟩
      · walk_at "sx"
        exact ⟨_, _, rfl, SA.int (lt210 h2), SA.int (lt210 h1), P5.mono (by omega), kk⟩
    · walk_at "sx"
      exact ⟨_, _, rfl, SA.int (hsm (by omega)), SA.int (hsm hhi), PG.mono (by omega), kG⟩
  rintro σ' G1 ⟨lv, hv, rfl, hl, hh, PG1, kG1⟩
  have summ : ∀ (c0 : Int) (G : Hp) (v : V) (t : Sm) (H' : Hp), PtAt K H' 2 v t.pt → t.Ok (fun z => z ∈ ns) → t.wt + 1 ≤ 211 * 2 ^ dp → SA K H' ns v := fun c0 G v t H' a o wt => ⟨t, a.up (by decide), o, by
    have : dp = 0 ∨ dp = 1 := by omega
    rcases this with rfl | rfl
    · rw [Nat.pow_zero] at wt
      omega
    · rw [Nat.pow_one] at wt
      omega⟩
  have pw : (24 * 2 ^ dp - 4 : Int) ≤ 44 := by
    have : dp = 0 ∨ dp = 1 := by omega
    rcases this with rfl | rfl <;> decide
  walk_at "sx"
  refine x_cut (M := RI K p l na name dp way ns (c + 70) H) ?_ ?_
  · walk_at "sx"
    refine x_ite (fun c1 => ?_) (fun c1 => ?_)
    · walk_at "sx"
      refine ⟨p, l, na, _, dp, ns, rfl, PG1, by omega, kG1 _ _ hna np nl, hn0, hn1, np, nl, by omega, by omega, fun v t H' a o sm wt PP kk => ?_⟩
      walk_at "sx"
      exact ⟨lv, v, rfl, hl.kx kk PG1, summ 0 H' v t H' a o wt, PP.mono (by omega), kG1.trans kk⟩
    walk_at "sx"
    refine x_ite (fun c2 => ?_) (fun c2 => ?_)
    · walk_at "sx"
      refine ⟨p, l, na, _, dp, ns, rfl, PG1, by omega, kG1 _ _ hna np nl, hn0, hn1, np, nl, by omega, by omega, fun v t H' a o sm wt PP kk => ?_⟩
      walk_at "sx"
      exact ⟨lv, v, rfl, hl.kx kk PG1, summ 0 H' v t H' a o wt, PP.mono (by omega), kG1.trans kk⟩
    · walk_at "sx"
      exact ⟨lv, hv, rfl, hl, hh, PG1.mono (by omega), kG1⟩
  rintro σ' G2 ⟨lv, hv, rfl, hl, hh, PG2, kG2⟩
  walk_at "sx"
  refine x_cut (M := RI K p l na name dp way ns (c + 120) H) ?_ ?_
  · walk_at "sx"
    refine x_ite (fun c1 => ?_) (fun c1 => ?_)
    · walk_at "sx"
      refine ⟨p, l, na, _, dp, ns, rfl, PG2, by omega, kG2 _ _ hna np nl, hn0, hn1, np, nl, by omega, by omega, fun v t H' a o sm wt PP kk => ?_⟩
      walk_at "sx"
      exact ⟨v, hv, rfl, summ 0 H' v t H' a o wt, hh.kx kk PG2, PP.mono (by omega), kG2.trans kk⟩
    walk_at "sx"
    refine x_ite (fun c2 => ?_) (fun c2 => ?_)
    · walk_at "sx"
      refine ⟨p, l, na, _, dp, ns, rfl, PG2, by omega, kG2 _ _ hna np nl, hn0, hn1, np, nl, by omega, by omega, fun v t H' a o sm wt PP kk => ?_⟩
      walk_at "sx"
      exact ⟨v, hv, rfl, summ 0 H' v t H' a o wt, hh.kx kk PG2, PP.mono (by omega), kG2.trans kk⟩
    · walk_at "sx"
      exact ⟨lv, hv, rfl, hl, hh, PG2.mono (by omega), kG2⟩
  rintro σ' G3 ⟨lv, hv, rfl, hl, hh, PG3, kG3⟩
  walk_at "sx"
  refine x_cut (M := RI K p l na name dp way ns (c + 130) H) ?_ ?_
  · walk_at "sx"
    refine x_ite (fun c1 => ?_) (fun c1 => ?_)
    · walk_at "sx"
      refine x_ite (fun c2 => ?_) (fun c2 => ?_)
      · walk_at "sx"
        refine ⟨p, l, _, 4, rfl, PG3, by omega, by decide, by decide, fun n4 H4 n40 n41 P4 k4 => ?_⟩
        walk_at "sx"
        rename_i tn ntn
        have h1 : ((10 : Int) ^ Int.toNat 60 - 2).natAbs < 2 ^ 210 := by decide
        refine ⟨_, _, rfl, SA.int h1, ⟨.op "+" (.n ((10 : Int) ^ Int.toNat 60 - 2)) (.n n4), PtAt.up (k := 2) (PtAt.tup (vs := [.int ((10 : Int) ^ Int.toNat 60 - 2), .int n4]) (.of upd_same) ((PtsAt.one (k := 1) (p := .i ((10 : Int) ^ Int.toNat 60 - 2)) rfl).append (.one (p := .i n4) rfl))) (by decide), ⟨by decide +kernel, h1, hsm (by omega)⟩, by show 210 + 210 + 1 ≤ 1000; decide⟩, (P4.upd ntn).mono (by omega), (kG3.trans k4).updn ntn⟩
      · walk_at "sx"
        exact ⟨lv, hv, rfl, hl, hh, PG3.mono (by omega), kG3⟩
    · walk_at "sx"
      exact ⟨lv, hv, rfl, hl, hh, PG3.mono (by omega), kG3⟩
  rintro σ' G4 ⟨lv, hv, rfl, hl, hh, PG4, kG4⟩
  walk_at "sx"
  refine x_cut (M := RI K p l na name dp way ns (c + 140) H) ?_ ?_
  · walk_at "sx"
    refine x_ite (fun c1 => ?_) (fun c1 => ?_)
    · walk_at "sx"
      refine x_ite (fun c2 => ?_) (fun c2 => ?_)
      · walk_at "sx"
        refine x_ite (fun c3 => ?_) (fun c3 => ?_)
        · walk_at "sx"
          rename_i bl nb
          refine ⟨p, l, _, 2, rfl, PG4.upd nb, by omega, by decide, by decide, fun n4 H4 n40 n41 P4 k4 => ?_⟩
          obtain ⟨v4, hv4, hat4⟩ := atL (xs := [V.int (-1), .int 1]) n40 (by show n4 < 2; exact n41)
          obtain ⟨sg, rfl, hsg⟩ : ∃ sg : Int, v4 = .int sg ∧ (sg = -1 ∨ sg = 1) := by
            simp only [List.mem_cons, List.not_mem_nil, or_false] at hv4
            rcases hv4 with rfl | rfl
            · exact ⟨-1, rfl, .inl rfl⟩
            · exact ⟨1, rfl, .inr rfl⟩
          refine x_ixL (.of (kxl PG4 nb k4)) hat4 ?_
          have m1 : CMulW sg (10 ^ Int.toNat 30) := cmulW (by rcases hsg with rfl | rfl <;> decide) (by decide)
          have h1 : ((10 : Int) ^ Int.toNat 30).natAbs < 2 ^ 210 := by decide
          have h2 : (sg * (10 : Int) ^ Int.toNat 30).natAbs < 2 ^ 210 := by rcases hsg with rfl | rfl <;> decide
          walk_at "sx"
          rename_i tn ntn
          have kk : Kx p l H H4 := kG4.trans (((Kx.refl _).updn nb).trans k4)
          exact ⟨_, hv, rfl, ⟨.op "*" (.n ((10 : Int) ^ Int.toNat 30)) (.n (sg * (10 : Int) ^ Int.toNat 30)), PtAt.up (k := 2) (PtAt.tup (vs := [.int ((10 : Int) ^ Int.toNat 30), .int (sg * (10 : Int) ^ Int.toNat 30)]) (.of upd_same) ((PtsAt.one (k := 1) (p := .i ((10 : Int) ^ Int.toNat 30)) rfl).append (.one (p := .i (sg * (10 : Int) ^ Int.toNat 30)) rfl))) (by decide), ⟨by decide +kernel, h1, h2⟩, by show 210 + 210 + 1 ≤ 1000; decide⟩, (hh.kx (((Kx.refl _).updn nb).trans k4) PG4).same (same_upd ntn), (P4.upd ntn).mono (by omega), kk.updn ntn⟩
        · walk_at "sx"
          exact ⟨lv, hv, rfl, hl, hh, PG4.mono (by omega), kG4⟩
      · walk_at "sx"
        exact ⟨lv, hv, rfl, hl, hh, PG4.mono (by omega), kG4⟩
    · walk_at "sx"
      exact ⟨lv, hv, rfl, hl, hh, PG4.mono (by omega), kG4⟩
  rintro σ' G5 ⟨lv, hv, rfl, hl, hh, PG5, kG5⟩
  walk_at "sx"
  refine x_cut (M := RI K p l na name dp way ns (c + 150) H) ?_ ?_
  · walk_at "sx"
    refine x_ite (fun c1 => ?_) (fun c1 => ?_)
    · walk_at "sx"
      refine x_ite (fun c2 => ?_) (fun c2 => ?_)
      · walk_at "sx"
        refine x_ite (fun c3 => ?_) (fun c3 => ?_)
        · have hna5 := kG5 _ _ hna np nl
          walk_at "sx"
          refine ⟨p, l, _, _, rfl, PG5, by omega, by rw [List.length_map]; omega, by rw [List.length_map]; omega, fun n4 H4 n40 n41 P4 k4 => ?_⟩
          obtain ⟨v, hv', hat⟩ := atL (xs := ns.map V.str) n40 n41
          obtain ⟨z, hz, rfl⟩ := List.mem_map.mp hv'
          refine x_ixL (.of (k4 _ _ hna5 np nl)) hat ?_
          walk_at "sx"
          exact ⟨lv, .str z, rfl, hl.kx k4 PG5, ⟨.v z, PtAt.up (k := 1) (u := .s z) rfl (by decide), hz, by show 210 ≤ 1000; decide⟩, P4.mono (by omega), kG5.trans k4⟩
        · walk_at "sx"
          exact ⟨lv, hv, rfl, hl, hh, PG5.mono (by omega), kG5⟩
      · walk_at "sx"
        exact ⟨lv, hv, rfl, hl, hh, PG5.mono (by omega), kG5⟩
    · walk_at "sx"
      exact ⟨lv, hv, rfl, hl, hh, PG5.mono (by omega), kG5⟩
  rintro σ' G6 ⟨lv, hv, rfl, hl, hh, PG6, kG6⟩
  walk_at "sx"
  refine x_cut (M := RI K p l na name dp way ns (c + 150) H) ?_ ?_
  · walk_at "sx"
    refine x_ite (fun c1 => ?_) (fun c1 => ?_)
    · walk_at "sx"
      refine x_par ?_
      walk_at "sx"
      exact ⟨_, _, rfl, _, _, rfl, hh, hl, PG6.mono (by omega), kG6⟩
    · walk_at "sx"
      exact ⟨lv, hv, rfl, hl, hh, PG6.mono (by omega), kG6⟩
  rintro σ' G7 ⟨lv, hv, rfl, ⟨t1, a1, o1, w1⟩, ⟨t2, a2, o2, w2⟩, PG7, kG7⟩
  walk_at "sx"
  rename_i ti nti tn ntn
  have kk : Same G7 (upd (upd G7 ti (.tup [V.str "..", lv, hv])) tn (.tup [V.str "in", .str name, .ref ti])) := (same_upd nti).trans (same_upd ntn)
  have i1 : PtAt K (upd (upd G7 ti (.tup [V.str "..", lv, hv])) tn (.tup [V.str "in", .str name, .ref ti])) 4 (.ref ti) (.t ".." [t1.pt, t2.pt]) := PtAt.tup (vs := [lv, hv]) (Same.sqT (same_upd ntn) (.of upd_same)) ((PtsAt.one (a1.same kk)).append (.one (a2.same kk)))
  have i0 : PtAt K (upd (upd G7 ti (.tup [V.str "..", lv, hv])) tn (.tup [V.str "in", .str name, .ref ti])) 4 (.str name) (.s name) := rfl
  refine q _ t1 t2 _ (PtAt.up (k := 5) (PtAt.tup (vs := [.str name, .ref ti]) (.of upd_same) ((PtsAt.one i0).append (.one i1))) (by decide)) o1 o2 w1 w2 ((PG7.same kk).mono (by omega)) (kG7.trans (.of kk))
end
end Gs

namespace Gs
open PySem PySem.Spec PyProof.Rows L2 TL
abbrev s_law : Stmt := PySem.Challenge.pw_goalstead_k39_resolved.main.body.getD 39 (.Pass ⟨0, 0, 0, 0⟩)
theorem sc_law : FnScope ["script", "stream", "names", "k", "many", "ranged", "filling", "name", "ranges", "count", "tests", "sides", "goal", "handed", "found", "j"] ["script"] (defScope s_law) := ⟨rfl, rfl, rfl, by decide +kernel, rfl, by decide +kernel, by decide +kernel⟩
abbrev CS : Str := "ABCDEFGHIJKLMNOPQRSTUVWXYZ"
theorem cs_C : ∀ c ∈ tl CS, c ∈ sC ∧ c < 128 := by decide +kernel
theorem TxR.unk {L : Nat} {z : Str} (h : TxR (tl CS) L z) : unkS z = true := by
  obtain ⟨c, t, e, a, b, _⟩ := h
  unfold unkS
  rw [e]
  exact decide_eq_true (cs_C c a).1
theorem look_map {z : Str} {p : Pt} {y : Str} : ∀ (f : Fl), (look (f.map fun e => if e.1 = z then (e.1, p) else e) y).isSome = (look f y).isSome
  | [] => rfl
  | (k, v) :: r => by
    rw [List.map_cons]
    by_cases c : k = z
    · rw [if_pos c, look, look]
      by_cases d : k = y
      · rw [if_pos d, if_pos d]
        rfl
      · rw [if_neg d, if_neg d]
        exact look_map r
    · rw [if_neg c, look, look]
      by_cases d : k = y
      · rw [if_pos d, if_pos d]
      · rw [if_neg d, if_neg d]
        exact look_map r
theorem look_put {f : Fl} {z : Str} {p : Pt} {y : Str} (h : (look f y).isSome = true ∨ y = z) : (look (putF f z p) y).isSome = true := by
  unfold putF
  by_cases c : (look f z).isSome = true
  · rw [if_pos c, look_map]
    rcases h with h | rfl
    · exact h
    · exact c
  · rw [if_neg c, look_append]
    rcases h with h | rfl
    · cases e : look f y with
      | none =>
        rw [e] at h
        cases h
      | some _ => rfl
    · cases e : look f y with
      | none =>
        rw [look, if_pos rfl]
        rfl
      | some _ => rfl
theorem Sm.Ok.mem {D : Str → Prop} : ∀ {t : Sm}, t.Ok D → ∀ z ∈ smN t, D z
  | .n _, _, z, h => by cases h
  | .v s, o, z, h => by
    rw [List.mem_singleton.mp h]
    exact o
  | .op _ a b, o, z, h => by
    rcases List.mem_append.mp h with h | h
    · exact o.2.1.mem z h
    · exact o.2.2.mem z h
theorem Sm.sz_wt : ∀ t : Sm, 105 * (szT t.pt + 1) ≤ t.wt
  | .n _ => by show 105 * (1 + 1) ≤ 210; decide
  | .v _ => by show 105 * (1 + 1) ≤ 210; decide
  | .op s a b => by
    have h1 := a.sz_wt
    have h2 := b.sz_wt
    rw [Sm.pt, szT, szL, szL, szL, Sm.wt]
    omega
theorem signs5_t9 : ∀ s ∈ signs5, T9 s := by unfold T9; decide +kernel
theorem Sm.okT {D T : Str → Prop} (hD : ∀ z, D z → T z) : ∀ {t : Sm}, t.Ok D → t.Sml → okT T T9 t.pt
  | .n z, _, h => by
    have h' : z.natAbs ≤ 100 := h
    show z.natAbs < 10 ^ 60
    exact Nat.lt_of_le_of_lt h' (by decide)
  | .v s, o, _ => hD s o
  | .op s a b, o, h => ⟨signs5_t9 s o.1, by show 0 < 2; decide, by show 2 ≤ 4; decide, Sm.okT hD o.2.1 h.1, Sm.okT hD o.2.2 h.2, trivial⟩
theorem signs4_in {v : V} (h : v ∈ [V.str "<", .str "=<", .str "==", .str "=/="]) : ∃ s, v = .str s ∧ s ≠ "and" ∧ T9 s := by
  simp only [List.mem_cons, List.not_mem_nil, or_false] at h
  rcases h with rfl | rfl | rfl | rfl
  · exact ⟨_, rfl, by decide, by unfold T9; decide +kernel⟩
  · exact ⟨_, rfl, by decide, by unfold T9; decide +kernel⟩
  · exact ⟨_, rfl, by decide, by unfold T9; decide +kernel⟩
  · exact ⟨_, rfl, by decide, by unfold T9; decide +kernel⟩
theorem boxD_depth (bx : List (Int × Int)) : PyData.depth (boxD bx) ≤ 2 := by
  have h : PyData.depthAll (bx.map pairD) ≤ 1 := by
    induction bx with
    | nil => simp [PyData.depthAll]
    | cons e r ih =>
      simp only [List.map_cons, PyData.depthAll, pairD, PyData.depth]
      omega
  simp only [boxD, PyData.depth]
  omega
theorem t9_ok {z : Str} (h : T9 z) : okStr z = true := okStr_small h
theorem ltr_lay {D : Str → Prop} {ns : List Str} {f : Fl} : ∀ {t : Sm} {p : Pt}, t.Ok D → ltr (rho ns f) t = some p → PyData.canLay0 (ptD p) = true
  | .n z, p, _, e => by
    cases e
    rfl
  | .v s, p, _, e => (oD_lay (rho_kind e)).1
  | .op s a b, p, o, e => by
    rw [ltr] at e
    cases c1 : ltr (rho ns f) a with
    | none =>
      rw [c1] at e
      cases e
    | some x =>
      cases c2 : ltr (rho ns f) b with
      | none =>
        rw [c1, c2] at e
        cases e
      | some y =>
        rw [c1, c2] at e
        cases e
        show (PyData.canLay0 (.str s) && (PyData.canLay0 (ptD x) && (PyData.canLay0 (ptD y) && true))) = true
        rw [ltr_lay o.2.1 c1, ltr_lay o.2.2 c2, show PyData.canLay0 (.str s) = true from t9_ok (signs5_t9 s o.1)]
        rfl
theorem lts_lay {D : Str → Prop} {ns : List Str} {f : Fl} : ∀ {ts : List Rg} {us : List Pt}, (∀ e ∈ ts, T9 e.1 ∧ e.2.1.Ok D ∧ e.2.2.Ok D) → lts (rho ns f) ts = some us → PyData.canLayAll0 (us.map ptD) = true
  | [], us, _, e => by
    cases e
    rfl
  | x :: r, us, h, e => by
    obtain ⟨h1, h2, h3⟩ := h x (List.mem_cons_self ..)
    rw [lts] at e
    cases c1 : ltt (rho ns f) x with
    | none =>
      rw [c1] at e
      cases e
    | some t =>
      cases c2 : lts (rho ns f) r with
      | none =>
        rw [c1, c2] at e
        cases e
      | some b =>
        rw [c1, c2] at e
        cases e
        unfold ltt at c1
        cases d1 : ltr (rho ns f) x.2.1 with
        | none =>
          rw [d1] at c1
          cases c1
        | some u =>
          cases d2 : ltr (rho ns f) x.2.2 with
          | none =>
            rw [d1, d2] at c1
            cases c1
          | some v =>
            rw [d1, d2] at c1
            cases c1
            show ((PyData.canLay0 (.str x.1) && (PyData.canLay0 (ptD u) && (PyData.canLay0 (ptD v) && true))) && PyData.canLayAll0 (b.map ptD)) = true
            rw [ltr_lay h2 d1, ltr_lay h3 d2, lts_lay (fun e' m => h e' (List.mem_cons_of_mem _ m)) c2, show PyData.canLay0 (.str x.1) = true from t9_ok h1]
            rfl
theorem depthAll_le {k : Nat} : ∀ {us : List Pt}, (∀ u ∈ us, dpT u ≤ k) → PyData.depthAll (us.map ptD) ≤ k
  | [], _ => by simp [PyData.depthAll]
  | u :: r, h => by
    have h1 := ptD_depth u
    have h2 := h u (List.mem_cons_self ..)
    have h3 := depthAll_le fun u' m => h u' (List.mem_cons_of_mem _ m)
    simp only [List.map_cons, PyData.depthAll]
    omega
theorem res_shaped {D : Str → Prop} {f : Fl} {rs ts : List Rg} {bx : List (Int × Int)} {us : List Pt} (h : ∀ e ∈ ts, T9 e.1 ∧ e.2.1.Ok D ∧ e.2.2.Ok D) (e : resP f rs ts = .tup bx us) (hd : ∀ u ∈ us, dpT u ≤ 40) : SeqAt.shaped (resD (.tup bx us)) = true := by
  have e2 : lts (rho (rs.map (·.1)) f) ts = some us := by
    unfold resP at e
    split at e
    · cases e
    · cases e
    · split at e
      · next h2 =>
        cases e
        exact h2
      · cases e
  have h1 := lts_lay h e2
  have h2 := depthAll_le hd
  have hb := box_shaped bx
  have hb' : (PyData.canLay0 (boxD bx) && decide (PyData.depth (boxD bx) ≤ 64)) = true := hb
  rw [Bool.and_eq_true] at hb'
  have hb1 : PyData.canLay0 (boxD bx) = true := hb'.1
  have hbd : PyData.depth (boxD bx) ≤ 2 := boxD_depth bx
  have ht : PyData.canLay0 (.str "told") = true := by decide +kernel
  show ((PyData.canLay0 (.str "told") && ((PyData.canLay0 (boxD bx) && (PyData.canLayAll0 (us.map ptD) && true)) && true)) && decide (PyData.depth (resD (.tup bx us)) ≤ 64)) = true
  rw [ht, hb1, h1]
  refine decide_eq_true ?_
  simp only [resD, PyData.depth, PyData.depthAll]
  omega
section
variable {P : Program} {w : World} {K : PySem.W.Frag} {mg : Str → Option Value} {base : Heap} {f : Addr} {fd : FuncData} {O : Addr}
set_option maxHeartbeats 2000000 in
theorem ok_law (F : Fun K "law" "law" s_law f fd) (T : Txt mg) (C_law_draw : HasDraw P w K mg base) (C_law_text : HasText P w K mg base) (C_law_term : HasTerm9 P w K mg base) (C_law_range : HasRange39 P w K mg base) (C_law_sum : HasSum 3 P w K mg base) (C_law_joined : HasJoined39 P w K mg base) (C_law_due : HasLDue39 P w K mg base) (C_resolved : HasResolved 20 O P w K mg base) (OC : OpenD K mg O) :
    FnOk P w K mg base CX0 30 f fd ["script"] (spLaw K) := by
  refine F.ok sc_law (fun vs H Q E h => ?_) (fun cdv A outer s H vs Q E hr h => ?_)
  · obtain ⟨a, ns, rfl, _⟩ := h
    rfl
  obtain ⟨a, ns, rfl, hS, hlen, q⟩ := h
  refine ⟨_, (pss_cons (ps_set (i := 1) sc_law.nd rfl (Or.inr rfl) (pe_lst (pa_cons (pe_callTy call_list_of (by rfl) T.z_list (by decide +kernel) (pa_cons (pv 0) pa_nil)) (pa_cons pe_int (pa_cons pe_int (pa_cons pe_int pa_nil))))))
    (pss_cons (ps_set (i := 2) sc_law.nd rfl (Or.inr rfl) (pe_lst pa_nil))
    (Evl.pss_cut (ps_for PassesOwn.never rfl (pi_range1 (by rfl) T.z_range (pa_cons pe_int pa_nil)) (pg_name (i := 3) sc_law.nd rfl (.inl rfl))
      (pss_one (ps_expr (pe_bm PySem.F.plainAttrs_list PySem.F.slot_list_append PySem.F.type_list_append mt_append (pv 2) (pa_cons (pe_callH C_law_text hr (pa_cons (pv 1) (pa_cons pe_str (pa_cons (pv 2) pa_nil)))) pa_nil)))))
    (pss_cons (ps_set (i := 4) sc_law.nd rfl (Or.inr rfl) (pe_op op_add pe_int (pe_callH C_law_draw hr (pa_cons (pv 1) (pa_cons pe_int pa_nil)))))
    (pss_cons (ps_set (i := 5) sc_law.nd rfl (Or.inl rfl) (pe_slice (sl_listK (K := K)) (pv 2) (po_some pe_int) (po_some (pe_op op_add pe_int (pv 4)))))
    (pss_cons (ps_set (i := 6) sc_law.nd rfl (Or.inl rfl) pe_dnewK)
    (Evl.pss_cut (ps_for PassesOwn.never rfl (pi_list (pe_slice (sl_listK (K := K)) (pv 2) po_none (po_some pe_int))) (pg_name (i := 7) sc_law.nd rfl (.inl rfl))
      (pss_one (ps_asg (pe_callH C_law_term hr (pa_cons (pv 1) pa_nil)) (pg_sub (pv 6) (pv 7) (set_dict (Nat.lt_of_le_of_lt (Nat.add_le_add_left (by decide : 1 ≤ 64) _) hr.units))))))
    (Evl.pss_cut (ps_for PassesOwn.never rfl (pi_list (pv 5)) (pg_name (i := 7) sc_law.nd rfl (.inl rfl))
      (pss_one (ps_if (pt_cmpR op_eq (pe_callH C_law_draw hr (pa_cons (pv 1) (pa_cons pe_int pa_nil))) pe_int (nomark _))
      (pss_one (ps_asg (pe_callH C_law_term hr (pa_cons (pv 1) pa_nil)) (pg_sub (pv 6) (pv 7) (set_dict (Nat.lt_of_le_of_lt (Nat.add_le_add_left (by decide : 1 ≤ 64) _) hr.units)))))
      pss_nil)))
    (pss_cons (ps_setLc (i := 8) (own := [("name", 7)]) (g := gName 7) (tt := tYes) rfl sc_law.nd rfl rfl (sw_true rfl rfl rfl (by decide +kernel)) (pi_list (pv 5)) (blkOk_by (own := [("name", 7)]) (N := ["script", "stream", "names", "k", "many", "ranged", "filling", "name", "ranges", "count", "tests", "sides", "goal", "handed", "found", "j"]) (sc := defScope s_law) (by decide +kernel)) (fun _ _ _ _ _ => pg_name (i := 7) sc_law.nd rfl (Or.inl rfl)) (fun _ _ _ _ _ => pts_nil) (fun _ _ _ _ _ => (pe_callH C_law_range hr (pa_cons (pv 1) (pa_cons (pv 7) (pa_cons (pe_slice (sl_listK (K := K)) (pv 2) po_none (po_some pe_int)) (pa_cons (pe_callTy call_int1 (by rfl) T.z_int (by decide +kernel) (pa_cons (pe_cmpR op_lt (pv 4) pe_int (nomark _)) pa_nil)) pa_nil)))))))
    (pss_cons (ps_set (i := 9) sc_law.nd rfl (Or.inr rfl) (pe_callH C_law_draw hr (pa_cons (pv 1) (pa_cons pe_int pa_nil))))
    (pss_cons (ps_set (i := 10) sc_law.nd rfl (Or.inl rfl) (pe_lst pa_nil))
    (Evl.pss_cut (ps_for PassesOwn.never rfl (pi_range1 (by rfl) T.z_range (pa_cons (pv 9) pa_nil)) (pg_name (i := 3) sc_law.nd rfl (.inl rfl))
      (pss_cons (ps_setLc (i := 11) (own := [("j", 15)]) (g := gName 15) (tt := tYes) rfl sc_law.nd rfl rfl (sw_true rfl rfl rfl (by decide +kernel)) (pi_range1 (by rfl) T.z_range (pa_cons pe_int pa_nil)) (blkOk_by (own := [("j", 15)]) (N := ["script", "stream", "names", "k", "many", "ranged", "filling", "name", "ranges", "count", "tests", "sides", "goal", "handed", "found", "j"]) (sc := defScope s_law) (by decide +kernel)) (fun _ _ _ _ _ => pg_name (i := 15) sc_law.nd rfl (Or.inl rfl)) (fun _ _ _ _ _ => pts_nil) (fun _ _ _ _ _ => (pe_callH C_law_sum hr (pa_cons (pv 1) (pa_cons (pe_slice (sl_listK (K := K)) (pv 2) po_none (po_some (pe_op op_add pe_int (pv 4)))) (pa_cons (pe_op op_add pe_int (pe_callTy call_int1 (by rfl) T.z_int (by decide +kernel) (pa_cons (pe_cmpR op_lt (pv 9) pe_int (nomark _)) pa_nil))) pa_nil))))))
    (pss_one (ps_expr (pe_bm PySem.F.plainAttrs_list PySem.F.slot_list_append PySem.F.type_list_append mt_append (pv 10) (pa_cons (pe_tup (pa_cons (pe_ix (ix_listK (K := K)) (pe_lst (pa_cons pe_str (pa_cons pe_str (pa_cons pe_str (pa_cons pe_str pa_nil))))) (pe_callH C_law_draw hr (pa_cons (pv 1) (pa_cons pe_int pa_nil))) (fun _ _ => rfl)) (pa_cons (pe_ix (ix_listK (K := K)) (pv 11) pe_int (fun _ _ => rfl)) (pa_cons (pe_ix (ix_listK (K := K)) (pv 11) pe_int (fun _ _ => rfl)) pa_nil)))) pa_nil))))))
    (pss_cons (ps_set (i := 12) sc_law.nd rfl (Or.inl rfl) (pe_callH C_law_joined hr (pa_cons (pv 8) pa_nil)))
    (Evl.pss_cut (ps_if (pt_cmpR (op_neDK (K := K) hr.units) (pv 10) (pe_lst pa_nil) (nomark _))
      (pss_one (ps_set (i := 12) sc_law.nd rfl (Or.inl rfl) (pe_tup (pa_cons pe_str (pa_cons (pv 12) (pa_cons (pe_callH C_law_joined hr (pa_cons (pv 10) pa_nil)) pa_nil))))))
      pss_nil)
    (pss_cons (ps_set (i := 13) sc_law.nd rfl (Or.inl rfl) (pe_callTy call_dictD (by rfl) T.z_dict (by decide +kernel) (pa_cons (pv 6) pa_nil)))
    (pss_cons (ps_set (i := 14) sc_law.nd rfl (Or.inl rfl) (pe_tup (pa_cons pe_str pa_nil)))
    (Evl.pss_cut (ps_try_only rfl rfl ⟨rfl, by decide, Or.inl OC.mO⟩ takes0
      (fun W pn xe tk _ => (pss_one (ps_set (i := 14) sc_law.nd rfl (Or.inl rfl) (pe_tup (pa_cons pe_str (pa_cons (pe_callE C_resolved hr tk (pa_cons (pv 12) (pa_cons (pv 13) pa_nil))) pa_nil))))))
      (fun a oe cls d pn _ _ => (pss_one (ps_set (i := 14) sc_law.nd rfl (Or.inl rfl) (pe_tup (pa_cons pe_str pa_nil))))))
    (pss_one (ps_ret (pe_and (pe_cmpR (op_eqDK (K := K) hr.units) (pv 14) (pe_callH C_law_due hr (pa_cons (pv 8) (pa_cons (pv 10) (pa_cons (pv 5) (pa_cons (pv 6) pa_nil))))) (nomark _)) (pe_and (pe_cmpR (op_eqDDK (K := K) (hu_w hr)) (pv 13) (pv 6) (nomark _)) (pe_one (pe_cmpR op_eq (pe_globI rfl T.c_FIGURES) pe_int (nomark _)))))))))))))))))))))))), ?_⟩
  walk_at "sx"
  refine ⟨a, _, rfl, .inl hS, fun l nl => ?_⟩
  walk_at "sx"
  rename_i p np nm nnm
  have P0 := pool_new nl np hlen
  have fnm := P0.fresh nnm
  generalize upd (upd H l (.lst (ns.map V.int))) p (.lst [.ref l, .int 0, .int 0, .int 0]) = H0 at *
  refine x_cut (M := fun σ' G => ∃ (zs : List Str) (x : Option V), σ' = [some (.ref a), some (.ref p), some (.ref nm), x, none, none, none, none, none, none, none, none, none, none, none, none] ∧ zs.length = 6 ∧ zs.Nodup ∧ (∀ z ∈ zs, TxR (tl CS) 11 z) ∧ G nm = some (.lst (zs.map V.str)) ∧ PoolAt G p l 100) ?_ ?_
  · walk_at "sx"
    refine x_forR1 (n := 6) (fun i σ' G => ∃ (zs : List Str) (x : Option V), σ' = [some (.ref a), some (.ref p), some (.ref nm), x, none, none, none, none, none, none, none, none, none, none, none, none] ∧ zs.length = i ∧ zs.Nodup ∧ (∀ z ∈ zs, TxR (tl CS) (5 + i) z) ∧ G nm = some (.lst (zs.map V.str)) ∧ PoolAt G p l (10 * i)) (by decide) (by decide) ?_ (fun i σ' G hi h => ?_) (fun σ' G h => ?_)
    · exact ⟨[], none, rfl, rfl, List.nodup_nil, (by intro z hz; cases hz), upd_same, P0.upd nnm⟩
    · obtain ⟨zs, x, rfl, hz1, hz2, hz3, hz4, PG⟩ := h
      walk_at "sx"
      refine ⟨p, l, nm, _, CS, zs, 5 + i, rfl, PG, by omega, by decide +kernel, by decide +kernel, hz4, by omega, fun z hz => (hz3 z hz).choose_spec.choose_spec.2.2.2, by omega, by omega, fnm.1, fnm.2, fun z G1 hz hn P1 k1 => ?_⟩
      have hz5 := k1 _ _ hz4 fnm.1 fnm.2
      walk_at "sx"
      refine x_app hz5 (szl (by rw [List.length_map]; omega)) ?_
      walk_at "sx"
      refine ⟨zs ++ [z], _, rfl, by rw [List.length_append, hz1]; rfl, ?_, fun y hy => ?_, ?_, (P1.updo fnm.1 fnm.2).mono (by omega)⟩
      · rw [List.nodup_append]
        refine ⟨hz2, List.nodup_cons.mpr ⟨(by intro h; cases h), List.nodup_nil⟩, fun x hx y hy => ?_⟩
        rw [List.mem_singleton.mp hy]
        exact fun c => hn (c ▸ hx)
      · rcases List.mem_append.mp hy with hy | hy
        · exact (hz3 y hy).imp (by omega)
        · rw [List.mem_singleton.mp hy]
          exact hz.imp (by omega)
      · rw [List.map_append]
        exact upd_same
    · obtain ⟨zs, x, rfl, hz1, hz2, hz3, hz4, PG⟩ := h
      exact ⟨zs, x, rfl, hz1, hz2, fun z hz => (hz3 z hz).imp (by decide), hz4, PG.mono (by decide)⟩
  rintro σ' G ⟨zs, x, rfl, hz1, hz2, hz3, hz4, PG⟩
  walk_at "sx"
  refine ⟨p, l, _, 3, rfl, PG, by decide, by decide, by decide, fun n1 H1 n10 n11 P1 k1 => ?_⟩
  obtain ⟨mn, rfl, hm1⟩ : ∃ mn : Nat, n1 = (mn : Int) ∧ mn < 3 := ⟨n1.toNat, by omega, by omega⟩
  have hz6 := k1 _ _ hz4 fnm.1 fnm.2
  have lz : (zs.map V.str).length = 6 := by rw [List.length_map, hz1]
  walk_at "sx"
  refine x_slL (.of hz6) fun ra nra => ?_
  have ec1 : cutV (zs.map V.str) (some 3) (some (3 + (1 + (mn : Int)))) = ((zs.drop 3).take (mn + 1)).map V.str := by
    unfold cutV
    rw [show (3 : Int) = ((3 : Nat) : Int) from rfl, show ((3 : Nat) : Int) + (1 + (mn : Int)) = ((mn + 4 : Nat) : Int) from by omega, HT.sIx_nat, HT.sIx_nat, lz, show min 3 6 = 3 from rfl, show min (mn + 4) 6 = mn + 4 from by omega, List.map_take, List.map_drop, show mn + 4 - 3 = mn + 1 from by omega]
  rw [ec1]
  walk_at "sx"
  intro fa nfa
  walk_at "sx"
  have fra := P1.fresh nra
  have P2 := P1.upd (o := .lst (((zs.drop 3).take (mn + 1)).map V.str)) nra
  have ffa := P2.fresh nfa
  have P3 := P2.upd (o := .dK []) nfa
  have k13 : Same H1 (upd (upd H1 ra (.lst (((zs.drop 3).take (mn + 1)).map V.str))) fa (.dK [])) := (same_upd nra).trans (same_upd nfa)
  have hz7 := k13 _ _ hz6
  have hra7 : (upd (upd H1 ra (.lst (((zs.drop 3).take (mn + 1)).map V.str))) fa (.dK [])) ra = some (.lst (((zs.drop 3).take (mn + 1)).map V.str)) := same_upd nfa _ _ upd_same
  have hfa7 : (upd (upd H1 ra (.lst (((zs.drop 3).take (mn + 1)).map V.str))) fa (.dK [])) fa = some (.dK []) := upd_same
  generalize upd (upd H1 ra (.lst (((zs.drop 3).take (mn + 1)).map V.str))) fa (.dK []) = H2 at *
  refine x_cut (M := fun σ' G => ∃ (ff : Fl) (r : List (Key × V)) (x7 : Option V), σ' = [some (.ref a), some (.ref p), some (.ref nm), x, some (.int (1 + (mn : Int))), some (.ref ra), some (.ref fa), x7, none, none, none, none, none, none, none, none] ∧ G fa = some (.dK r) ∧ StAt K G 2 r ff ∧ StOk T9 T9 ff ∧ (∀ z ∈ zs.take 3, (look ff z).isSome = true) ∧ ff.length ≤ 3 ∧ G nm = some (.lst (zs.map V.str)) ∧ G ra = some (.lst (((zs.drop 3).take (mn + 1)).map V.str)) ∧ PoolAt G p l 200) ?_ ?_
  · walk_at "sx"
    refine x_slL (.of hz7) fun sl nsl => ?_
    have ec2 : cutV (zs.map V.str) none (some 3) = (zs.take 3).map V.str := by
      unfold cutV
      rw [show (3 : Int) = ((3 : Nat) : Int) from rfl, HT.sIx_none, HT.sIx_nat, lz, show min 3 6 = 3 from rfl, List.drop_zero, Nat.sub_zero, List.map_take]
    rw [ec2]
    have ks : Same H2 (upd H2 sl (.lst ((zs.take 3).map V.str))) := same_upd nsl
    have fsl := P3.fresh nsl
    refine x_forL (K := K) (a := sl) (xs := (zs.take 3).map V.str) (fun i σ' G => ∃ (ff : Fl) (r : List (Key × V)) (x7 : Option V), σ' = [some (.ref a), some (.ref p), some (.ref nm), x, some (.int (1 + (mn : Int))), some (.ref ra), some (.ref fa), x7, none, none, none, none, none, none, none, none] ∧ G fa = some (.dK r) ∧ StAt K G 2 r ff ∧ StOk T9 T9 ff ∧ (∀ z ∈ (zs.take 3).take i, (look ff z).isSome = true) ∧ ff.length ≤ i ∧ G nm = some (.lst (zs.map V.str)) ∧ G ra = some (.lst (((zs.drop 3).take (mn + 1)).map V.str)) ∧ G sl = some (.lst ((zs.take 3).map V.str)) ∧ i ≤ 3 ∧ PoolAt G p l (102 + 21 * i)) ⟨[], [], none, rfl, ks _ _ hfa7, .nil, .nil, (by intro z hz; cases hz), Nat.le_refl _, ks _ _ hz7, ks _ _ hra7, upd_same, by omega, (P3.upd nsl).mono (by omega)⟩ ?_ ?_ ?_ (.of upd_same)
    · rintro i σ' G _ ⟨ff, r, x7, rfl, g1, g2, g3, g4, g5, g6, g7, g8, g9, PG⟩
      exact .of g8
    · rintro i v σ' G hv ⟨ff, r, x7, rfl, g1, g2, g3, g4, g5, g6, g7, g8, g9, PG⟩
      rw [List.getElem?_map] at hv
      cases hz : (zs.take 3)[i]? with
      | none =>
        rw [hz] at hv
        cases hv
      | some z =>
      rw [hz] at hv
      cases hv
      have hzm : z ∈ zs := List.mem_of_mem_take (List.mem_of_getElem? hz)
      have hi3 : i < 3 := by
        have h1 := (List.getElem?_eq_some_iff.mp hz).1
        rw [List.length_take] at h1
        omega
      have lr := g2.len
      walk_at "sx"
      refine ⟨p, l, _, rfl, PG, by omega, fun v t G1 pv okt P4 k4 => ?_⟩
      have g1' := k4 _ _ g1 ffa.1 ffa.2
      have dt := pv.dp
      walk_at "sx"
      refine ⟨fa, _, rfl, DPut.k (k := Sum.inr z) g1' (szl (by omega)), ?_⟩
      have gg : ∀ a xs, SqT K G1 a xs → SqT K (upd G1 fa (.dK (putK r (Sum.inr z) v))) a xs := fun _ _ s => sqT_dk g1' s
      have n4 := putF_len ff z t
      have other : ∀ (b : Addr) (us : List V), G b = some (.lst us) → b ≠ p → b ≠ l → (upd G1 fa (.dK (putK r (Sum.inr z) v))) b = some (.lst us) := fun b us h h1 h2 => by
        have := k4 _ _ h h1 h2
        rw [upd_ne (ne_of this g1' (by intro z; cases z))]
        exact this
      refine ⟨putF ff z t, _, _, rfl, upd_same, (((g2.mono fun _ _ s => k4.sqT PG s).put pv).mono gg), g3.put (hz3 z hzm).unk ⟨okt, by omega⟩, fun y hy => ?_, by omega, other _ _ g6 fnm.1 fnm.2, other _ _ g7 fra.1 fra.2, other _ _ g8 fsl.1 fsl.2, by omega, (P4.updo ffa.1 ffa.2).mono (by omega)⟩
      rw [take_more hz] at hy
      rcases List.mem_append.mp hy with hy | hy
      · exact look_put (.inl (g4 y hy))
      · exact look_put (.inr (List.mem_singleton.mp hy))
    · rintro σ' G ⟨ff, r, x7, rfl, g1, g2, g3, g4, g5, g6, g7, g8, g9, PG⟩
      have l3 : ((zs.take 3).map V.str).length = 3 := by rw [List.length_map, List.length_take, hz1]; rfl
      have l3' : (zs.take 3).length = 3 := by rw [List.length_take, hz1]; rfl
      rw [l3] at g4 g5 PG
      rw [List.take_of_length_le (by omega)] at g4
      exact ⟨ff, r, x7, rfl, g1, g2, g3, g4, g5, g6, g7, PG.mono (by omega)⟩
  rintro σ' G ⟨ff, r, x7, rfl, g1, g2, g3, g4, g5, g6, g7, PG⟩
  walk_at "sx"
  have lrg : ((zs.drop 3).take (mn + 1)).length = mn + 1 := by
    rw [List.length_take, List.length_drop, hz1]
    omega
  refine x_cut (M := fun σ' G => ∃ (ff : Fl) (r : List (Key × V)) (x7 : Option V), σ' = [some (.ref a), some (.ref p), some (.ref nm), x, some (.int (1 + (mn : Int))), some (.ref ra), some (.ref fa), x7, none, none, none, none, none, none, none, none] ∧ G fa = some (.dK r) ∧ StAt K G 2 r ff ∧ StOk T9 T9 ff ∧ (∀ z ∈ zs.take 3, (look ff z).isSome = true) ∧ ff.length ≤ 6 ∧ G nm = some (.lst (zs.map V.str)) ∧ G ra = some (.lst (((zs.drop 3).take (mn + 1)).map V.str)) ∧ PoolAt G p l 300) ?_ ?_
  · walk_at "sx"
    refine x_forL (K := K) (a := ra) (xs := ((zs.drop 3).take (mn + 1)).map V.str) (fun i σ' G => ∃ (ff : Fl) (r : List (Key × V)) (x7 : Option V), σ' = [some (.ref a), some (.ref p), some (.ref nm), x, some (.int (1 + (mn : Int))), some (.ref ra), some (.ref fa), x7, none, none, none, none, none, none, none, none] ∧ G fa = some (.dK r) ∧ StAt K G 2 r ff ∧ StOk T9 T9 ff ∧ (∀ z ∈ zs.take 3, (look ff z).isSome = true) ∧ ff.length ≤ 3 + i ∧ G nm = some (.lst (zs.map V.str)) ∧ G ra = some (.lst (((zs.drop 3).take (mn + 1)).map V.str)) ∧ i ≤ 3 ∧ PoolAt G p l (200 + 21 * i)) ⟨ff, r, x7, rfl, g1, g2, g3, g4, by omega, g6, g7, by omega, PG.mono (by omega)⟩ ?_ ?_ ?_ (.of g7)
    · rintro i σ' G _ ⟨ff, r, x7, rfl, g1, g2, g3, g4, g5, g6, g7, g9, PG⟩
      exact .of g7
    · rintro i v σ' G hv ⟨ff, r, x7, rfl, g1, g2, g3, g4, g5, g6, g7, g9, PG⟩
      rw [List.getElem?_map] at hv
      cases hz : ((zs.drop 3).take (mn + 1))[i]? with
      | none =>
        rw [hz] at hv
        cases hv
      | some z =>
      rw [hz] at hv
      cases hv
      have hzm : z ∈ zs := List.mem_of_mem_drop (List.mem_of_mem_take (List.mem_of_getElem? hz))
      have hi3 : i < 3 := by
        have h1 := (List.getElem?_eq_some_iff.mp hz).1
        rw [lrg] at h1
        omega
      have lr := g2.len
      walk_at "sx"
      refine ⟨p, l, _, 4, rfl, PG, by omega, by decide, by decide, fun n4 H4 n40 n41 P4 k4 => ?_⟩
      have h1 := k4 _ _ g1 ffa.1 ffa.2
      have h6 := k4 _ _ g6 fnm.1 fnm.2
      have h7 := k4 _ _ g7 fra.1 fra.2
      have h2 := g2.mono fun _ _ s => k4.sqT PG s
      walk_at "sx"
      refine x_ite (fun c1 => ?_) (fun c1 => ?_)
      · walk_at "sx"
        refine ⟨p, l, _, rfl, P4, by omega, fun v t G1 pv okt P5 k5 => ?_⟩
        have g1' := k5 _ _ h1 ffa.1 ffa.2
        have dt := pv.dp
        walk_at "sx"
        refine ⟨fa, _, rfl, DPut.k (k := Sum.inr z) g1' (szl (by omega)), ?_⟩
        have gg : ∀ a xs, SqT K G1 a xs → SqT K (upd G1 fa (.dK (putK r (Sum.inr z) v))) a xs := fun _ _ s => sqT_dk g1' s
        have n5 := putF_len ff z t
        have other : ∀ (b : Addr) (us : List V), H4 b = some (.lst us) → b ≠ p → b ≠ l → (upd G1 fa (.dK (putK r (Sum.inr z) v))) b = some (.lst us) := fun b us h h1 h2 => by
          have := k5 _ _ h h1 h2
          rw [upd_ne (ne_of this g1' (by intro z; cases z))]
          exact this
        exact ⟨putF ff z t, _, _, rfl, upd_same, (((h2.mono fun _ _ s => k5.sqT P4 s).put pv).mono gg), g3.put (hz3 z hzm).unk ⟨okt, by omega⟩, fun y hy => look_put (.inl (g4 y hy)), by omega, other _ _ h6 fnm.1 fnm.2, other _ _ h7 fra.1 fra.2, by omega, (P5.updo ffa.1 ffa.2).mono (by omega)⟩
      · walk_at "sx"
        exact ⟨ff, r, _, rfl, h1, h2, g3, g4, by omega, h6, h7, by omega, P4.mono (by omega)⟩
    · rintro σ' G ⟨ff, r, x7, rfl, g1, g2, g3, g4, g5, g6, g7, g9, PG⟩
      rw [List.length_map, lrg] at g5 PG
      exact ⟨ff, r, x7, rfl, g1, g2, g3, g4, by omega, g6, g7, PG.mono (by omega)⟩
  rintro σ' G ⟨ff, r, x7, rfl, g1, g2, g3, g4, g5, g6, g7, PG⟩
  walk_at "sx"
  refine x_lcL (K := K) (a := ra) (xs := ((zs.drop 3).take (mn + 1)).map V.str) (fun D i G' => ∃ (us : List V) (es : List Rg), G' D = some (.lst us) ∧ PtsAt K G' 12 us (es.map rgP) ∧ es.map (·.1) = ((zs.drop 3).take (mn + 1)).take i ∧ (∀ e ∈ es, e.2.1.Ok (fun z => z ∈ zs.take 3) ∧ e.2.2.Ok (fun z => z ∈ zs.take 3) ∧ e.2.1.wt ≤ 1000 ∧ e.2.2.wt ≤ 1000) ∧ i ≤ 3 ∧ PoolAt G' p l (300 + 401 * i) ∧ Kx p l G G') (.of g7) (fun D hD => ⟨[], [], upd_same, .nil, rfl, (by intro e he; cases he), by omega, (PG.upd hD).mono (by omega), (Kx.refl _).updn hD⟩) ?_ ?_ ?_
  · rintro D hD i G' _ ⟨us, es, e1, e2, e3, e4, e5, P', k'⟩
    exact .of (k' _ _ g7 fra.1 fra.2)
  · rintro D hD i v G' hv ⟨us, es, e1, e2, e3, e4, e5, P', k'⟩
    have fD := PG.fresh hD
    rw [List.getElem?_map] at hv
    cases hz : ((zs.drop 3).take (mn + 1))[i]? with
    | none =>
      rw [hz] at hv
      cases hv
    | some z =>
    rw [hz] at hv
    cases hv
    have hi3 : i < 3 := by
      have h1 := (List.getElem?_eq_some_iff.mp hz).1
      rw [lrg] at h1
      omega
    have h6 := k' _ _ g6 fnm.1 fnm.2
    walk_at "sx"
    refine ⟨rfl, ?_⟩
    walk_at "sx"
    refine x_slL (.of h6) fun sl nsl => ?_
    have ec2 : cutV (zs.map V.str) none (some 3) = (zs.take 3).map V.str := by
      unfold cutV
      rw [show (3 : Int) = ((3 : Nat) : Int) from rfl, HT.sIx_none, HT.sIx_nat, lz, show min 3 6 = 3 from rfl, List.drop_zero, Nat.sub_zero, List.map_take]
    rw [ec2]
    walk_at "sx"
    obtain ⟨dp, hdp, edp⟩ : ∃ dp : Nat, dp ≤ 1 ∧ (if decide (1 + (mn : Int) < 3) = true then (1 : Int) else 0) = (dp : Int) := by
      by_cases c : 1 + (mn : Int) < 3
      · exact ⟨1, by decide, by rw [decide_eq_true c]; rfl⟩
      · exact ⟨0, by decide, by rw [decide_eq_false c]; rfl⟩
    rw [edp]
    have ks : Same G' (upd G' sl (.lst ((zs.take 3).map V.str))) := same_upd nsl
    have fsl := P'.fresh nsl
    have nD : D ≠ sl := ne_of_none e1 nsl
    refine ⟨p, l, sl, _, dp, z, zs.take 3, rfl, P'.upd nsl, by omega, hdp, upd_same, by rw [List.length_take, hz1]; decide, by rw [List.length_take, hz1]; decide, fsl.1, fsl.2, fun v t1 t2 G1 pv o1 o2 w1 w2 P1' k1' => ?_⟩
    have kk := (Kx.of ks).trans k1'
    have e1' := kk _ _ e1 fD.1 fD.2
    have lu := e2.1
    rw [List.length_map] at lu
    have le : es.length ≤ 3 := by
      have := congrArg List.length e3
      rw [List.length_map, List.length_take] at this
      omega
    refine ⟨us, e1', szl (by omega), us ++ [v], es ++ [(z, t1, t2)], upd_same, ?_, ?_, fun e he => ?_, by omega, (P1'.updo fD.1 fD.2).mono (by omega), (k'.trans kk).updf hD⟩
    · rw [List.map_append]
      exact ((e2.kx kk P').append (.one pv)).lst e1'
    · rw [List.map_append, e3, take_more hz]
      rfl
    · rcases List.mem_append.mp he with he | he
      · exact e4 e he
      · rw [List.mem_singleton.mp he]
        exact ⟨o1, o2, w1, w2⟩
  · rintro D hD G' ⟨us, es, e1, e2, e3, e4, e5, P', k'⟩
    rw [List.length_map, lrg] at e3 P'
    rw [List.take_of_length_le (by omega)] at e3
    have h1 := k' _ _ g1 ffa.1 ffa.2
    have h2 := g2.mono fun _ _ s => k'.sqT PG s
    have h6 := k' _ _ g6 fnm.1 fnm.2
    have h7 := k' _ _ g7 fra.1 fra.2
    have fD := PG.fresh hD
    walk_at "sx"
    refine ⟨p, l, _, 5, rfl, P', by omega, by decide, by decide, fun ct H4 c0 c1 P4 k4 => ?_⟩
    walk_at "sx"
    rename_i tsl ntsl
    have ftl := P4.fresh ntsl
    have kt : Same H4 (upd H4 tsl (.lst [])) := same_upd ntsl
    have k45 : Kx p l G' (upd H4 tsl (.lst [])) := k4.updn ntsl
    refine x_cut (M := fun σ' G5 => ∃ (ws : List V) (ts : List Rg) (x3 x11 : Option V), σ' = [some (.ref a), some (.ref p), some (.ref nm), x3, some (.int (1 + (mn : Int))), some (.ref ra), some (.ref fa), x7, some (.ref D), some (.int ct), some (.ref tsl), x11, none, none, none, none] ∧ G5 tsl = some (.lst ws) ∧ PtsAt K G5 12 ws (ts.map tsP) ∧ (∀ e ∈ ts, e.1 ≠ "and" ∧ T9 e.1 ∧ e.2.1.Ok (fun z => z ∈ zs.take (mn + 4)) ∧ e.2.2.Ok (fun z => z ∈ zs.take (mn + 4)) ∧ e.2.1.Sml ∧ e.2.2.Sml ∧ e.2.1.wt ≤ 1000 ∧ e.2.2.wt ≤ 1000) ∧ ts.length ≤ 5 ∧ Kx p l G' G5) ?_ ?_
    · walk_at "sx"
      refine x_forR1 (n := ct) (fun i σ' G5 => ∃ (ws : List V) (ts : List Rg) (x3 x11 : Option V), σ' = [some (.ref a), some (.ref p), some (.ref nm), x3, some (.int (1 + (mn : Int))), some (.ref ra), some (.ref fa), x7, some (.ref D), some (.int ct), some (.ref tsl), x11, none, none, none, none] ∧ G5 tsl = some (.lst ws) ∧ PtsAt K G5 12 ws (ts.map tsP) ∧ (∀ e ∈ ts, e.1 ≠ "and" ∧ T9 e.1 ∧ e.2.1.Ok (fun z => z ∈ zs.take (mn + 4)) ∧ e.2.2.Ok (fun z => z ∈ zs.take (mn + 4)) ∧ e.2.1.Sml ∧ e.2.2.Sml ∧ e.2.1.wt ≤ 1000 ∧ e.2.2.wt ≤ 1000) ∧ ts.length ≤ i ∧ i ≤ 5 ∧ PoolAt G5 p l (5000 + 400 * i) ∧ Kx p l G' G5) (by omega) (by omega) ?_ (fun i σ' G5 hi h => ?_) (fun σ' G5 h => ?_)
      · exact ⟨[], [], _, _, rfl, upd_same, .nil, (by intro e he; cases he), Nat.le_refl _, by omega, (P4.upd ntsl).mono (by omega), k45⟩
      · obtain ⟨ws, ts, x3, x11, rfl, f1, f2, f3, f4, f5, PG5, k5⟩ := h
        have hi5 : i < 5 := by omega
        have h65 := k5 _ _ h6 fnm.1 fnm.2
        obtain ⟨dp, hdp1, hdp2, edp⟩ : ∃ dp : Nat, 1 ≤ dp ∧ dp ≤ 2 ∧ 1 + (if decide (ct < 3) = true then (1 : Int) else 0) = (dp : Int) := by
          by_cases c : ct < 3
          · exact ⟨2, by decide, by decide, by rw [decide_eq_true c]; rfl⟩
          · exact ⟨1, by decide, by decide, by rw [decide_eq_false c]; rfl⟩
        have ec3 : cutV (zs.map V.str) none (some (3 + (1 + (mn : Int)))) = (zs.take (mn + 4)).map V.str := by
          unfold cutV
          rw [show (3 : Int) + (1 + (mn : Int)) = ((mn + 4 : Nat) : Int) from by omega, HT.sIx_none, HT.sIx_nat, lz, show min (mn + 4) 6 = mn + 4 from by omega, List.drop_zero, Nat.sub_zero, List.map_take]
        have lt4 : (zs.take (mn + 4)).length = mn + 4 := by
          rw [List.length_take, hz1]
          omega
        have ftl5 : G' tsl = none := k4.none ntsl ftl.1 ftl.2
        walk_at "sx"
        refine x_lcR1 (n := 2) (fun D2 j G6 => ∃ (ss : List V) (sm : List Sm), G6 D2 = some (.lst ss) ∧ PtsAt K G6 3 ss (sm.map Sm.pt) ∧ sm.length = j ∧ j ≤ 2 ∧ (∀ t ∈ sm, t.Ok (fun z => z ∈ zs.take (mn + 4)) ∧ t.Sml ∧ t.wt ≤ 1000) ∧ PoolAt G6 p l (5000 + 400 * i + 100 * j) ∧ Kx p l G5 G6) (by decide) (by decide) (fun D2 nD2 => ⟨[], [], upd_same, .nil, rfl, by decide, (by intro t h; cases h), (PG5.upd nD2).mono (by omega), (Kx.refl _).updn nD2⟩) (fun D2 nD2 j G6 hj h => ?_) (fun D2 nD2 G6 h => ?_)
        · obtain ⟨ss, sm, s1, s2, s3, s4, s5, PG6, k6⟩ := h
          have fD2 := PG5.fresh nD2
          have h66 := k6 _ _ h65 fnm.1 fnm.2
          walk_at "sx"
          refine ⟨rfl, ?_⟩
          walk_at "sx"
          refine x_slL (.of h66) fun sl nsl => ?_
          rw [ec3]
          walk_at "sx"
          rw [edp]
          have ks : Same G6 (upd G6 sl (.lst ((zs.take (mn + 4)).map V.str))) := same_upd nsl
          have fsl := PG6.fresh nsl
          have hpw : (24 * 2 ^ dp - 4 : Int) ≤ 100 ∧ 211 * 2 ^ dp ≤ 844 := by
            have : dp = 1 ∨ dp = 2 := by omega
            rcases this with rfl | rfl <;> decide
          refine ⟨p, l, sl, _, dp, zs.take (mn + 4), rfl, PG6.upd nsl, by omega, upd_same, by omega, by omega, fsl.1, fsl.2, by omega, by omega, fun v t H7 pv o sml wt P7 k7 => ?_⟩
          have kk := (Kx.of ks).trans k7
          have s1' := kk _ _ s1 fD2.1 fD2.2
          have ls := s2.1
          rw [List.length_map, s3] at ls
          refine ⟨ss, s1', szl (by omega), ss ++ [v], sm ++ [t], upd_same, ?_, by rw [List.length_append, s3]; rfl, by omega, fun e he => ?_, (P7.updo fD2.1 fD2.2).mono (by omega), (k6.trans kk).updf nD2⟩
          · rw [List.map_append]
            exact ((s2.kx kk PG6).append (.one pv)).lst s1'
          · rcases List.mem_append.mp he with he | he
            · exact s5 e he
            · rw [List.mem_singleton.mp he]
              exact ⟨o, sml, by omega⟩
        · obtain ⟨ss, sm, s1, s2, s3, s4, s5, PG6, k6⟩ := h
          have fD2 := PG5.fresh nD2
          have ls := s2.1
          rw [List.length_map, s3] at ls
          match sm, s3, ss, ls with
          | [t1, t2], _, [v1, v2], _ =>
          obtain ⟨o1, m1, w1⟩ := s5 t1 (List.mem_cons_self ..)
          obtain ⟨o2, m2, w2⟩ := s5 t2 (List.mem_cons_of_mem _ (List.mem_cons_self ..))
          have q1 : PtAt K G6 3 v1 t1.pt := s2.2 0 v1 _ rfl rfl
          have q2 : PtAt K G6 3 v2 t2.pt := s2.2 1 v2 _ rfl rfl
          have f16 := k6 _ _ f1 ftl.1 ftl.2
          walk_at "sx"
          rename_i bl nb
          have nbD : D2 ≠ bl := ne_of_none s1 nb
          refine ⟨p, l, _, 4, rfl, PG6.upd nb, by omega, by decide, by decide, fun n7 H7 n70 n71 P7 k7 => ?_⟩
          obtain ⟨v7, hv7, hat7⟩ := atL (xs := [V.str "<", .str "=<", .str "==", .str "=/="]) n70 (by show n7 < 4; exact n71)
          obtain ⟨sg, rfl, hsg1, hsg2⟩ := signs4_in hv7
          refine x_ixL (.of (kxl PG6 nb k7)) hat7 ?_
          have k67 : Kx p l G6 H7 := ((Kx.refl _).updn nb).trans k7
          have s17 := k67 _ _ s1 fD2.1 fD2.2
          have f17 := k67 _ _ (k6 _ _ f1 ftl.1 ftl.2) ftl.1 ftl.2
          walk_at "sx"
          rename_i tp ntp
          have ftp := P7.fresh ntp
          have ntl : tsl ≠ tp := ne_of_none f17 ntp
          have lw := f2.1
          rw [List.length_map] at lw
          have kt7 : Same H7 (upd H7 tp (.tup [.str sg, v1, v2])) := same_upd ntp
          refine x_app (kt7 _ _ f17) (szl (by omega)) ?_
          walk_at "sx"
          have pt : PtAt K (upd H7 tp (.tup [.str sg, v1, v2])) 4 (.ref tp) (tsP (sg, t1, t2)) := by
            refine ⟨tp, [v1, v2], rfl, .of upd_same, rfl, fun i y u h1 h2 => ?_⟩
            match i, h1, h2 with
            | 0, h1, h2 =>
              cases h1
              cases h2
              exact (q1.kx k67 PG6).same kt7
            | 1, h1, h2 =>
              cases h1
              cases h2
              exact (q2.kx k67 PG6).same kt7
          have k57 : Kx p l G5 (upd H7 tp (.tup [.str sg, v1, v2])) := (k6.trans k67).trans (.of kt7)
          refine ⟨ws ++ [.ref tp], ts ++ [(sg, t1, t2)], _, _, rfl, upd_same, ?_, fun e he => ?_, by rw [List.length_append]; show ts.length + 1 ≤ _; omega, by omega, ((P7.upd ntp).updo ftl.1 ftl.2).mono (by omega), (k5.trans k57).updf ftl5⟩
          · rw [List.map_append]
            exact ((f2.kx k57 PG5).append (.one (pt.up (by decide)))).lst (kt7 _ _ f17)
          · rcases List.mem_append.mp he with he | he
            · exact f3 e he
            · rw [List.mem_singleton.mp he]
              exact ⟨hsg1, hsg2, o1, o2, m1, m2, w1, w2⟩
      · obtain ⟨ws, ts, x3, x11, rfl, f1, f2, f3, f4, f5, PG5, k5⟩ := h
        exact ⟨ws, ts, x3, x11, rfl, f1, f2, f3, by omega, k5⟩
    rintro σ' G5 ⟨ws, ts, x3, x11, rfl, f1, f2, f3, f4, k5⟩
    have hD5 := k5 _ _ e1 fD.1 fD.2
    have pts5 := e2.kx k5 P'
    have leD : es.length = mn + 1 := by
      have := congrArg List.length e3
      rw [List.length_map, lrg] at this
      omega
    have lets : es.map rgP ≠ [] := fun c => by
      have h0 := congrArg List.length c
      rw [List.length_map, leD] at h0
      cases h0
    have lr := f2.1
    rw [List.length_map] at lr
    walk_at "sx"
    refine ⟨D, us, es.map rgP, 12, rfl, hD5, pts5, lets, by rw [List.length_map]; omega, fun gv H6 k6 pg => ?_⟩
    rw [List.length_map] at pg
    have f16 := k6 _ _ f1
    have hD6 := k6 _ _ hD5
    have pts6 := pts5.same k6
    have f26 := f2.same k6
    have h76 := k6 _ _ (k5 _ _ h7 fra.1 fra.2)
    have h16 := k6 _ _ (k5 _ _ h1 ffa.1 ffa.2)
    have h26 : StAt K H6 2 r ff := (h2.mono fun _ _ s => k5.sqT P' s).mono fun _ _ s => Same.sqT k6 s
    have wsz : SeqAt.shaped (.list (ts.map fun e => ptD (tsP e))) = true ∧ ∀ G, Same H6 G → Dp K G (.ref tsl) (.list (ts.map fun e => ptD (tsP e))) := by
      refine ⟨?_, fun G kG => .lst (.of (kG _ _ f16)) ?_⟩
      · show (PyData.canLayAll0 (ts.map fun e => ptD (tsP e)) && decide (PyData.depth (.list (ts.map fun e => ptD (tsP e))) ≤ 64)) = true
        have em : (ts.map fun e => ptD (tsP e)) = (ts.map tsP).map ptD := by rw [List.map_map]; rfl
        rw [em, Bool.and_eq_true]
        constructor
        · rw [← ptDL_map]
          refine ptDL_lay (T := T9) (N := T9) (fun _ h => t9_ok h) (fun _ h => t9_ok h) (okL_mem.mpr fun t ht => ?_)
          obtain ⟨e, he, rfl⟩ := List.mem_map.mp ht
          obtain ⟨b1, b2, b3, b4, b5, b6, b7, b8⟩ := f3 e he
          have t9 : ∀ z, z ∈ zs.take (mn + 4) → T9 z := fun z hz => (hz3 z (List.mem_of_mem_take hz)).t9 fun c hc => (cs_C c hc).2
          exact ⟨b2, by show 0 < 2; decide, by show 2 ≤ 4; decide, Sm.okT t9 b3 b5, Sm.okT t9 b4 b6, trivial⟩
        · refine decide_eq_true ?_
          have := depthAll_le (k := 12) (us := ts.map tsP) fun u hu => by
            obtain ⟨i, hi, rfl⟩ := List.getElem_of_mem hu
            have hl := f26.1
            exact (f26.2 i _ _ (List.getElem?_eq_getElem (by omega)) (List.getElem?_eq_getElem hi)).dp
          simp only [PyData.depth]
          omega
      · have := (f26.same kG).dpd
        rw [List.map_map] at this
        exact this
    walk_at "sx"
    refine x_cut (M := fun σ' G => ∃ gv' : V, σ' = [some (.ref a), some (.ref p), some (.ref nm), x3, some (.int (1 + (mn : Int))), some (.ref ra), some (.ref fa), x7, some (.ref D), some (.int ct), some (.ref tsl), x11, some gv', none, none, none] ∧ Same H6 G ∧ PtAt K G 22 gv' (fieldP (es.map rgP) (ts.map tsP))) ?_ ?_
    · walk_at "sx"
      rename_i el nel
      have kel : Same H6 (upd H6 el (.lst [])) := same_upd nel
      refine ⟨_, .list [], wsz.2 _ kel, .lst (.of upd_same) .nil, wsz.1, by decide +kernel, ?_⟩
      have eqe : PyData.eqv (.list (ts.map fun e => ptD (tsP e))) (.list []) = decide (ts = []) := by
        cases ts with
        | nil => rfl
        | cons n r => rfl
      rw [eqe]
      by_cases c : ts = []
      · rw [decide_eq_true c]
        walk_at "sx"
        refine ⟨gv, rfl, kel, ?_⟩
        unfold fieldP
        rw [if_pos (by rw [c]; rfl)]
        exact (pg.same kel).up (by omega)
      · rw [decide_eq_false c]
        walk_at "sx"
        refine ⟨tsl, ws, ts.map tsP, 12, rfl, kel _ _ f16, f26.same kel, fun c1 => c (List.map_eq_nil_iff.mp c1), by rw [List.length_map]; omega, fun gw H7 k7 pw => ?_⟩
        rw [List.length_map] at pw
        walk_at "sx"
        rename_i gt ngt
        have kgt : Same H7 (upd H7 gt (.tup [.str "such", gv, gw])) := same_upd ngt
        refine ⟨_, rfl, (kel.trans k7).trans kgt, ?_⟩
        unfold fieldP
        rw [if_neg (fun c1 => c (List.map_eq_nil_iff.mp c1))]
        refine ⟨gt, [gv, gw], rfl, .of upd_same, rfl, fun i y u h1 h2 => ?_⟩
        match i, h1, h2 with
        | 0, h1, h2 =>
          cases h1
          cases h2
          exact (((pg.same kel).same k7).same kgt).up (j := 21) (by omega)
        | 1, h1, h2 =>
          cases h1
          cases h2
          exact (pw.same kgt).up (j := 21) (by omega)
    rintro σ' G7 ⟨gv', rfl, k67, pg7⟩
    have h17 := k67 _ _ h16
    have h27 : StAt K G7 2 r ff := h26.mono fun _ _ s => Same.sqT k67 s
    walk_at "sx"
    refine ⟨fa, r, rfl, .inl h17, fun hd nhd => ?_⟩
    have khd : Same G7 (upd G7 hd (.dK r)) := same_upd nhd
    walk_at "sx"
    rename_i ft nft
    have kft : Same (upd G7 hd (.dK r)) (upd (upd G7 hd (.dK r)) ft (.tup [.str "open"])) := same_upd nft
    have k78 := khd.trans kft
    have hhd8 : (upd (upd G7 hd (.dK r)) ft (.tup [.str "open"])) hd = some (.dK r) := kft _ _ upd_same
    generalize upd (upd G7 hd (.dK r)) ft (.tup [.str "open"]) = G8 at *
    have k68 := k67.trans k78
    have pg8 := pg7.same k78
    have st8 : StAt K G8 2 r ff := h27.mono fun _ _ s => Same.sqT k78 s
    have inS : ∀ z, z ∈ zs.take 3 → (look ff z).isSome = true := g4
    have ez4 : zs.take (mn + 4) = zs.take 3 ++ (zs.drop 3).take (mn + 1) := by
      rw [show mn + 4 = 3 + (mn + 1) from by omega, List.take_add]
    have inB : ∀ z, z ∈ zs.take (mn + 4) → z ∈ es.map (·.1) ∨ (look ff z).isSome = true := fun z hz => by
      rw [ez4] at hz
      rcases List.mem_append.mp hz with hz | hz
      · exact .inr (g4 z hz)
      · exact .inl (by rw [e3]; exact hz)
    have ndE : (es.map (·.1)).Nodup := by
      rw [e3]
      exact ((List.take_sublist _ _).trans (List.drop_sublist _ _)).nodup hz2
    have t9z : ∀ z, z ∈ zs.take (mn + 4) → TxOk z := fun z hz => by
      have hz' := hz3 z (List.mem_of_mem_take hz)
      obtain ⟨c, t, e, _, _, l⟩ := hz'
      exact ⟨c, t, e, by omega⟩
    have hrs : ∀ e ∈ es, e.2.1.Ok (fun z => (look ff z).isSome = true) ∧ e.2.2.Ok (fun z => (look ff z).isSome = true) ∧ e.2.1.wt ≤ 1000 ∧ e.2.2.wt ≤ 1000 := fun e he => by
      obtain ⟨a1, a2, a3, a4⟩ := e4 e he
      exact ⟨a1.imp inS, a2.imp inS, a3, a4⟩
    have numlt : NumLt ff := fun z n e => by
      have := (g3.ok _ (look_mem e)).1
      have h' : n.natAbs < 10 ^ 60 := this
      exact Nat.lt_trans h' (by decide)
    have rsne : es ≠ [] := fun c => by
      rw [c] at leD
      cases leD
    have szts : szL (ts.map tsP) ≤ 5000 := by
      have h1 : ∀ (l : List Rg), (∀ e ∈ l, e.2.1.wt ≤ 1000 ∧ e.2.2.wt ≤ 1000) → szL (l.map tsP) ≤ l.length * 20 := by
        intro l
        induction l with
        | nil => intro _; exact Nat.le_refl _
        | cons e r ih =>
          intro h
          have i1 := ih fun e' m => h e' (List.mem_cons_of_mem _ m)
          obtain ⟨w1, w2⟩ := h e (List.mem_cons_self ..)
          have s1 := e.2.1.sz_wt
          have s2 := e.2.2.sz_wt
          rw [List.map_cons, szL, List.length_cons]
          show szT (.t e.1 [e.2.1.pt, e.2.2.pt]) + _ ≤ _
          rw [szT, szL, szL, szL]
          omega
      have h2 := h1 ts fun e he => (f3 e he).2.2.2.2.2.2
      omega
    have okts : okL TxOk T9 (ts.map tsP) := okL_mem.mpr fun t ht => by
      obtain ⟨e, he, rfl⟩ := List.mem_map.mp ht
      obtain ⟨b1, b2, b3, b4, b5, b6, b7, b8⟩ := f3 e he
      exact ⟨b2, by show 0 < 2; decide, by show 2 ≤ 4; decide, Sm.okT t9z b3 b5, Sm.okT t9z b4 b6, trivial⟩
    have hts : ∀ e ∈ ts, e.1 ≠ "and" ∧ e.2.1.Ok (fun z => z ∈ zs.take (mn + 4)) ∧ e.2.2.Ok (fun z => z ∈ zs.take (mn + 4)) ∧ ∀ z ∈ tnN e, unkS z = true ∧ (z ∈ es.map (·.1) ∨ (look ff z).isSome = true) := fun e he => by
      obtain ⟨b1, b2, b3, b4, b5, b6, b7, b8⟩ := f3 e he
      refine ⟨b1, b3, b4, fun z hz => ?_⟩
      have hz4' : z ∈ zs.take (mn + 4) := by
        rcases List.mem_append.mp hz with hz | hz
        · exact b3.mem z hz
        · exact b4.mem z hz
      exact ⟨(hz3 z (List.mem_of_mem_take hz4')).unk, inB z hz4'⟩
    have ttold : PyData.canLay0 (.str "told") = true := by decide +kernel
    refine x_cut (M := fun σ' G => ∃ fv : V, σ' = [some (.ref a), some (.ref p), some (.ref nm), x3, some (.int (1 + (mn : Int))), some (.ref ra), some (.ref fa), x7, some (.ref D), some (.int ct), some (.ref tsl), x11, some gv', some (.ref hd), some fv, none] ∧ Same G8 G ∧ (∀ G', Same G G' → Dp K G' fv (resD (resP ff es ts))) ∧ SeqAt.shaped (resD (resP ff es ts)) = true) ?_ ?_
    · walk_at "sx"
      refine ⟨gv', hd, es, ts, r, ff, 2, T9, (fun z => z ∈ zs.take (mn + 4)), rfl, pg8, rsne, by omega, by omega, ndE, (fun e he => by obtain ⟨a1, a2, a3, a4⟩ := hrs e he; exact ⟨a1, a2, by omega, by omega⟩), hts, okts, szts, hhd8, st8, by decide, numlt, fun H' kk e => ?_, fun H' kk e => ?_, fun bx us' H' qq pp tr ws' e kk s1 s2 s3 s4 => ?_⟩
      · refine ⟨true, OC.exm, fun _ a' na' => ?_, fun c => by cases c⟩
        walk_at "sx"
        rename_i nt nnt
        exact ⟨_, rfl, kk.trans (same_upd nnt), (fun G' g' => by rw [e]; exact .tup (.of (g' _ _ upd_same)) (.cons (.str _) .nil)), by rw [e]; decide +kernel⟩
      · walk_at "sx"
        rename_i nt nnt
        exact ⟨_, rfl, kk.trans (same_upd nnt), (fun G' g' => by rw [e]; exact .tup (.of (g' _ _ upd_same)) (.cons (.str _) (.cons .non .nil))), by rw [e]; decide +kernel⟩
      · walk_at "sx"
        rename_i nt nnt
        have knt := same_upd (o := .tup [V.str "told", .ref qq]) nnt
        refine ⟨_, rfl, kk.trans knt, fun G' g' => ?_, ?_⟩
        · rw [e]
          have kng := knt.trans g'
          exact .tup (.of (g' _ _ upd_same)) (.cons (.str _) (.cons (.tup (Same.sqT kng s1) (.cons (s2.same kng).dp (.cons (.tup (Same.sqT kng s3) (s4.same kng).dpd) .nil))) .nil))
        · rw [e]
          refine res_shaped (D := fun z => z ∈ zs.take (mn + 4)) (fun e he => ?_) e fun u hu => ?_
          · obtain ⟨b1, b2, b3, b4, b5, b6, b7, b8⟩ := f3 e he
            exact ⟨b2, b3, b4⟩
          · obtain ⟨i, hi, rfl⟩ := List.getElem_of_mem hu
            have hl := s4.1
            have := (s4.2 i _ _ (List.getElem?_eq_getElem (by omega)) (List.getElem?_eq_getElem hi)).dp
            omega
    rintro σ' G9 ⟨fv, rfl, k89, dfv, sfv⟩
    have k69 := k68.trans k89
    walk_at "sx"
    refine ⟨D, tsl, ra, fa, us, ws, es, ts, r, ff, 2, rfl, k69 _ _ hD6, pts6.same k69, k69 _ _ f16, f26.same k69, ?_, by omega, by omega, (fun e he => by obtain ⟨a1, a2, a3, a4⟩ := hrs e he; exact ⟨a1, a2, by omega, by omega⟩), (fun e he => ?_), (k78.trans k89) _ _ h17, (h27.mono fun _ _ s => Same.sqT (k78.trans k89) s), numlt, fun v' H' kk dv => ?_⟩
    · rw [e3]
      exact k69 _ _ h76
    · obtain ⟨b1, b2, b3, b4, b5, b6, b7, b8⟩ := f3 e he
      exact ⟨b3.imp inB, b4.imp inB⟩
    · refine x_eqD_refl (dfv _ kk) dv sfv ?_
      walk_at "sx"
      have k9 := (k89.trans kk)
      refine x_eqSt (fun _ h => t9_ok h) (fun _ h => t9_ok h) (k9 _ _ hhd8) ((k78.trans k9) _ _ h17) (st8.mono fun _ _ s => Same.sqT k9 s) (h27.mono fun _ _ s => Same.sqT (k78.trans k9) s) g3 ?_
      walk_at "sx"
      exact q _
end
end Gs

namespace Gs
open PySem PySem.Spec PyProof.Rows L2 TL
theorem all_mk {l : PySem.W.OpenLaw} {w : World} {K : PySem.W.Frag} {h : Heap} {mg : Str → Option Value} {fa f0 f1 f2 f3 f4 f5 f6 f7 f8 f9 f10 f11 f12 f13 f14 f15 f16 f17 f18 f19 f20 f21 f22 f23 f24 f25 : Addr} (X : K.In h) (G : h.Ns mainGlobals mg) (hfa : mg "law" = some (.ref fa))
    {od0 an0 : Option Addr} {sl0 : Array (Option Value)} {oc0 kV0 dc0 pm0 cd0 ct0 : Value}
    (a0 : PySem.W.nsIn K mainGlobals "is_unknown" = some (some (.ref f0))) (l0 : K.lookup f0 = some ⟨oc0, od0, .func (PySem.W.fnOf "is_unknown" "is_unknown" (defArgs s_is_unknown) (defBody s_is_unknown) (defScope s_is_unknown) .none kV0 dc0 pm0 an0 cd0 ct0), sl0⟩) (c0 : PySem.W.codeIn K cd0 "is_unknown" = true) (k0 : PySem.W.keepIn K (.ref f0) = true)
    {od1 an1 : Option Addr} {sl1 : Array (Option Value)} {oc1 kV1 dc1 pm1 cd1 ct1 : Value}
    (a1 : PySem.W.nsIn K mainGlobals "unknowns_of" = some (some (.ref f1))) (l1 : K.lookup f1 = some ⟨oc1, od1, .func (PySem.W.fnOf "unknowns_of" "unknowns_of" (defArgs s_unknowns_of) (defBody s_unknowns_of) (defScope s_unknowns_of) .none kV1 dc1 pm1 an1 cd1 ct1), sl1⟩) (c1 : PySem.W.codeIn K cd1 "unknowns_of" = true) (k1 : PySem.W.keepIn K (.ref f1) = true)
    {od2 an2 : Option Addr} {sl2 : Array (Option Value)} {oc2 kV2 dc2 pm2 cd2 ct2 : Value}
    (a2 : PySem.W.nsIn K mainGlobals "_is_named" = some (some (.ref f2))) (l2 : K.lookup f2 = some ⟨oc2, od2, .func (PySem.W.fnOf "_is_named" "_is_named" (defArgs s_is_named) (defBody s_is_named) (defScope s_is_named) .none kV2 dc2 pm2 an2 cd2 ct2), sl2⟩) (c2 : PySem.W.codeIn K cd2 "_is_named" = true) (k2 : PySem.W.keepIn K (.ref f2) = true)
    {od3 an3 : Option Addr} {sl3 : Array (Option Value)} {oc3 kV3 dc3 pm3 cd3 ct3 : Value}
    (a3 : PySem.W.nsIn K mainGlobals "parted_by_and" = some (some (.ref f3))) (l3 : K.lookup f3 = some ⟨oc3, od3, .func (PySem.W.fnOf "parted_by_and" "parted_by_and" (defArgs s_parted_by_and) (defBody s_parted_by_and) (defScope s_parted_by_and) .none kV3 dc3 pm3 an3 cd3 ct3), sl3⟩) (c3 : PySem.W.codeIn K cd3 "parted_by_and" = true) (k3 : PySem.W.keepIn K (.ref f3) = true)
    {od4 an4 : Option Addr} {sl4 : Array (Option Value)} {oc4 kV4 dc4 pm4 cd4 ct4 : Value}
    (a4 : PySem.W.nsIn K mainGlobals "field_parts" = some (some (.ref f4))) (l4 : K.lookup f4 = some ⟨oc4, od4, .func (PySem.W.fnOf "field_parts" "field_parts" (defArgs s_field_parts) (defBody s_field_parts) (defScope s_field_parts) .none kV4 dc4 pm4 an4 cd4 ct4), sl4⟩) (c4 : PySem.W.codeIn K cd4 "field_parts" = true) (k4 : PySem.W.keepIn K (.ref f4) = true)
    {od5 an5 : Option Addr} {sl5 : Array (Option Value)} {oc5 kV5 dc5 pm5 cd5 ct5 : Value}
    (a5 : PySem.W.nsIn K mainGlobals "_number_in" = some (some (.ref f5))) (l5 : K.lookup f5 = some ⟨oc5, od5, .func (PySem.W.fnOf "_number_in" "_number_in" (defArgs s_number_in) (defBody s_number_in) (defScope s_number_in) .none kV5 dc5 pm5 an5 cd5 ct5), sl5⟩) (c5 : PySem.W.codeIn K cd5 "_number_in" = true) (k5 : PySem.W.keepIn K (.ref f5) = true)
    {od6 an6 : Option Addr} {sl6 : Array (Option Value)} {oc6 kV6 dc6 pm6 cd6 ct6 : Value}
    (a6 : PySem.W.nsIn K mainGlobals "_reckoned" = some (some (.ref f6))) (l6 : K.lookup f6 = some ⟨oc6, od6, .func (PySem.W.fnOf "_reckoned" "_reckoned" (defArgs s_reckoned) (defBody s_reckoned) (defScope s_reckoned) .none kV6 dc6 pm6 an6 cd6 ct6), sl6⟩) (c6 : PySem.W.codeIn K cd6 "_reckoned" = true) (k6 : PySem.W.keepIn K (.ref f6) = true)
    {od7 an7 : Option Addr} {sl7 : Array (Option Value)} {oc7 kV7 dc7 pm7 cd7 ct7 : Value}
    (a7 : PySem.W.nsIn K mainGlobals "worth_of" = some (some (.ref f7))) (l7 : K.lookup f7 = some ⟨oc7, od7, .func (PySem.W.fnOf "worth_of" "worth_of" (defArgs s_worth_of) (defBody s_worth_of) (defScope s_worth_of) .none kV7 dc7 pm7 an7 cd7 ct7), sl7⟩) (c7 : PySem.W.codeIn K cd7 "worth_of" = true) (k7 : PySem.W.keepIn K (.ref f7) = true)
    {od8 an8 : Option Addr} {sl8 : Array (Option Value)} {oc8 kV8 dc8 pm8 cd8 ct8 : Value}
    (a8 : PySem.W.nsIn K mainGlobals "tree_of" = some (some (.ref f8))) (l8 : K.lookup f8 = some ⟨oc8, od8, .func (PySem.W.fnOf "tree_of" "tree_of" (defArgs s_tree_of) (defBody s_tree_of) (defScope s_tree_of) .none kV8 dc8 pm8 an8 cd8 ct8), sl8⟩) (c8 : PySem.W.codeIn K cd8 "tree_of" = true) (k8 : PySem.W.keepIn K (.ref f8) = true)
    {od9 an9 : Option Addr} {sl9 : Array (Option Value)} {oc9 kV9 dc9 pm9 cd9 ct9 : Value}
    (a9 : PySem.W.nsIn K mainGlobals "placed_test" = some (some (.ref f9))) (l9 : K.lookup f9 = some ⟨oc9, od9, .func (PySem.W.fnOf "placed_test" "placed_test" (defArgs s_placed_test) (defBody s_placed_test) (defScope s_placed_test) .none kV9 dc9 pm9 an9 cd9 ct9), sl9⟩) (c9 : PySem.W.codeIn K cd9 "placed_test" = true) (k9 : PySem.W.keepIn K (.ref f9) = true)
    {od10 an10 : Option Addr} {sl10 : Array (Option Value)} {oc10 kV10 dc10 pm10 cd10 ct10 : Value}
    (a10 : PySem.W.nsIn K mainGlobals "_worths_of" = some (some (.ref f10))) (l10 : K.lookup f10 = some ⟨oc10, od10, .func (PySem.W.fnOf "_worths_of" "_worths_of" (defArgs s_worths_of) (defBody s_worths_of) (defScope s_worths_of) .none kV10 dc10 pm10 an10 cd10 ct10), sl10⟩) (c10 : PySem.W.codeIn K cd10 "_worths_of" = true) (k10 : PySem.W.keepIn K (.ref f10) = true)
    {od11 an11 : Option Addr} {sl11 : Array (Option Value)} {oc11 kV11 dc11 pm11 cd11 ct11 : Value}
    (a11 : PySem.W.nsIn K mainGlobals "_many" = some (some (.ref f11))) (l11 : K.lookup f11 = some ⟨oc11, od11, .func (PySem.W.fnOf "_many" "_many" (defArgs s_many) (defBody s_many) (defScope s_many) .none kV11 dc11 pm11 an11 cd11 ct11), sl11⟩) (c11 : PySem.W.codeIn K cd11 "_many" = true) (k11 : PySem.W.keepIn K (.ref f11) = true)
    {od12 an12 : Option Addr} {sl12 : Array (Option Value)} {oc12 kV12 dc12 pm12 cd12 ct12 : Value}
    (a12 : PySem.W.nsIn K mainGlobals "_refuse_many" = some (some (.ref f12))) (l12 : K.lookup f12 = some ⟨oc12, od12, .func (PySem.W.fnOf "_refuse_many" "_refuse_many" (defArgs s_refuse_many) (defBody s_refuse_many) (defScope s_refuse_many) .none kV12 dc12 pm12 an12 cd12 ct12), sl12⟩) (c12 : PySem.W.codeIn K cd12 "_refuse_many" = true) (k12 : PySem.W.keepIn K (.ref f12) = true)
    {od13 an13 : Option Addr} {sl13 : Array (Option Value)} {oc13 kV13 dc13 pm13 cd13 ct13 : Value}
    (a13 : PySem.W.nsIn K mainGlobals "box_of" = some (some (.ref f13))) (l13 : K.lookup f13 = some ⟨oc13, od13, .func (PySem.W.fnOf "box_of" "box_of" (defArgs s_box_of) (defBody s_box_of) (defScope s_box_of) .none kV13 dc13 pm13 an13 cd13 ct13), sl13⟩) (c13 : PySem.W.codeIn K cd13 "box_of" = true) (k13 : PySem.W.keepIn K (.ref f13) = true)
    {od14 an14 : Option Addr} {sl14 : Array (Option Value)} {oc14 kV14 dc14 pm14 cd14 ct14 : Value}
    (a14 : PySem.W.nsIn K mainGlobals "_trees_of" = some (some (.ref f14))) (l14 : K.lookup f14 = some ⟨oc14, od14, .func (PySem.W.fnOf "_trees_of" "_trees_of" (defArgs s_trees_of) (defBody s_trees_of) (defScope s_trees_of) .none kV14 dc14 pm14 an14 cd14 ct14), sl14⟩) (c14 : PySem.W.codeIn K cd14 "_trees_of" = true) (k14 : PySem.W.keepIn K (.ref f14) = true)
    {od15 an15 : Option Addr} {sl15 : Array (Option Value)} {oc15 kV15 dc15 pm15 cd15 ct15 : Value}
    (a15 : PySem.W.nsIn K mainGlobals "resolved" = some (some (.ref f15))) (l15 : K.lookup f15 = some ⟨oc15, od15, .func (PySem.W.fnOf "resolved" "resolved" (defArgs s_resolved) (defBody s_resolved) (defScope s_resolved) .none kV15 dc15 pm15 an15 cd15 ct15), sl15⟩) (c15 : PySem.W.codeIn K cd15 "resolved" = true) (k15 : PySem.W.keepIn K (.ref f15) = true)
    {od16 an16 : Option Addr} {sl16 : Array (Option Value)} {oc16 kV16 dc16 pm16 cd16 ct16 : Value}
    (a16 : PySem.W.nsIn K mainGlobals "_law_draw" = some (some (.ref f16))) (l16 : K.lookup f16 = some ⟨oc16, od16, .func (PySem.W.fnOf "_law_draw" "_law_draw" (defArgs s_law_draw) (defBody s_law_draw) (defScope s_law_draw) .none kV16 dc16 pm16 an16 cd16 ct16), sl16⟩) (c16 : PySem.W.codeIn K cd16 "_law_draw" = true) (k16 : PySem.W.keepIn K (.ref f16) = true)
    {od17 an17 : Option Addr} {sl17 : Array (Option Value)} {oc17 kV17 dc17 pm17 cd17 ct17 : Value}
    (a17 : PySem.W.nsIn K mainGlobals "_law_text" = some (some (.ref f17))) (l17 : K.lookup f17 = some ⟨oc17, od17, .func (PySem.W.fnOf "_law_text" "_law_text" (defArgs s_law_text) (defBody s_law_text) (defScope s_law_text) .none kV17 dc17 pm17 an17 cd17 ct17), sl17⟩) (c17 : PySem.W.codeIn K cd17 "_law_text" = true) (k17 : PySem.W.keepIn K (.ref f17) = true)
    {od18 an18 : Option Addr} {sl18 : Array (Option Value)} {oc18 kV18 dc18 pm18 cd18 ct18 : Value}
    (a18 : PySem.W.nsIn K mainGlobals "_law_term" = some (some (.ref f18))) (l18 : K.lookup f18 = some ⟨oc18, od18, .func (PySem.W.fnOf "_law_term" "_law_term" (defArgs s_law_term) (defBody s_law_term) (defScope s_law_term) .none kV18 dc18 pm18 an18 cd18 ct18), sl18⟩) (c18 : PySem.W.codeIn K cd18 "_law_term" = true) (k18 : PySem.W.keepIn K (.ref f18) = true)
    {od19 an19 : Option Addr} {sl19 : Array (Option Value)} {oc19 kV19 dc19 pm19 cd19 ct19 : Value}
    (a19 : PySem.W.nsIn K mainGlobals "_law_sum" = some (some (.ref f19))) (l19 : K.lookup f19 = some ⟨oc19, od19, .func (PySem.W.fnOf "_law_sum" "_law_sum" (defArgs s_law_sum) (defBody s_law_sum) (defScope s_law_sum) .none kV19 dc19 pm19 an19 cd19 ct19), sl19⟩) (c19 : PySem.W.codeIn K cd19 "_law_sum" = true) (k19 : PySem.W.keepIn K (.ref f19) = true)
    {od20 an20 : Option Addr} {sl20 : Array (Option Value)} {oc20 kV20 dc20 pm20 cd20 ct20 : Value}
    (a20 : PySem.W.nsIn K mainGlobals "_law_range" = some (some (.ref f20))) (l20 : K.lookup f20 = some ⟨oc20, od20, .func (PySem.W.fnOf "_law_range" "_law_range" (defArgs s_law_range) (defBody s_law_range) (defScope s_law_range) .none kV20 dc20 pm20 an20 cd20 ct20), sl20⟩) (c20 : PySem.W.codeIn K cd20 "_law_range" = true) (k20 : PySem.W.keepIn K (.ref f20) = true)
    {od21 an21 : Option Addr} {sl21 : Array (Option Value)} {oc21 kV21 dc21 pm21 cd21 ct21 : Value}
    (a21 : PySem.W.nsIn K mainGlobals "_law_joined" = some (some (.ref f21))) (l21 : K.lookup f21 = some ⟨oc21, od21, .func (PySem.W.fnOf "_law_joined" "_law_joined" (defArgs s_law_joined) (defBody s_law_joined) (defScope s_law_joined) .none kV21 dc21 pm21 an21 cd21 ct21), sl21⟩) (c21 : PySem.W.codeIn K cd21 "_law_joined" = true) (k21 : PySem.W.keepIn K (.ref f21) = true)
    {od22 an22 : Option Addr} {sl22 : Array (Option Value)} {oc22 kV22 dc22 pm22 cd22 ct22 : Value}
    (a22 : PySem.W.nsIn K mainGlobals "_law_worth" = some (some (.ref f22))) (l22 : K.lookup f22 = some ⟨oc22, od22, .func (PySem.W.fnOf "_law_worth" "_law_worth" (defArgs s_law_worth) (defBody s_law_worth) (defScope s_law_worth) .none kV22 dc22 pm22 an22 cd22 ct22), sl22⟩) (c22 : PySem.W.codeIn K cd22 "_law_worth" = true) (k22 : PySem.W.keepIn K (.ref f22) = true)
    {od23 an23 : Option Addr} {sl23 : Array (Option Value)} {oc23 kV23 dc23 pm23 cd23 ct23 : Value}
    (a23 : PySem.W.nsIn K mainGlobals "_law_tree" = some (some (.ref f23))) (l23 : K.lookup f23 = some ⟨oc23, od23, .func (PySem.W.fnOf "_law_tree" "_law_tree" (defArgs s_law_tree) (defBody s_law_tree) (defScope s_law_tree) .none kV23 dc23 pm23 an23 cd23 ct23), sl23⟩) (c23 : PySem.W.codeIn K cd23 "_law_tree" = true) (k23 : PySem.W.keepIn K (.ref f23) = true)
    {od24 an24 : Option Addr} {sl24 : Array (Option Value)} {oc24 kV24 dc24 pm24 cd24 ct24 : Value}
    (a24 : PySem.W.nsIn K mainGlobals "_law_due" = some (some (.ref f24))) (l24 : K.lookup f24 = some ⟨oc24, od24, .func (PySem.W.fnOf "_law_due" "_law_due" (defArgs s_law_due) (defBody s_law_due) (defScope s_law_due) .none kV24 dc24 pm24 an24 cd24 ct24), sl24⟩) (c24 : PySem.W.codeIn K cd24 "_law_due" = true) (k24 : PySem.W.keepIn K (.ref f24) = true)
    {od25 an25 : Option Addr} {sl25 : Array (Option Value)} {oc25 kV25 dc25 pm25 cd25 ct25 : Value}
    (a25 : PySem.W.nsIn K mainGlobals "law" = some (some (.ref f25))) (l25 : K.lookup f25 = some ⟨oc25, od25, .func (PySem.W.fnOf "law" "law" (defArgs s_law) (defBody s_law) (defScope s_law) .none kV25 dc25 pm25 an25 cd25 ct25), sl25⟩) (c25 : PySem.W.codeIn K cd25 "law" = true) (k25 : PySem.W.keepIn K (.ref f25) = true)
    (z_abs : PySem.W.nsIn K mainGlobals "abs" = some none)
    (z_dict : PySem.W.nsIn K mainGlobals "dict" = some none)
    (z_enumerate : PySem.W.nsIn K mainGlobals "enumerate" = some none)
    (z_int : PySem.W.nsIn K mainGlobals "int" = some none)
    (z_isinstance : PySem.W.nsIn K mainGlobals "isinstance" = some none)
    (z_len : PySem.W.nsIn K mainGlobals "len" = some none)
    (z_list : PySem.W.nsIn K mainGlobals "list" = some none)
    (z_max : PySem.W.nsIn K mainGlobals "max" = some none)
    (z_range : PySem.W.nsIn K mainGlobals "range" = some none)
    (z_str : PySem.W.nsIn K mainGlobals "str" = some none)
    (z_tuple : PySem.W.nsIn K mainGlobals "tuple" = some none)
    {t_CAPITALS : Tok} (g_CAPITALS : PySem.W.nsIn K mainGlobals "CAPITALS" = some (some (.str "ABCDEFGHIJKLMNOPQRSTUVWXYZ" t_CAPITALS)))
    {t_FIGURES : Tok} (g_FIGURES : PySem.W.nsIn K mainGlobals "FIGURES" = some (some (.int 60 t_FIGURES)))
    {t_GREATEST : Tok} (g_GREATEST : PySem.W.nsIn K mainGlobals "GREATEST" = some (some (.int 999999999999999999999999999999999999999999999999999999999999 t_GREATEST)))
    {t_POINTS : Tok} (g_POINTS : PySem.W.nsIn K mainGlobals "POINTS" = some (some (.int 400 t_POINTS)))
    {O_ : Addr} (m_Open : PySem.W.nsIn K mainGlobals "Open" = some (some (.ref O_))) (x_ex : PySem.W.excIn K O_ [.type "ValueError", .type "Exception", .type "BaseException", .type "object"] "ValueError.__new__" = true) (x_kO : PySem.W.keepIn K (.ref O_) = true) (x_sub : PySem.W.subIn K (.ref O_) (.type "BaseException") = some true) (x_ty : PySem.W.typeIn K (.ref O_) = some (.type "type")) (x_ic : PySem.W.isClsIn K O_ = true) (ss_O : PySem.W.subIn K (.ref O_) (.ref O_) = some true) :
    ∃ fd : FuncData, (∀ (s : Shared) (v : Value), BindsTo s fd ⟨[v], []⟩ [("script", v)]) ∧ ∀ base : Heap, K.In base → base.Ns mainGlobals mg → FnOk l.prog w K mg base CX0 30 fa fd ["script"] (spLaw K) := by
  have e := hfa.symm.trans (PySem.W.mg_of X G a25)
  cases e
  have T : Txt mg := ⟨PySem.W.mg_none_of X G z_abs, PySem.W.mg_none_of X G z_dict, PySem.W.mg_none_of X G z_enumerate, PySem.W.mg_none_of X G z_int, PySem.W.mg_none_of X G z_isinstance, PySem.W.mg_none_of X G z_len, PySem.W.mg_none_of X G z_list, PySem.W.mg_none_of X G z_max, PySem.W.mg_none_of X G z_range, PySem.W.mg_none_of X G z_str, PySem.W.mg_none_of X G z_tuple, ⟨_, PySem.W.mg_of X G g_CAPITALS⟩, ⟨_, PySem.W.mg_of X G g_FIGURES⟩, ⟨_, PySem.W.mg_of X G g_GREATEST⟩, ⟨_, PySem.W.mg_of X G g_POINTS⟩⟩
  have OC : OpenD K mg O_ := ⟨PySem.W.mg_of X G m_Open, x_ex, x_kO, x_sub, x_ty, exm_own x_sub x_ic x_ty ss_O⟩
  have F0 := fun_mk (st := s_is_unknown) l0 c0 k0
  have b0 := F0.binds (ps := ["part"]) fun _ _ _ _ _ _ us hl => match us, hl with | [_], _ => rfl
  have F1 := fun_mk (st := s_unknowns_of) l1 c1 k1
  have b1 := F1.binds (ps := ["pattern"]) fun _ _ _ _ _ _ us hl => match us, hl with | [_], _ => rfl
  have F2 := fun_mk (st := s_is_named) l2 c2 k2
  have b2 := F2.binds (ps := ["reading", "names", "many"]) fun _ _ _ _ _ _ us hl => match us, hl with | [_, _, _], _ => rfl
  have F3 := fun_mk (st := s_parted_by_and) l3 c3 k3
  have b3 := F3.binds (ps := ["reading"]) fun _ _ _ _ _ _ us hl => match us, hl with | [_], _ => rfl
  have F4 := fun_mk (st := s_field_parts) l4 c4 k4
  have b4 := F4.binds (ps := ["goal"]) fun _ _ _ _ _ _ us hl => match us, hl with | [_], _ => rfl
  have F5 := fun_mk (st := s_number_in) l5 c5 k5
  have b5 := F5.binds (ps := ["term"]) fun _ _ _ _ _ _ us hl => match us, hl with | [_], _ => rfl
  have F6 := fun_mk (st := s_reckoned) l6 c6 k6
  have b6 := F6.binds (ps := ["sign", "left", "right"]) fun _ _ _ _ _ _ us hl => match us, hl with | [_, _, _], _ => rfl
  have F7 := fun_mk (st := s_worth_of) l7 c7 k7
  have b7 := F7.binds (ps := ["tree", "places"]) fun _ _ _ _ _ _ us hl => match us, hl with | [_, _], _ => rfl
  have F8 := fun_mk (st := s_tree_of) l8 c8 k8
  have b8 := F8.binds (ps := ["reading", "trees"]) fun _ _ _ _ _ _ us hl => match us, hl with | [_, _], _ => rfl
  have F9 := fun_mk (st := s_placed_test) l9 c9 k9
  have b9 := F9.binds (ps := ["reading", "trees"]) fun _ _ _ _ _ _ us hl => match us, hl with | [_, _], _ => rfl
  have F10 := fun_mk (st := s_worths_of) l10 c10 k10
  have b10 := F10.binds (ps := ["part", "filling"]) fun _ _ _ _ _ _ us hl => match us, hl with | [_, _], _ => rfl
  have F11 := fun_mk (st := s_many) l11 c11 k11
  have b11 := F11.binds (ps := ["box"]) fun _ _ _ _ _ _ us hl => match us, hl with | [_], _ => rfl
  have F12 := fun_mk (st := s_refuse_many) l12 c12 k12
  have b12 := F12.binds (ps := ["box"]) fun _ _ _ _ _ _ us hl => match us, hl with | [_], _ => rfl
  have F13 := fun_mk (st := s_box_of) l13 c13 k13
  have b13 := F13.binds (ps := ["pairs"]) fun _ _ _ _ _ _ us hl => match us, hl with | [_], _ => rfl
  have F14 := fun_mk (st := s_trees_of) l14 c14 k14
  have b14 := F14.binds (ps := ["ranges", "tests", "filling"]) fun _ _ _ _ _ _ us hl => match us, hl with | [_, _, _], _ => rfl
  have F15 := fun_mk (st := s_resolved) l15 c15 k15
  have b15 := F15.binds (ps := ["goal", "filling"]) fun _ _ _ _ _ _ us hl => match us, hl with | [_, _], _ => rfl
  have F16 := fun_mk (st := s_law_draw) l16 c16 k16
  have b16 := F16.binds (ps := ["stream", "many"]) fun _ _ _ _ _ _ us hl => match us, hl with | [_, _], _ => rfl
  have F17 := fun_mk (st := s_law_text) l17 c17 k17
  have b17 := F17.binds (ps := ["stream", "first", "taken"]) fun _ _ _ _ _ _ us hl => match us, hl with | [_, _, _], _ => rfl
  have F18 := fun_mk (st := s_law_term) l18 c18 k18
  have b18 := F18.binds (ps := ["stream"]) fun _ _ _ _ _ _ us hl => match us, hl with | [_], _ => rfl
  have F19 := fun_mk (st := s_law_sum) l19 c19 k19
  have b19 := F19.binds (ps := ["stream", "names", "deep"]) fun _ _ _ _ _ _ us hl => match us, hl with | [_, _, _], _ => rfl
  have F20 := fun_mk (st := s_law_range) l20 c20 k20
  have b20 := F20.binds (ps := ["stream", "name", "names", "deep"]) fun _ _ _ _ _ _ us hl => match us, hl with | [_, _, _, _], _ => rfl
  have F21 := fun_mk (st := s_law_joined) l21 c21 k21
  have b21 := F21.binds (ps := ["parts"]) fun _ _ _ _ _ _ us hl => match us, hl with | [_], _ => rfl
  have F22 := fun_mk (st := s_law_worth) l22 c22 k22
  have b22 := F22.binds (ps := ["total", "filling"]) fun _ _ _ _ _ _ us hl => match us, hl with | [_, _], _ => rfl
  have F23 := fun_mk (st := s_law_tree) l23 c23 k23
  have b23 := F23.binds (ps := ["total", "ranged", "filling"]) fun _ _ _ _ _ _ us hl => match us, hl with | [_, _, _], _ => rfl
  have F24 := fun_mk (st := s_law_due) l24 c24 k24
  have b24 := F24.binds (ps := ["ranges", "tests", "ranged", "filling"]) fun _ _ _ _ _ _ us hl => match us, hl with | [_, _, _, _], _ => rfl
  have F25 := fun_mk (st := s_law) l25 c25 k25
  refine ⟨PySem.W.fnOf "law" "law" (defArgs s_law) (defBody s_law) (defScope s_law) .none kV25 dc25 pm25 an25 cd25 ct25, fun s v => .of_eq rfl, fun base _ _ => ?_⟩
  have C_is_unknown : HasUnknown l.prog w K mg base := ⟨f0, _, ok_is_unknown F0 T, b0, k0, PySem.W.mg_of X G a0⟩
  have C_unknowns_of : (fun P w K mg base => Has P w K mg base 2 "unknowns_of" ["pattern"] (spUnknowns K)) l.prog w K mg base := ⟨f1, _, ok_unknowns_of F1 T C_is_unknown, b1, k1, PySem.W.mg_of X G a1⟩
  have C_is_named : HasNamed3 l.prog w K mg base := ⟨f2, _, ok_is_named F2 T, b2, k2, PySem.W.mg_of X G a2⟩
  have C_parted_by_and : HasParted l.prog w K mg base := ⟨f3, _, ok_parted F3 T C_is_named, b3, k3, PySem.W.mg_of X G a3⟩
  have C_field_parts : HasFieldParts l.prog w K mg base := ⟨f4, _, ok_field_parts F4 T C_parted_by_and, b4, k4, PySem.W.mg_of X G a4⟩
  have C_number_in : HasNumIn l.prog w K mg base := ⟨f5, _, ok_number_in F5 T, b5, k5, PySem.W.mg_of X G a5⟩
  have C_reckoned : HasReck l.prog w K mg base := ⟨f6, _, ok_reckoned F6 T, b6, k6, PySem.W.mg_of X G a6⟩
  have C_worth_of : HasWorthF 20 l.prog w K mg base := ⟨f7, _, ok_worth_f F7 T C_number_in C_reckoned b7 k7 (PySem.W.mg_of X G a7) 20, b7, k7, PySem.W.mg_of X G a7⟩
  have C_tree_of : HasTreeOf 21 l.prog w K mg base := ⟨f8, _, ok_tree_of F8 T b8 k8 (PySem.W.mg_of X G a8) 21, b8, k8, PySem.W.mg_of X G a8⟩
  have C_placed_test : HasPlaced 21 l.prog w K mg base := ⟨f9, _, ok_placed F9 T C_tree_of, b9, k9, PySem.W.mg_of X G a9⟩
  have C_worths_of : HasWorths 20 l.prog w K mg base := ⟨f10, _, ok_worths F10 T C_worth_of, b10, k10, PySem.W.mg_of X G a10⟩
  have C_many : HasManyL l.prog w K mg base := ⟨f11, _, ok_many_l F11 T, b11, k11, PySem.W.mg_of X G a11⟩
  have C_refuse_many : HasRefuseL O_ l.prog w K mg base := ⟨f12, _, ok_refuse_l F12 T C_many OC, b12, k12, PySem.W.mg_of X G a12⟩
  have C_box_of : HasBoxOf O_ l.prog w K mg base := ⟨f13, _, ok_box_of F13 T C_many C_refuse_many OC, b13, k13, PySem.W.mg_of X G a13⟩
  have C_trees_of : (fun P w K mg base => Has P w K mg base 3 "_trees_of" ["ranges", "tests", "filling"] (spTreesOf K)) l.prog w K mg base := ⟨f14, _, ok_trees_of F14 T C_unknowns_of, b14, k14, PySem.W.mg_of X G a14⟩
  have C_resolved : HasResolved 20 O_ l.prog w K mg base := ⟨f15, _, ok_resolved F15 T C_field_parts C_worths_of C_box_of C_trees_of C_placed_test, b15, k15, PySem.W.mg_of X G a15⟩
  have C_law_draw : HasDraw l.prog w K mg base := ⟨f16, _, ok_law_draw F16 , b16, k16, PySem.W.mg_of X G a16⟩
  have C_law_text : HasText l.prog w K mg base := ⟨f17, _, ok_law_text F17 T C_law_draw, b17, k17, PySem.W.mg_of X G a17⟩
  have C_law_term : HasTerm9 l.prog w K mg base := ⟨f18, _, ok_law_term F18 T C_law_draw C_law_text, b18, k18, PySem.W.mg_of X G a18⟩
  have C_law_sum : HasSum 2 l.prog w K mg base := ⟨f19, _, ok_law_sum F19 T b19 k19 (PySem.W.mg_of X G a19) C_law_draw 2, b19, k19, PySem.W.mg_of X G a19⟩
  have C_law_range : HasRange39 l.prog w K mg base := ⟨f20, _, ok_law_range F20 T C_law_draw C_law_sum, b20, k20, PySem.W.mg_of X G a20⟩
  have C_law_joined : HasJoined39 l.prog w K mg base := ⟨f21, _, ok_law_joined F21 T, b21, k21, PySem.W.mg_of X G a21⟩
  have C_law_worth : HasLWorth 10 l.prog w K mg base := ⟨f22, _, ok_law_worth F22 T b22 k22 (PySem.W.mg_of X G a22) 10, b22, k22, PySem.W.mg_of X G a22⟩
  have C_law_tree : HasLTree 11 l.prog w K mg base := ⟨f23, _, ok_law_tree F23 T b23 k23 (PySem.W.mg_of X G a23) 11, b23, k23, PySem.W.mg_of X G a23⟩
  have C_law_due : HasLDue39 l.prog w K mg base := ⟨f24, _, ok_law_due F24 T C_law_worth C_law_tree, b24, k24, PySem.W.mg_of X G a24⟩
  exact ok_law F25 T C_law_draw C_law_text C_law_term C_law_range (show HasSum 3 l.prog w K mg base from ⟨f19, _, ok_law_sum F19 T b19 k19 (PySem.W.mg_of X G a19) C_law_draw 3, b19, k19, PySem.W.mg_of X G a19⟩) C_law_joined C_law_due C_resolved OC
end Gs
open PySem PySem.W PyProof.Rows
set_option maxRecDepth 100000 in
set_option maxHeartbeats 0 in
theorem PySem.Challenge.cw_goalstead_k39_resolved_holds : PySem.Challenge.rw_goalstead_k39_resolved.Holds := by
  w_on; o_law; k_head; (case hw => w_witness2)
  k_fill
  refine L2.walk_of (l := PySem.Challenge.rw_goalstead_k39_resolved) (n := 63) (k := 30) (x := "script") (CX := fun _ => L2.CX0) (sp := fun w => Gs.spLaw _) rfl (by decide) rfl ⟨rfl, by decide, by decide⟩ (fun w h Y => PySem.W.kIn_of Y) ?F (fun _ _ a ns hl _ hS => ⟨a, ns, rfl, hS, hl, fun _ => rfl⟩) (fun _ _ _ _ _ h => h)
  case F =>
    intro w mg fa h KX G hmg
    refine' Gs.all_mk KX G hmg (a0 := ?a0) (l0 := ?l0) (c0 := ?c0) (k0 := ?k0) (a1 := ?a1) (l1 := ?l1) (c1 := ?c1) (k1 := ?k1) (a2 := ?a2) (l2 := ?l2) (c2 := ?c2) (k2 := ?k2) (a3 := ?a3) (l3 := ?l3) (c3 := ?c3) (k3 := ?k3) (a4 := ?a4) (l4 := ?l4) (c4 := ?c4) (k4 := ?k4) (a5 := ?a5) (l5 := ?l5) (c5 := ?c5) (k5 := ?k5) (a6 := ?a6) (l6 := ?l6) (c6 := ?c6) (k6 := ?k6) (a7 := ?a7) (l7 := ?l7) (c7 := ?c7) (k7 := ?k7) (a8 := ?a8) (l8 := ?l8) (c8 := ?c8) (k8 := ?k8) (a9 := ?a9) (l9 := ?l9) (c9 := ?c9) (k9 := ?k9) (a10 := ?a10) (l10 := ?l10) (c10 := ?c10) (k10 := ?k10) (a11 := ?a11) (l11 := ?l11) (c11 := ?c11) (k11 := ?k11) (a12 := ?a12) (l12 := ?l12) (c12 := ?c12) (k12 := ?k12) (a13 := ?a13) (l13 := ?l13) (c13 := ?c13) (k13 := ?k13) (a14 := ?a14) (l14 := ?l14) (c14 := ?c14) (k14 := ?k14) (a15 := ?a15) (l15 := ?l15) (c15 := ?c15) (k15 := ?k15) (a16 := ?a16) (l16 := ?l16) (c16 := ?c16) (k16 := ?k16) (a17 := ?a17) (l17 := ?l17) (c17 := ?c17) (k17 := ?k17) (a18 := ?a18) (l18 := ?l18) (c18 := ?c18) (k18 := ?k18) (a19 := ?a19) (l19 := ?l19) (c19 := ?c19) (k19 := ?k19) (a20 := ?a20) (l20 := ?l20) (c20 := ?c20) (k20 := ?k20) (a21 := ?a21) (l21 := ?l21) (c21 := ?c21) (k21 := ?k21) (a22 := ?a22) (l22 := ?l22) (c22 := ?c22) (k22 := ?k22) (a23 := ?a23) (l23 := ?l23) (c23 := ?c23) (k23 := ?k23) (a24 := ?a24) (l24 := ?l24) (c24 := ?c24) (k24 := ?k24) (a25 := ?a25) (l25 := ?l25) (c25 := ?c25) (k25 := ?k25) (z_abs := ?z_abs) (z_dict := ?z_dict) (z_enumerate := ?z_enumerate) (z_int := ?z_int) (z_isinstance := ?z_isinstance) (z_len := ?z_len) (z_list := ?z_list) (z_max := ?z_max) (z_range := ?z_range) (z_str := ?z_str) (z_tuple := ?z_tuple) (g_CAPITALS := ?g_CAPITALS) (g_FIGURES := ?g_FIGURES) (g_GREATEST := ?g_GREATEST) (g_POINTS := ?g_POINTS) (m_Open := ?m_Open) (x_ex := ?x_ex) (x_kO := ?x_kO) (x_sub := ?x_sub) (x_ty := ?x_ty) (x_ic := ?x_ic) (ss_O := ?ss_O)
    (case a0 => k_is)
    (case l0 => k_is)
    (case c0 => k_is)
    (case k0 => k_is)
    (case a1 => k_is)
    (case l1 => k_is)
    (case c1 => k_is)
    (case k1 => k_is)
    (case a2 => k_is)
    (case l2 => k_is)
    (case c2 => k_is)
    (case k2 => k_is)
    (case a3 => k_is)
    (case l3 => k_is)
    (case c3 => k_is)
    (case k3 => k_is)
    (case a4 => k_is)
    (case l4 => k_is)
    (case c4 => k_is)
    (case k4 => k_is)
    (case a5 => k_is)
    (case l5 => k_is)
    (case c5 => k_is)
    (case k5 => k_is)
    (case a6 => k_is)
    (case l6 => k_is)
    (case c6 => k_is)
    (case k6 => k_is)
    (case a7 => k_is)
    (case l7 => k_is)
    (case c7 => k_is)
    (case k7 => k_is)
    (case a8 => k_is)
    (case l8 => k_is)
    (case c8 => k_is)
    (case k8 => k_is)
    (case a9 => k_is)
    (case l9 => k_is)
    (case c9 => k_is)
    (case k9 => k_is)
    (case a10 => k_is)
    (case l10 => k_is)
    (case c10 => k_is)
    (case k10 => k_is)
    (case a11 => k_is)
    (case l11 => k_is)
    (case c11 => k_is)
    (case k11 => k_is)
    (case a12 => k_is)
    (case l12 => k_is)
    (case c12 => k_is)
    (case k12 => k_is)
    (case a13 => k_is)
    (case l13 => k_is)
    (case c13 => k_is)
    (case k13 => k_is)
    (case a14 => k_is)
    (case l14 => k_is)
    (case c14 => k_is)
    (case k14 => k_is)
    (case a15 => k_is)
    (case l15 => k_is)
    (case c15 => k_is)
    (case k15 => k_is)
    (case a16 => k_is)
    (case l16 => k_is)
    (case c16 => k_is)
    (case k16 => k_is)
    (case a17 => k_is)
    (case l17 => k_is)
    (case c17 => k_is)
    (case k17 => k_is)
    (case a18 => k_is)
    (case l18 => k_is)
    (case c18 => k_is)
    (case k18 => k_is)
    (case a19 => k_is)
    (case l19 => k_is)
    (case c19 => k_is)
    (case k19 => k_is)
    (case a20 => k_is)
    (case l20 => k_is)
    (case c20 => k_is)
    (case k20 => k_is)
    (case a21 => k_is)
    (case l21 => k_is)
    (case c21 => k_is)
    (case k21 => k_is)
    (case a22 => k_is)
    (case l22 => k_is)
    (case c22 => k_is)
    (case k22 => k_is)
    (case a23 => k_is)
    (case l23 => k_is)
    (case c23 => k_is)
    (case k23 => k_is)
    (case a24 => k_is)
    (case l24 => k_is)
    (case c24 => k_is)
    (case k24 => k_is)
    (case a25 => k_is)
    (case l25 => k_is)
    (case c25 => k_is)
    (case k25 => k_is)
    (case z_abs => k_is)
    (case z_dict => k_is)
    (case z_enumerate => k_is)
    (case z_int => k_is)
    (case z_isinstance => k_is)
    (case z_len => k_is)
    (case z_list => k_is)
    (case z_max => k_is)
    (case z_range => k_is)
    (case z_str => k_is)
    (case z_tuple => k_is)
    (case g_CAPITALS => k_is)
    (case g_FIGURES => k_is)
    (case g_GREATEST => k_is)
    (case g_POINTS => k_is)
    (case m_Open => k_is)
    (case x_ex => k_exc)
    (case x_kO => k_is)
    (case x_sub => k_is)
    (case x_ty => k_is)
    (case x_ic => k_is)
    (case ss_O => first | rfl | k_is)

