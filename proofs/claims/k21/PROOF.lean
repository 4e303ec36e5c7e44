import PyProof.Rows.All
import Wide.All
import OpenK.AllK
import Wide.FinOn
import PyProof.StrBlock2
import HandS.ForMost
import HandS.IsInst
import HandS.Wide
import HandS.Defaults
import HandS.Evl
import HandS.CallSlots
import HandS.Codes
import HandS.Conv
import HandS.ExcField
import HandS.ExcInit
import HandS.ExcOwn
import HandS.FStr
import HandS.ForExc
import HandS.Iter
import HandS.OwnEq
import HandS.ReplaceLit
import HandS.SetKeys
import HandS.Small
import HandS.SortKw
import HandS.Star
import HandS.StrMore
import HandS.Strs
import HandS.TupAny
import HandS.Zip
import KE.DataCmp
import KE.KMinKey
import KE.LtData
import KE.SortKeyHeap
import HandS.TryMany
import KE.DataFind
import HandS.TryOnly
import KE.GoesComp
import KE.GoesRaise
import HandS.SuiteRaise
import HandS.RaiseFrom
import HandS.ExcInitHot
import HandS.ExcCtx
import HandS.HotCalls
import HandS.Hot
import HandS.TupMul
import PySem.Challenge.RW_goalstead_k21_sizes_as_read
set_option Elab.async false
set_option linter.all false
set_option maxRecDepth 100000
namespace HdK
open PySem PySem.W PyProof.Rows
set_option maxHeartbeats 0 in
open_top hd for PySem.Challenge.rw_goalstead_k21_sizes_as_read
end HdK
namespace Gs
open PySem PySem.Spec PyProof.Rows L2
/-! ### rules of our own -/
section
variable {X : Cx} {x : Str} {p pos : Pos} {e : Expr} {es : List Expr} {t : TA}
theorem pe_globI {n : Int} (hg : Gl X x) (hm : ∃ t, X.mg x = some (.int n t)) (hd : (x == ("__debug__" : Str)) = false := by decide) : PE X (.Name x pos) (tC (.int n)) := by
  obtain ⟨t, h⟩ := hm
  exact pe_glob hg h ⟨t, rfl⟩ hd
theorem pe_globS {z : Str} (hg : Gl X x) (hm : ∃ t, X.mg x = some (.str z t)) (hd : (x == ("__debug__" : Str)) = false := by decide) : PE X (.Name x pos) (tC (.str z)) := by
  obtain ⟨t, h⟩ := hm
  exact pe_glob hg h ⟨t, rfl⟩ hd
/-- a def of the text that keeps the promise sp, found by its name -/
structure Has (P : Program) (w : World) (K : PySem.W.Frag) (mg : Str → Option Value) (base : Heap) (k : Nat) (x : Str) (ps : List Str) (sp : Sp) : Prop where
  ex : ∃ (f : Addr) (fd : FuncData), FnOk P w K mg base CX0 k f fd ps sp ∧ Binds K fd ps [] ∧ PySem.W.keepIn K (.ref f) = true ∧ mg x = some (.ref f)
theorem pe_callH {k j : Nat} {ps : List Str} {sp : Sp} (C : Has X.prog X.w X.K X.mg X.base k x ps sp) (hr : Room j X.A) (ha : PA X (e :: es) t) (hk : k ≤ j := by decide) (hg : Gl X x := by rfl) (hdb : (x == ("__debug__" : Str)) = false := by decide)
    (he : starEach (e :: es) X.env = (false, eval e X.env) :: starEach es X.env := by rfl) (hpl : (backTo pos (starEach es X.env)).any (·.1) = false := by rfl) :
    PE X (.Call (.Name x p) (e :: es) [] pos) (tCall sp [] E0 t) := by
  obtain ⟨f, fd, F, b, kp, m⟩ := C.ex
  exact pe_call F (hr.mono hk) hg m kp b .nil pass0 ha hdb he hpl
theorem pe_callH0 {k j : Nat} {ps : List Str} {sp : Sp} (C : Has X.prog X.w X.K X.mg X.base k x ps sp) (hr : Room j X.A) (hk : k ≤ j := by decide) (hg : Gl X x := by rfl) (hdb : (x == ("__debug__" : Str)) = false := by decide) :
    PE X (.Call (.Name x p) [] [] pos) (tCall sp [] E0 tNil) := by
  obtain ⟨f, fd, F, b, kp, m⟩ := C.ex
  exact pe_call0 F (hr.mono hk) hg m kp b .nil pass0 hdb
def rStrMul : R2 := fun x y H Q => ∃ z n, x = .str z ∧ y = .int n ∧ MulOk z n ∧ Q (.str (Txt.mul z n)) H
theorem op_strMul : OpR X (binaryOp .Mult) rStrMul := by
  intro pins s σ H x y v u Q I rx ry h
  obtain ⟨z, n, rfl, rfl, hok, q⟩ := h
  obtain ⟨t, rfl⟩ := rx
  obtain ⟨t', rfl⟩ := ry
  exact PySem.SB.mul hok fun t2 k => ⟨.str _, H, I.tok k, ⟨_, rfl⟩, q⟩
end
/-! ### steps of a reading -/
section
variable {σ : L2.St} {H : Hp} {v x y : V} {Q : VK} {i : Nat} {ta tb te : TE} {tr : TA} {r : R2} {D : Ends} {t1 t2 : TS} {g : TG} {tt tu : TT} {R : Bool → Hp → Prop} {QA : List V → Hp → Prop}
theorem x_var (h : σ[i]? = some (some v)) (q : Q v H) : tVar i σ H Q := ⟨v, h, q⟩
theorem x_c (q : Q v H) : tC v σ H Q := q
theorem x_op (q : ta σ H fun x H1 => tb σ H1 fun y H2 => r x y H2 Q) : tOp r ta tb σ H Q := q
theorem x_un {ru : V → Hp → VK → Prop} (q : ta σ H fun x H1 => ru x H1 Q) : tUn ru ta σ H Q := q
theorem x_i0 {f : Int → Int → V} {a b : Int} (q : Q (f a b) H) : rI0 f (.int a) (.int b) H Q := ⟨a, b, rfl, rfl, q⟩
theorem x_i {C : Int → Int → Prop} {f : Int → Int → V} {a b : Int} (c : C a b) (q : Q (f a b) H) : rI C f (.int a) (.int b) H Q := ⟨a, b, rfl, rfl, c, q⟩
theorem x_u {f : Int → V} {a : Int} (q : Q (f a) H) : rU f (.int a) H Q := ⟨a, rfl, q⟩
theorem x_eq (hs : scal x y = true) (q : Q (.bl (decide (x = y))) H) : rEq x y H Q := ⟨hs, q⟩
theorem x_ne (hs : scal x y = true) (q : Q (.bl (!decide (x = y))) H) : rNe x y H Q := ⟨hs, q⟩
theorem x_nil (q : QA [] H) : tNil σ H QA := q
theorem x_cons (q : ta σ H fun x H1 => tr σ H1 fun xs H2 => QA (x :: xs) H2) : tCons ta tr σ H QA := q
theorem x_call {sp : Sp} {dvs : List V} {E : XK} (q : tr σ H fun vs H1 => sp (vs ++ dvs) H1 Q E) : tCall sp dvs E tr σ H Q := q
theorem x_cb {rc : List V → Hp → VK → Prop} (q : tr σ H fun vs H1 => rc vs H1 Q) : tCB rc tr σ H Q := q
theorem x_test (q : te σ H fun x H1 => ∃ k, x = .bl k ∧ R k H1) : tTest te σ H R := q
theorem x_B (q : te σ H fun x H1 => ∃ k, x = .bl k ∧ R k H1) : tB te σ H R := q
theorem x_and (q : tt σ H fun c H1 => if c = true then tu σ H1 R else R false H1) : tAnd tt tu σ H R := q
theorem x_or (q : tt σ H fun c H1 => if c = true then R true H1 else tu σ H1 R) : tOr tt tu σ H R := q
theorem x_not (q : tt σ H fun c H1 => R (!c) H1) : tNot tt σ H R := q
theorem x_ifE (q : tt σ H fun c H1 => if c = true then ta σ H1 Q else tb σ H1 Q) : tIf tt ta tb σ H Q := q
theorem x_andV (q : ta σ H fun x H1 => ∃ c, x = .bl c ∧ if c = true then tb σ H1 Q else Q (.bl false) H1) : tAndV ta tb σ H Q := q
theorem x_orV (q : ta σ H fun x H1 => ∃ c, x = .bl c ∧ if c = true then Q (.bl true) H1 else tb σ H1 Q) : tOrV ta tb σ H Q := q
theorem x_notV (q : ta σ H fun x H1 => ∃ c, x = .bl c ∧ Q (.bl (!c)) H1) : tNotV ta σ H Q := q
theorem x_ex {b : Bool} {A : Bool → Prop} (q : A b) : ∃ k, V.bl b = .bl k ∧ A k := ⟨b, rfl, q⟩
theorem x_cut {M : L2.St → Hp → Prop} (q : t1 { D with nx := M } σ H) (k : ∀ σ' H', M σ' H' → t2 D σ' H') : Evl.tCut t1 t2 D σ H := ⟨M, q, k⟩
theorem x_seq (q : t1 { D with nx := t2 D } σ H) : tSeq t1 t2 D σ H := q
theorem x_next (q : D.nx σ H) : tNext D σ H := q
theorem x_brk (q : D.bk σ H) : tBreak D σ H := q
theorem x_cont (q : D.ct σ H) : tCont D σ H := q
theorem x_asg (q : te σ H fun x H1 => g x σ H1 D.nx) : tAsg te g D σ H := q
theorem x_drop (q : te σ H fun _ H1 => D.nx σ H1) : tDrop te D σ H := q
theorem x_ret (q : te σ H D.rt) : tRet te D σ H := q
theorem x_retN (q : D.rt .non H) : tRetN D σ H := q
theorem x_ifS (q : tt σ H fun b H1 => if b = true then t1 D σ H1 else t2 D σ H1) : tIfS tt t1 t2 D σ H := q
theorem x_gn {k : L2.St → Hp → Prop} (q : k (σ.set i (some v)) H) : gName i v σ H k := q
theorem x_gsub {to ti : TE} {st : TSet} {k : L2.St → Hp → Prop} (q : to σ H fun o H1 => ti σ H1 fun i H2 => st o i v H2 fun H3 => k σ H3) : gSub to ti st v σ H k := q
theorem x_aug {ip : TIp} (h : σ[i]? = some (some x)) (q : te σ H fun y H1 => ip x y H1 fun z H2 => D.nx (σ.set i (some z)) H2) : tAug i te ip D σ H := ⟨x, h, q⟩
theorem x_ixL {K : PySem.W.Frag} {p : Addr} {xs : List V} {a : Int} (h : SqL K H p xs) (ha : atI xs a = some v) (q : Q v H) : rIxL K (.ref p) (.int a) H Q := ⟨p, xs, a, v, rfl, rfl, h, ha, q⟩
theorem x_ixT {K : PySem.W.Frag} {p : Addr} {xs : List V} {a : Int} (h : SqT K H p xs) (ha : atI xs a = some v) (q : Q v H) : rIxT K (.ref p) (.int a) H Q := ⟨p, xs, a, v, rfl, rfl, h, ha, q⟩
theorem x_ixS {z : Str} {a : Int} {c : Nat} (h : z.length ≤ sizeLine) (ha : atI z.cps.toList a = some c) (q : Q (.str ⟨#[c]⟩) H) : rIxS (.str z) (.int a) H Q := ⟨z, a, c, rfl, rfl, h, ha, q⟩
theorem x_setL {p : Addr} {xs : List V} {a : Int} {j : Nat} {k : Hp → Prop} (h : H p = some (.lst xs)) (hi : ixN xs.length a = some j) (q : k (upd H p (.lst (xs.set j v)))) : rSetL (.ref p) (.int a) v H k := ⟨p, xs, a, j, rfl, rfl, h, hi, q⟩
theorem x_lst (q : tr σ H fun xs H1 => xs.length ≤ sizeLine ∧ ∀ p, H1 p = none → Q (.ref p) (upd H1 p (.lst xs))) : tLst tr σ H Q := q
theorem x_tup (q : tr σ H fun xs H1 => xs.length ≤ sizeLine ∧ ∀ p, H1 p = none → Q (.ref p) (upd H1 p (.tup xs))) : tTup tr σ H Q := q
theorem x_sl {rs : V → Option Int → Option Int → Hp → VK → Prop} {tl th : TO} (q : te σ H fun x H1 => tl σ H1 fun l H2 => th σ H2 fun u H3 => rs x l u H3 Q) : tSl rs te tl th σ H Q := q
theorem x_part {k : Option Int → Hp → Prop} (q : te σ H fun x H1 => ∃ i, x = .int i ∧ k (some i) H1) : tPart te σ H k := q
theorem x_exI {a : Int} {A : Int → Prop} (q : A a) : ∃ i, V.int a = .int i ∧ A i := ⟨a, rfl, q⟩
theorem x_slL {K : PySem.W.Frag} {a : Addr} {xs : List V} {lo hi : Option Int} (h : SqL K H a xs) (q : ∀ p, H p = none → Q (.ref p) (upd H p (.lst (cutV xs lo hi)))) : rSlL K (.ref a) lo hi H Q := ⟨a, xs, rfl, h, q⟩
theorem x_slS {z : Str} {lo hi : Option Int} (h : z.length ≤ sizeLine) (q : Q (.str (cutS z lo hi)) H) : rSlS (.str z) lo hi H Q := ⟨z, rfl, h, q⟩
theorem x_nopart {k : Option Int → Hp → Prop} (q : k none H) : tNoPart σ H k := q
theorem x_bm {K : PySem.W.Frag} {T : String} {rm : V → List V → Hp → VK → Prop} {to : TE} (q : to σ H fun x H1 => tyV K T x H1 ∧ tr σ H1 fun xs H2 => rm x xs H2 Q) : tBM K T rm to tr σ H Q := q
theorem x_bm0 {K : PySem.W.Frag} {T : String} {rm : V → List V → Hp → VK → Prop} {to : TE} (q : to σ H fun x H1 => tyV K T x H1 ∧ rm x [] H1 Q) : tBM0 K T rm to σ H Q := q
theorem x_addS {a b : Str} {A : Str → Str → Prop} (h : a.length + b.length ≤ sizeLine) (q : A a b) : ∃ i j, V.str a = .str i ∧ V.str b = .str j ∧ i.length + j.length ≤ sizeLine ∧ A i j := ⟨a, b, rfl, rfl, h, q⟩
/-- a decided test -/
theorem x_ite {c : Prop} [Decidable c] {A B : Prop} (h1 : c → A) (h2 : ¬ c → B) : if decide c = true then A else B := by
  by_cases h : c
  · rw [if_pos (decide_eq_true h)]
    exact h1 h
  · rw [if_neg (by rw [decide_eq_false h]; decide)]
    exact h2 h
theorem x_iteN {c : Prop} [Decidable c] {A B : Prop} (h1 : ¬ c → A) (h2 : c → B) : if (!decide c) = true then A else B := by
  by_cases h : c
  · rw [if_neg (by rw [decide_eq_true h]; decide)]
    exact h2 h
  · rw [if_pos (by rw [decide_eq_false h]; rfl)]
    exact h1 h
theorem x_iteB {b : Bool} {A B : Prop} (h1 : b = true → A) (h2 : b = false → B) : if b = true then A else B := by
  cases b with
  | true => exact h1 rfl
  | false => exact h2 rfl
theorem x_iteF {A B : Prop} (h : B) : if false = true then A else B := h
theorem x_iteT {A B : Prop} (h : A) : if true = true then A else B := h
end
end Gs
namespace Gs
open PySem PySem.Spec PyProof.Rows L2
theorem cmulW {i j : Int} (h1 : i.natAbs < 2 ^ 200) (h2 : j.natAbs < 2 ^ 200) : CMulW i j := wide_mul h1 h2 (by decide) (by decide) (by decide)
theorem cdivW {i j : Int} (h1 : 0 < j) (h2 : j.natAbs < 2 ^ 200) : CDivW i j := wide_div h1 h2 (by decide) (by decide)
theorem fmod0 {a b : Int} (h : 0 < b) : 0 ≤ a.fmod b := by rw [Int.fmod_eq_emod_of_nonneg a (by omega)]; exact Int.emod_nonneg a (by omega)
theorem fmodlt {a b : Int} (h : 0 < b) : a.fmod b < b := by rw [Int.fmod_eq_emod_of_nonneg a (by omega)]; exact Int.emod_lt_of_pos a h
theorem sz {n : Nat} (h : n ≤ 100000) : n ≤ sizeLine := Nat.le_trans h (by decide)
theorem szl {n : Nat} (h : n < 100000) : n < sizeLine := Nat.lt_of_lt_of_le h (by decide)
end Gs
namespace Gs
open PySem PySem.Spec PyProof.Rows L2
theorem at0 {α : Type} {xs : List α} {v : α} (h : xs[0]? = some v) : atI xs 0 = some v := atI_nat (j := 0) h
theorem at1 {α : Type} {xs : List α} {v : α} (h : xs[1]? = some v) : atI xs 1 = some v := atI_nat (j := 1) h
theorem at2 {α : Type} {xs : List α} {v : α} (h : xs[2]? = some v) : atI xs 2 = some v := atI_nat (j := 2) h
theorem at3 {α : Type} {xs : List α} {v : α} (h : xs[3]? = some v) : atI xs 3 = some v := atI_nat (j := 3) h
theorem at4 {α : Type} {xs : List α} {v : α} (h : xs[4]? = some v) : atI xs 4 = some v := atI_nat (j := 4) h
theorem at5 {α : Type} {xs : List α} {v : α} (h : xs[5]? = some v) : atI xs 5 = some v := atI_nat (j := 5) h
theorem at6 {α : Type} {xs : List α} {v : α} (h : xs[6]? = some v) : atI xs 6 = some v := atI_nat (j := 6) h
theorem at7 {α : Type} {xs : List α} {v : α} (h : xs[7]? = some v) : atI xs 7 = some v := atI_nat (j := 7) h
theorem at8 {α : Type} {xs : List α} {v : α} (h : xs[8]? = some v) : atI xs 8 = some v := atI_nat (j := 8) h
theorem at9 {α : Type} {xs : List α} {v : α} (h : xs[9]? = some v) : atI xs 9 = some v := atI_nat (j := 9) h
theorem ixN_of {n : Nat} {j : Nat} (h : j < n) : ixN n (j : Int) = some j := by
  unfold ixN
  rw [if_pos (by omega), if_pos (by omega)]
  simp
theorem ix0 {n : Nat} (h : 0 < n) : ixN n 0 = some 0 := ixN_of (j := 0) h
theorem ix1 {n : Nat} (h : 1 < n) : ixN n 1 = some 1 := ixN_of (j := 1) h
theorem ix2 {n : Nat} (h : 2 < n) : ixN n 2 = some 2 := ixN_of (j := 2) h
theorem ix3 {n : Nat} (h : 3 < n) : ixN n 3 = some 3 := ixN_of (j := 3) h
theorem ix4 {n : Nat} (h : 4 < n) : ixN n 4 = some 4 := ixN_of (j := 4) h
end Gs
namespace Gs
open PySem PySem.Spec PyProof.Rows L2
section
variable {H : Hp} {Q : VK} {a b : Int}
theorem x_mod (hb : 0 < b) (q : ∀ r : Int, 0 ≤ r → r < b → r = a.fmod b → Q (.int r) H) : rI (fun _ j => j ≠ 0) (fun i j => V.int (i.fmod j)) (.int a) (.int b) H Q :=
  ⟨a, b, rfl, rfl, by omega, q _ (fmod0 hb) (fmodlt hb) rfl⟩
theorem x_div (hb : CDivW a b) (q : ∀ r : Int, r = a / b → (0 ≤ a → 0 ≤ r ∧ r ≤ a) → Q (.int r) H) : rI CDivW (fun i j => V.int (i / j)) (.int a) (.int b) H Q :=
  ⟨a, b, rfl, rfl, hb, q _ rfl fun ha => ⟨Int.ediv_nonneg ha (Int.le_of_lt hb.1), Int.ediv_le_self b ha⟩⟩
end
end Gs
namespace Gs
open PySem PySem.Spec PyProof.Rows L2
section
variable {K : PySem.W.Frag} {H : Hp} {Q : VK}
theorem dpInts : ∀ ns : List Int, DpAll K H (ns.map V.int) (ns.map PyData.int)
  | [] => .nil
  | n :: r => .cons (.int n) (dpInts r)
theorem x_neNil {l q : Addr} {ns : List Int} (h : SqL K H l (ns.map V.int)) (h2 : SqL K H q []) (k : Q (.bl (!decide (ns = []))) H) : rNeD K (.ref l) (.ref q) H Q := by
  refine ⟨.list (ns.map PyData.int), .list [], .lst h (dpInts ns), .lst h2 .nil, PySem.W.ke_shaped_ints ns, PySem.W.ke_shaped_ints [], ?_⟩
  have e : PyData.eqv (.list (ns.map PyData.int)) (.list []) = decide (ns = []) := by
    cases ns with
    | nil => rfl
    | cons n r => rfl
  rw [e]
  exact k
theorem seqIx0 {n : Nat} (h : 0 < n) : seqIndex? 0 n = some 0 := (ixN_seq (ix0 h)).1
end
end Gs
namespace Gs
open PySem PySem.Spec PyProof.Rows L2
section
variable {σ : L2.St} {H : Hp} {wi : TI} {g : TG} {tb : TS} {D : Ends} {ta : TA} {te : TE} {R : It → Hp → Prop} {K : PySem.W.Frag} {Q : VK}
theorem x_for (q : wi σ H fun J H1 => ∃ W : Nat → Nat → L2.St → Hp → Prop, (∃ m, W 0 m σ H1) ∧ ∀ i m σ H, W i m σ H →
  (J.stop i H ∧ D.nx σ H) ∨ (J.go i H ∧ ∃ N : L2.St → Hp → Prop, (∀ σ' H', N σ' H' → ∃ m', m' < m ∧ W (i + 1) m' σ' H') ∧ ∀ x H', J.yld i H x H' → g x σ H' fun σ2 H2 => tb { D with nx := N, ct := N, bk := D.nx } σ2 H2)) : tFor wi g tb D σ H := q
theorem x_rng1 (q : ta σ H fun vs H1 => ∃ j : Int, vs = [.int j] ∧ -(2 ^ 62) ≤ j ∧ j < 2 ^ 62 ∧ R (Itr 0 j.toNat) H1) : iRng1 ta σ H R := q
theorem x_rng2 (q : ta σ H fun vs H1 => ∃ i j : Int, vs = [.int i, .int j] ∧ (-(2 ^ 62) ≤ i ∧ i < 2 ^ 62 ∧ -(2 ^ 62) ≤ j ∧ j < 2 ^ 62) ∧ R (Itr i (j - i).toNat) H1) : iRng2 ta σ H R := q
theorem x_ilist (q : te σ H fun x H1 => ∃ a, x = .ref a ∧ (∃ xs, SqL K H1 a xs) ∧ R (Itl K a) H1) : iList K te σ H R := q
theorem x_itup (q : te σ H fun x H1 => ∃ a, x = .ref a ∧ (∃ xs, SqT K H1 a xs) ∧ R (Itt K a) H1) : iTup K te σ H R := q
/-- for x in range(n) -/
theorem x_forR1 {n : Int} {X : L2.St → Hp → Prop} {rt : VK} (Pv : Nat → L2.St → Hp → Prop) (hn : n < 2 ^ 62) (hn0 : -(2 ^ 62) ≤ n) (h0 : Pv 0 σ H)
    (hs : ∀ (i : Nat) σ H, (i : Int) < n → Pv i σ H → g (.int (i : Int)) σ H fun σ2 H2 => tb { nx := Pv (i + 1), rt := rt, bk := X, ct := Pv (i + 1) } σ2 H2) (hd : ∀ σ H, Pv n.toNat σ H → X σ H) :
    ∃ j : Int, [V.int n] = [.int j] ∧ -(2 ^ 62) ≤ j ∧ j < 2 ^ 62 ∧ ∃ W : Nat → Nat → L2.St → Hp → Prop, (∃ m, W 0 m σ H) ∧ ∀ i m σ H, W i m σ H →
      ((Itr 0 j.toNat).stop i H ∧ X σ H) ∨ ((Itr 0 j.toNat).go i H ∧ ∃ N : L2.St → Hp → Prop, (∀ σ' H', N σ' H' → ∃ m', m' < m ∧ W (i + 1) m' σ' H') ∧ ∀ x H', (Itr 0 j.toNat).yld i H x H' → g x σ H' fun σ2 H2 => tb { nx := N, rt := rt, bk := X, ct := N } σ2 H2) :=
  ⟨n, rfl, hn0, hn, for_range (D := { nx := X, rt := rt }) (lo := 0) (n := n.toNat) Pv h0 (fun i σ' H' hi p => by
    have e : (0 : Int) + (i : Int) = (i : Int) := Int.zero_add _
    rw [e]
    exact hs i σ' H' (by omega) p) hd⟩
theorem x_forR2 {lo hi : Int} {X : L2.St → Hp → Prop} {rt : VK} (Pv : Nat → L2.St → Hp → Prop) (hn : -(2 ^ 62) ≤ lo ∧ lo < 2 ^ 62 ∧ -(2 ^ 62) ≤ hi ∧ hi < 2 ^ 62) (h0 : Pv 0 σ H)
    (hs : ∀ (i : Nat) σ H, lo + (i : Int) < hi → Pv i σ H → g (.int (lo + (i : Int))) σ H fun σ2 H2 => tb { nx := Pv (i + 1), rt := rt, bk := X, ct := Pv (i + 1) } σ2 H2) (hd : ∀ σ H, Pv (hi - lo).toNat σ H → X σ H) :
    ∃ i j : Int, [V.int lo, V.int hi] = [.int i, .int j] ∧ (-(2 ^ 62) ≤ i ∧ i < 2 ^ 62 ∧ -(2 ^ 62) ≤ j ∧ j < 2 ^ 62) ∧ ∃ W : Nat → Nat → L2.St → Hp → Prop, (∃ m, W 0 m σ H) ∧ ∀ i' m σ H, W i' m σ H →
      ((Itr i (j - i).toNat).stop i' H ∧ X σ H) ∨ ((Itr i (j - i).toNat).go i' H ∧ ∃ N : L2.St → Hp → Prop, (∀ σ' H', N σ' H' → ∃ m', m' < m ∧ W (i' + 1) m' σ' H') ∧ ∀ x H', (Itr i (j - i).toNat).yld i' H x H' → g x σ H' fun σ2 H2 => tb { nx := N, rt := rt, bk := X, ct := N } σ2 H2) :=
  ⟨lo, hi, rfl, hn, for_range (D := { nx := X, rt := rt }) (lo := lo) (n := (hi - lo).toNat) Pv h0 (fun i σ' H' hi' p => hs i σ' H' (by omega) p) hd⟩
/-- for x in a list, a tuple -/
theorem x_forL {a : Addr} {xs : List V} {X : L2.St → Hp → Prop} {rt : VK} (Pv : Nat → L2.St → Hp → Prop) (h0 : Pv 0 σ H) (hl : ∀ i σ H, i ≤ xs.length → Pv i σ H → SqL K H a xs)
    (hs : ∀ i x σ H, xs[i]? = some x → Pv i σ H → g x σ H fun σ2 H2 => tb { nx := Pv (i + 1), rt := rt, bk := X, ct := Pv (i + 1) } σ2 H2) (hd : ∀ σ H, Pv xs.length σ H → X σ H) (hS : SqL K H a xs) :
    ∃ b, V.ref a = .ref b ∧ (∃ xs, SqL K H b xs) ∧ ∃ W : Nat → Nat → L2.St → Hp → Prop, (∃ m, W 0 m σ H) ∧ ∀ i m σ H, W i m σ H →
      ((Itl K b).stop i H ∧ X σ H) ∨ ((Itl K b).go i H ∧ ∃ N : L2.St → Hp → Prop, (∀ σ' H', N σ' H' → ∃ m', m' < m ∧ W (i + 1) m' σ' H') ∧ ∀ x H', (Itl K b).yld i H x H' → g x σ H' fun σ2 H2 => tb { nx := N, rt := rt, bk := X, ct := N } σ2 H2) :=
  ⟨a, rfl, ⟨xs, hS⟩, for_list (D := { nx := X, rt := rt }) Pv h0 hl hs hd⟩
end
end Gs
namespace Gs
open PySem PySem.Spec PyProof.Rows L2
section
variable {σ : L2.St} {H : Hp} {wi : TI} {g : TG} {tt : TT} {ta : TA} {to te : TE} {K : PySem.W.Frag} {Q : VK} {vs : List Nat} {x y : V}
theorem x_lc (q : wi σ H fun J H1 => ∀ D, H1 D = none → ∃ W : Nat → Nat → Hp → Prop, (∃ m, W 0 m (upd H1 D (.lst []))) ∧ ∀ i m H, W i m H →
  (J.stop i H ∧ Q (.ref D) H) ∨ (J.go i H ∧ ∃ Nx : Hp → Prop, (∀ H', Nx H' → ∃ m', m' < m ∧ W (i + 1) m' H') ∧ ∀ x H', J.yld i H x H' → g x (wipe σ vs) H' fun σ2 H2 => wipe σ2 vs = wipe σ vs ∧ tt σ2 H2 fun b H3 =>
    if b = true then te σ2 H3 fun y H4 => ∃ acc, H4 D = some (.lst acc) ∧ acc.length < sizeLine ∧ Nx (upd H4 D (.lst (acc ++ [y]))) else Nx H3)) : tLc wi g tt te vs σ H Q := q
theorem x_yes {R : Bool → Hp → Prop} (q : R true H) : tYes σ H R := q
theorem x_lcR1 {n : Int} {Qd : Addr → Hp → Prop} (Pv : Addr → Nat → Hp → Prop) (hn0 : -(2 ^ 62) ≤ n) (hn : n < 2 ^ 62) (h0 : ∀ D, H D = none → Pv D 0 (upd H D (.lst [])))
    (hs : ∀ D, H D = none → ∀ (i : Nat) H', (i : Int) < n → Pv D i H' → g (.int (i : Int)) (wipe σ vs) H' fun σ2 H2 => wipe σ2 vs = wipe σ vs ∧ tt σ2 H2 fun b H3 =>
      if b = true then te σ2 H3 fun y H4 => ∃ acc, H4 D = some (.lst acc) ∧ acc.length < sizeLine ∧ Pv D (i + 1) (upd H4 D (.lst (acc ++ [y]))) else Pv D (i + 1) H3) (hd : ∀ D, H D = none → ∀ H', Pv D n.toNat H' → Qd D H') :
    ∃ j : Int, [V.int n] = [.int j] ∧ -(2 ^ 62) ≤ j ∧ j < 2 ^ 62 ∧ ∀ D, H D = none → ∃ W : Nat → Nat → Hp → Prop, (∃ m, W 0 m (upd H D (.lst []))) ∧ ∀ i m H, W i m H →
      ((Itr 0 j.toNat).stop i H ∧ Qd D H) ∨ ((Itr 0 j.toNat).go i H ∧ ∃ Nx : Hp → Prop, (∀ H', Nx H' → ∃ m', m' < m ∧ W (i + 1) m' H') ∧ ∀ x H', (Itr 0 j.toNat).yld i H x H' → g x (wipe σ vs) H' fun σ2 H2 => wipe σ2 vs = wipe σ vs ∧ tt σ2 H2 fun b H3 =>
        if b = true then te σ2 H3 fun y H4 => ∃ acc, H4 D = some (.lst acc) ∧ acc.length < sizeLine ∧ Nx (upd H4 D (.lst (acc ++ [y]))) else Nx H3) :=
  ⟨n, rfl, hn0, hn, fun D hD => lc_range (lo := 0) (n := n.toNat) (Pv D) (h0 D hD) (fun i H' hi p => by
    have e : (0 : Int) + (i : Int) = (i : Int) := Int.zero_add _
    rw [e]
    exact hs D hD i H' (by omega) p) (hd D hD)⟩
theorem x_lcL {Qd : Addr → Hp → Prop} {a : Addr} {xs : List V} (Pv : Addr → Nat → Hp → Prop) (hS : SqL K H a xs) (h0 : ∀ D, H D = none → Pv D 0 (upd H D (.lst []))) (hl : ∀ D, H D = none → ∀ i H', i ≤ xs.length → Pv D i H' → SqL K H' a xs)
    (hs : ∀ D, H D = none → ∀ i x H', xs[i]? = some x → Pv D i H' → g x (wipe σ vs) H' fun σ2 H2 => wipe σ2 vs = wipe σ vs ∧ tt σ2 H2 fun b H3 =>
      if b = true then te σ2 H3 fun y H4 => ∃ acc, H4 D = some (.lst acc) ∧ acc.length < sizeLine ∧ Pv D (i + 1) (upd H4 D (.lst (acc ++ [y]))) else Pv D (i + 1) H3) (hd : ∀ D, H D = none → ∀ H', Pv D xs.length H' → Qd D H') :
    ∃ b, V.ref a = .ref b ∧ (∃ xs, SqL K H b xs) ∧ ∀ D, H D = none → ∃ W : Nat → Nat → Hp → Prop, (∃ m, W 0 m (upd H D (.lst []))) ∧ ∀ i m H, W i m H →
      ((Itl K b).stop i H ∧ Qd D H) ∨ ((Itl K b).go i H ∧ ∃ Nx : Hp → Prop, (∀ H', Nx H' → ∃ m', m' < m ∧ W (i + 1) m' H') ∧ ∀ x H', (Itl K b).yld i H x H' → g x (wipe σ vs) H' fun σ2 H2 => wipe σ2 vs = wipe σ vs ∧ tt σ2 H2 fun b H3 =>
        if b = true then te σ2 H3 fun y H4 => ∃ acc, H4 D = some (.lst acc) ∧ acc.length < sizeLine ∧ Nx (upd H4 D (.lst (acc ++ [y]))) else Nx H3) :=
  ⟨a, rfl, ⟨xs, hS⟩, fun D hD => lc_list (xs := xs) (Pv D) (h0 D hD) (hl D hD) (hs D hD) (hd D hD)⟩
theorem x_m1 {r : V → List V → Hp → VK → Prop} (q : to σ H fun x H1 => (∃ a, x = .str a) ∧ te σ H1 fun y H2 => r x [y] H2 Q) : tM1 r to te σ H Q := q
theorem x_m0 {r : V → List V → Hp → VK → Prop} (q : to σ H fun x H1 => (∃ a, x = .str a) ∧ r x [] H1 Q) : tM0 r to σ H Q := q
theorem x_isStr {a : Str} {A : Prop} (q : A) : (∃ b, V.str a = .str b) ∧ A := ⟨⟨a, rfl⟩, q⟩
theorem x_join {a : Str} {p : Addr} {ys : List Str} {A : Str → List Str → Prop} (h : SqL K H p (ys.map V.str)) (hz : (ys.map (·.length)).sum + ys.length * a.length ≤ 16777216) (q : A a ys) :
    ∃ a' p', ∃ ys : List Str, V.str a = .str a' ∧ [V.ref p] = [.ref p'] ∧ (SqL K H p' (ys.map V.str) ∨ SqT K H p' (ys.map V.str)) ∧ (ys.map (·.length)).sum + ys.length * a'.length ≤ 16777216 ∧ A a' ys :=
  ⟨a, p, ys, rfl, rfl, .inl h, hz, q⟩
theorem x_lenS {z : Str} {A : Str → Prop} (h : z.length ≤ sizeLine) (q : A z) : ∃ z', [V.str z] = [.str z'] ∧ z'.length ≤ sizeLine ∧ A z' := ⟨z, rfl, h, q⟩
theorem x_strI {i : Int} {A : Int → Prop} (h : i.natAbs.log2 < 1920) (q : A i) : ∃ j, [V.int i] = [.int j] ∧ j.natAbs.log2 < 1920 ∧ A j := ⟨i, rfl, h, q⟩
theorem x_intB {b : Bool} {A : Int → Prop} {B : Bool → Prop} (q : B b) : (∃ i, [V.bl b] = [.int i] ∧ A i) ∨ ∃ k, [V.bl b] = [.bl k] ∧ B k := .inr ⟨b, rfl, q⟩
theorem x_inS {c : Nat} {z : Str} {A : Nat → Str → Prop} (q : A c z) : ∃ (c' : Nat) (z' : Str), V.str ⟨#[c]⟩ = .str ⟨#[c']⟩ ∧ V.str z = .str z' ∧ A c' z' := ⟨c, z, rfl, rfl, q⟩
theorem x_mul {z : Str} {n : Int} (h : MulOk z n) (q : Q (.str (Txt.mul z n)) H) : rStrMul (.str z) (.int n) H Q := ⟨z, n, rfl, rfl, h, q⟩
theorem x_app {l : Addr} {xs : List V} (h : H l = some (.lst xs)) (hz : xs.length < sizeLine) (q : Q .non (upd H l (.lst (xs ++ [y])))) : rAppend (.ref l) [y] H Q := ⟨l, xs, y, rfl, rfl, h, hz, q⟩
theorem x_tyL {l : Addr} {xs : List V} {A : Prop} (h : SqL K H l xs) (q : A) : tyV K "list" (.ref l) H ∧ A := ⟨.inl ⟨rfl, _, h⟩, q⟩
theorem x_ib {b : Bool} {A B : Prop} (hb : b = true) (h : A) : if b = true then A else B := by rw [if_pos hb]; exact h
theorem x_if0 {b : Bool} {A B : Prop} (hb : b = false) (h : B) : if b = true then A else B := by rw [hb]; exact h
theorem x_while {c : TT} {tb : TS} {X : L2.St → Hp → Prop} {rt : VK} {bk ct : L2.St → Hp → Prop} (W : Nat → L2.St → Hp → Prop) (m0 : Nat) (h0 : W m0 σ H)
    (hs : ∀ m σ H, W m σ H → c σ H fun b H1 => if b = true then ∃ N : L2.St → Hp → Prop, (∀ σ' H', N σ' H' → ∃ m', m' < m ∧ W m' σ' H') ∧ tb { nx := N, rt := rt, bk := X, ct := N } σ H1 else X σ H1) : tWhile c tb { nx := X, rt := rt, bk := bk, ct := ct } σ H := ⟨W, ⟨m0, h0⟩, hs⟩
end
end Gs
namespace Gs
open PySem PySem.Spec PyProof.Rows L2
theorem x_chain {σ : L2.St} {H : Hp} {Q : VK} {r r' : R2} {ta tb tc : TE} (q : ta σ H fun x H1 => tb σ H1 fun y H2 => r x y H2 fun z H3 => ∃ k, z = .bl k ∧ if k = true then tc σ H3 fun w' H4 => r' y w' H4 Q else Q (.bl false) H3) : tChain r r' ta tb tc σ H Q := q
end Gs
namespace Gs
open PySem PySem.Spec PyProof.Rows L2
theorem x_ip {H : Hp} {Q : VK} {f : Int → Int → Int} {a b : Int} (q : Q (.int (f a b)) H) : ipI f (.int a) (.int b) H Q := ⟨a, b, rfl, rfl, q⟩
theorem x_ii {a b : Int} {A : Int → Int → Prop} (q : A a b) : ∃ i j, [V.int a, V.int b] = [V.int i, V.int j] ∧ A i j := ⟨a, b, rfl, q⟩
end Gs
namespace Gs
open PySem PySem.Spec PyProof.Rows L2
section
variable {K : PySem.W.Frag} {x qual : Str} {params : Arguments} {body : List Stmt} {scope : Scope} {kws : List (Str × V)} {f : Addr} {fd : FuncData} {ps : List Str}
theorem FunD_kbindsN (F : FunD K x qual params body scope [] kws f fd) (n : Nat) (ks : List Str)
    (h : ∀ (kV doc pm : Value) (an : Option Addr) (cdv ct : Value) (us ws : List Value), us.length = n → ws.length = ks.length → bindArgs (PySem.W.fnOf x qual params body scope .none kV doc pm an cdv ct) ⟨us, ks.zip ws⟩ = pure (ps.zip (us ++ ws))) :
    KBn K fd ps n ks (fun us ws => us ++ ws) (fun vs zs => vs ++ zs) := by
  obtain ⟨oc, od, dV, kV, doc, pm, an, cdv, ct, osl, rfl, lk, hcd, hD, hK⟩ := F.ex
  rcases hD with ⟨_, rfl⟩ | ⟨e, _⟩
  · exact ⟨fun s us ws _ l1 l2 => .of_eq (h kV doc pm an cdv ct us ws l1 l2), fun r1 r2 => r1.append r2⟩
  · exact absurd rfl e
end
/-- a def with keyword-only parameters: n others; dvs what stands for the keywords where they lack -/
structure HasK (P : Program) (w : World) (K : PySem.W.Frag) (mg : Str → Option Value) (base : Heap) (k : Nat) (x : Str) (ps : List Str) (n : Nat) (ks : List Str) (dvs : List V) (sp : Sp) : Prop where
  ex : ∃ (f : Addr) (fd : FuncData), FnOk P w K mg base CX0 k f fd ps sp ∧ (∃ ds, Vals dvs ds ∧ Binds K fd ps ds) ∧ KBn K fd ps n ks (fun us ws => us ++ ws) (fun vs zs => vs ++ zs) ∧ PySem.W.keepIn K (.ref f) = true ∧ mg x = some (.ref f)
section
variable {X : Cx} {x : Str} {p pos : Pos} {e : Expr} {es : List Expr} {t tk : TA} {kws : List Keyword}
theorem pe_callHK {k j n : Nat} {ps ks : List Str} {dvs : List V} {sp : Sp} (C : HasK X.prog X.w X.K X.mg X.base k x ps n ks dvs sp) (hr : Room j X.A) (ha : PA X (e :: es) t) (hkw : PK X kws tk) (hk : k ≤ j := by decide) (hg : Gl X x := by rfl)
    (hall : (backToKw pos (keywordEach kws X.env)).all (·.1.isSome) = true := by rfl) (hks : (backToKw pos (keywordEach kws X.env)).filterMap (·.1) = ks := by rfl)
    (hdb : (x == ("__debug__" : Str)) = false := by decide) (he : starEach (e :: es) X.env = (false, eval e X.env) :: starEach es X.env := by rfl)
    (hpl : ((backTo pos (starEach (e :: es) X.env)).any (·.1) || (backToKw pos (keywordEach kws X.env)).any (·.1.isNone)) = false := by rfl) :
    PE X (.Call (.Name x p) (e :: es) kws pos) (tCallN n ks.length sp (fun vs zs => vs ++ zs) E0 t tk) := by
  obtain ⟨f, fd, F, _, b, kp, m⟩ := C.ex
  exact pe_callN F (hr.mono hk) hg m kp b pass0 ha hkw hall hks hdb he hpl
end
theorem x_callN {σ : L2.St} {H : Hp} {Q : VK} {n m : Nat} {sp : Sp} {g : List V → List V → List V} {E : XK} {t tk : TA} (q : t σ H fun vs H1 => tk σ H1 fun zs H2 => vs.length = n ∧ zs.length = m ∧ sp (g vs zs) H2 Q E) : tCallN n m sp g E t tk σ H Q := q
end Gs
namespace Gs
open PySem PySem.Spec PyProof.Rows L2
section
variable {X : Cx} {K : PySem.W.Frag}
theorem ix_listK (h : X.K = K := by rfl) : IxR X (rIxL K) := h ▸ ix_list
theorem ix_tupK (h : X.K = K := by rfl) : IxR X (rIxT K) := h ▸ ix_tup
theorem op_inK (h : X.K = K := by rfl) : OpR X (compareOp .In) (rIn K false) := h ▸ op_in_seq
theorem op_notInK (h : X.K = K := by rfl) : OpR X (compareOp .NotIn) (rIn K true) := h ▸ op_notIn_seq
theorem sl_listK (h : X.K = K := by rfl) : SlR X (rSlL K) := h ▸ sl_list
theorem sl_tupK (h : X.K = K := by rfl) : SlR X (rSlT K) := h ▸ sl_tup
theorem op_neDK (hu : X.A.units + 64 < cLine) (h : X.K = K := by rfl) : OpR X (compareOp .NotEq) (rNeD K) := h ▸ op_neD hu
def rLenK (K : PySem.W.Frag) : List V → Hp → VK → Prop := fun xs H Q => ∃ p ys, xs = [.ref p] ∧ (SqL K H p ys ∨ SqT K H p ys) ∧ Q (.int ys.length) H
theorem call_lenK (h : X.K = K := by rfl) : CallR X (.builtin "len") (rLenK K) := h ▸ call_len_seq
theorem call_isiKK (h : X.K = K := by rfl) : CallR X (.builtin "isinstance") (rIsi K) := h ▸ call_isi
end
theorem x_lenKL {K : PySem.W.Frag} {H : Hp} {Q : VK} {p : Addr} {xs : List V} (h : SqL K H p xs) (q : Q (.int xs.length) H) : rLenK K [.ref p] H Q := ⟨p, xs, rfl, .inl h, q⟩
theorem x_lenKT {K : PySem.W.Frag} {H : Hp} {Q : VK} {p : Addr} {xs : List V} (h : SqT K H p xs) (q : Q (.int xs.length) H) : rLenK K [.ref p] H Q := ⟨p, xs, rfl, .inr h, q⟩
end Gs
namespace Gs
open PySem PySem.Spec PyProof.Rows L2
section
variable {X : Cx} {K : PySem.W.Frag} {H : Hp} {Q : VK}
theorem cr_allK (hc : X.calm = true) (h : X.K = K := by rfl) : CallR X (.builtin "all") (rAll K) := h ▸ cr_all hc
theorem dpStrs : ∀ zs : List Str, DpAll K H (zs.map V.str) (zs.map PyData.str)
  | [] => .nil
  | z :: r => .cons (.str z) (dpStrs r)
def okStr (z : Str) : Bool := z.cps.all (· < 0x110000)
theorem shapedStrs {zs : List Str} (h : ∀ z ∈ zs, okStr z = true) : SeqAt.shaped (.list (zs.map PyData.str)) = true := by
  have h1 : PyData.canLayAll0 (zs.map PyData.str) = true := by
    induction zs with
    | nil => rfl
    | cons z r ih =>
      rw [List.map_cons]
      simp only [PyData.canLayAll0, PyData.canLay0, Bool.and_eq_true]
      exact ⟨h z (List.mem_cons_self ..), ih fun y hy => h y (List.mem_cons_of_mem _ hy)⟩
  have h2 : PyData.depthAll (zs.map PyData.str) = 0 := by
    clear h h1
    induction zs with
    | nil => rfl
    | cons z r ih => simp [PyData.depthAll, PyData.depth, ih]
  simp [SeqAt.shaped, PyData.canLay0, PyData.depth, h1, h2]
theorem okStr_small {z : Str} (h : ∀ x ∈ z.cps.toList, x < 128) : okStr z = true := by
  unfold okStr
  rw [Array.all_eq_true']
  intro x hx
  have := h x (by simpa using hx)
  simp
  omega
end
end Gs
namespace Gs
open PySem PySem.Spec PyProof.Rows L2
theorem atL {α : Type} {xs : List α} {i : Int} (h0 : 0 ≤ i) (h : i < (xs.length : Int)) : ∃ v, v ∈ xs ∧ atI xs i = some v := by
  have hk : i.toNat < xs.length := by omega
  have e : i = ((i.toNat : Nat) : Int) := by omega
  refine ⟨xs[i.toNat], List.getElem_mem hk, ?_⟩
  exact (congrArg (atI xs) e).trans (atI_nat (List.getElem?_eq_getElem hk))
end Gs
namespace Gs
open PySem PySem.Spec PyProof.Rows L2
/-! ### the pool of a law: its list at p, the script's rest at l; c : at most so many takes so far -/
structure PoolAt (H : Hp) (p l : Addr) (c : Int) : Prop where
  ex : ∃ (a n s : Int) (ns : List Int), H p = some (.lst [.ref l, .int a, .int n, .int s]) ∧ H l = some (.lst (ns.map V.int)) ∧ 0 ≤ a ∧ 0 ≤ n ∧ n ≤ c ∧ 0 ≤ s ∧ s < 2147483647 ∧ ns.length ≤ 1000
/-- all but p and l is as it was -/
def Kx (p l : Addr) (H H' : Hp) : Prop := ∀ b o, H b = some o → b ≠ p → b ≠ l → H' b = some o
theorem Kx.refl {p l : Addr} (H : Hp) : Kx p l H H := fun _ _ h _ _ => h
theorem Kx.trans {p l : Addr} {H H1 H2 : Hp} (a : Kx p l H H1) (b : Kx p l H1 H2) : Kx p l H H2 := fun c o h h1 h2 => b c o (a c o h h1 h2) h1 h2
theorem Kx.of {p l : Addr} {H H1 : Hp} (a : Same H H1) : Kx p l H H1 := fun c o h _ _ => a c o h
theorem Kx.updp {p l : Addr} {H H1 : Hp} {o : HO} (a : Kx p l H H1) : Kx p l H (upd H1 p o) := fun c u h h1 h2 => by
  rw [upd_ne h1]
  exact a c u h h1 h2
theorem Kx.updl {p l : Addr} {H H1 : Hp} {o : HO} (a : Kx p l H H1) : Kx p l H (upd H1 l o) := fun c u h h1 h2 => by
  rw [upd_ne h2]
  exact a c u h h1 h2
theorem Kx.updn {p l q : Addr} {H H1 : Hp} {o : HO} (hq : H1 q = none) (a : Kx p l H H1) : Kx p l H (upd H1 q o) := fun c u h h1 h2 => by
  rw [upd_ne (ne_of_none (a c u h h1 h2) hq)]
  exact a c u h h1 h2
theorem PoolAt.ne {H : Hp} {p l : Addr} {c : Int} (P : PoolAt H p l c) : p ≠ l := by
  obtain ⟨a, n, s, ns, hp, hl, _⟩ := P.ex
  refine ne_of hp hl fun z => ?_
  have z1 := HO.lst.inj z
  cases ns with
  | nil => cases z1
  | cons x r => simp at z1
theorem PoolAt.mono {H : Hp} {p l : Addr} {c d : Int} (P : PoolAt H p l c) (h : c ≤ d) : PoolAt H p l d := by
  obtain ⟨a, n, s, ns, hp, hl, h1, h2, h3, h4⟩ := P.ex
  exact ⟨a, n, s, ns, hp, hl, h1, h2, by omega, h4⟩
theorem PoolAt.same {H H' : Hp} {p l : Addr} {c : Int} (P : PoolAt H p l c) (h : Same H H') : PoolAt H' p l c := by
  obtain ⟨a, n, s, ns, hp, hl, h1⟩ := P.ex
  exact ⟨a, n, s, ns, h _ _ hp, h _ _ hl, h1⟩
theorem PoolAt.upd {H : Hp} {p l q : Addr} {c : Int} {o : HO} (P : PoolAt H p l c) (h : H q = none) : PoolAt (upd H q o) p l c :=
  P.same fun b u e => by
    rw [upd_ne (ne_of_none e h)]
    exact e
theorem PoolAt.hp {H : Hp} {p l : Addr} {c : Int} (P : PoolAt H p l c) : ∃ o, H p = some o := by
  obtain ⟨a, n, s, ns, hp, hl, h1⟩ := P.ex
  exact ⟨_, hp⟩
theorem same_upd {H : Hp} {p : Addr} {o : HO} (h : H p = none) : Same H (upd H p o) := fun b x e => by
  rw [upd_ne (ne_of_none e h)]
  exact e
theorem Kx.tup {p l a : Addr} {c : Int} {H H' : Hp} {xs : List V} (k : Kx p l H H') (P : PoolAt H p l c) (h : H a = some (.tup xs)) : H' a = some (.tup xs) := by
  obtain ⟨a', n, s, ns, hp, hl, h1⟩ := P.ex
  exact k a _ h (ne_of h hp (by intro z; cases z)) (ne_of h hl (by intro z; cases z))
theorem Kx.sqT {K : PySem.W.Frag} {p l a : Addr} {c : Int} {H H' : Hp} {xs : List V} (k : Kx p l H H') (P : PoolAt H p l c) (h : SqT K H a xs) : SqT K H' a xs := by
  obtain ⟨a', n, s, ns, hp, hl, h1⟩ := P.ex
  rcases h with (h | ⟨o, h⟩) | h
  · exact .inl (.inl (k.tup P h))
  · exact .inl (.inr ⟨o, k a _ h (ne_of h hp (by intro z; cases z)) (ne_of h hl (by intro z; cases z))⟩)
  · exact .inr h
theorem cutV_map (ns : List Int) (lo hi : Option Int) : ∃ ms : List Int, cutV (ns.map V.int) lo hi = ms.map V.int ∧ ms.length ≤ ns.length := by
  refine ⟨(ns.drop (HT.sIx ns.length 0 lo)).take (HT.sIx ns.length ns.length hi - HT.sIx ns.length 0 lo), ?_, ?_⟩
  · unfold cutV
    rw [List.length_map, List.map_take, List.map_drop]
  · rw [List.length_take, List.length_drop]
    omega
theorem kxl {p l a : Addr} {c : Int} {G H : Hp} {o : HO} (P : PoolAt G p l c) (na : G a = none) (k : Kx p l (upd G a o) H) : H a = some o := by
  obtain ⟨a', n, s, ns, hp, hl, h1⟩ := P.ex
  exact k a _ upd_same (ne_of_none hp na).symm (ne_of_none hl na).symm
theorem PoolAt.fresh {H : Hp} {p l a : Addr} {c : Int} (P : PoolAt H p l c) (h : H a = none) : a ≠ p ∧ a ≠ l := by
  obtain ⟨a', n, s, ns, hp, hl, h1⟩ := P.ex
  exact ⟨(ne_of_none hp h).symm, (ne_of_none hl h).symm⟩
theorem PoolAt.updo {H : Hp} {p l q : Addr} {c : Int} {o : HO} (P : PoolAt H p l c) (h1 : q ≠ p) (h2 : q ≠ l) : PoolAt (L2.upd H q o) p l c := by
  obtain ⟨a, n, s, ns, hp, hl, h⟩ := P.ex
  exact ⟨a, n, s, ns, by rw [upd_ne h1.symm]; exact hp, by rw [upd_ne h2.symm]; exact hl, h⟩
theorem Kx.updf {p l q : Addr} {H H1 : Hp} {o : HO} (hq : H q = none) (a : Kx p l H H1) : Kx p l H (L2.upd H1 q o) := fun c u h h1 h2 => by
  rw [upd_ne (ne_of_none h hq)]
  exact a c u h h1 h2
theorem Kx.none {p l D : Addr} {H G : Hp} (k : Kx p l H G) (h : G D = Option.none) (h1 : D ≠ p) (h2 : D ≠ l) : H D = Option.none := by
  cases e : H D with
  | none => rfl
  | some o =>
    rw [k D o e h1 h2] at h
    cases h
def spMixed (K : PySem.W.Frag) : Sp := fun vs H Q _ => ∃ (p l : Addr) (c t : Int), vs = [.ref p, .int t] ∧ PoolAt H p l c ∧ c ≤ 1000000000000 ∧ 0 ≤ t ∧ t ≤ 100 ∧ ∀ z : Int, 0 ≤ z → z < 2147483629 → Q (.int z) H
def spTake (K : PySem.W.Frag) : Sp := fun vs H Q _ => ∃ (p l : Addr) (c m : Int), vs = [.ref p, .int m] ∧ PoolAt H p l c ∧ c + 1 ≤ 1000000000000 ∧ 0 < m ∧ m ≤ 10 ^ 80 ∧
  ∀ (z : Int) (H' : Hp), 0 ≤ z → z < m → PoolAt H' p l (c + 1) → Kx p l H H' → Q (.int z) H'
def spPool (K : PySem.W.Frag) : Sp := fun vs H Q _ => ∃ (a : Addr) (ns : List Int) (k : Int), vs = [.ref a, .int k] ∧ SqL K H a (ns.map V.int) ∧ ns.length ≤ 63 ∧ 0 ≤ k ∧ k ≤ 100 ∧
  ∀ (p l : Addr) (H' : Hp), H p = none → H l = none → Same H H' → PoolAt H' p l 0 → Q (.ref p) H'
theorem log_of {i : Int} {a : Nat} (ha : i.natAbs < 2 ^ a) (h0 : 0 < a) : i.natAbs.log2 < a := PySem.Flt.log2_lt_of h0 ha
end Gs
namespace Gs
open PySem PySem.Spec PyProof.Rows L2 TL
/-! ### the pieces of a line, as lists of codes -/
def sD : List Nat := [48, 49, 50, 51, 52, 53, 54, 55, 56, 57]
def sS : List Nat := [97, 98, 99, 100, 101, 102, 103, 104, 105, 106, 107, 108, 109, 110, 111, 112, 113, 114, 115, 116, 117, 118, 119, 120, 121, 122]
def sC : List Nat := [65, 66, 67, 68, 69, 70, 71, 72, 73, 74, 75, 76, 77, 78, 79, 80, 81, 82, 83, 84, 85, 86, 87, 88, 89, 90]
def sM : List Nat := [43, 45, 42, 47, 60, 62, 61, 38, 33, 63, 94, 64, 35, 58, 124, 46, 36]
theorem tl_D : tl ("0123456789" : Str) = sD := by decide +kernel
theorem tl_S : tl ("abcdefghijklmnopqrstuvwxyz" : Str) = sS := by decide +kernel
theorem tl_C : tl ("ABCDEFGHIJKLMNOPQRSTUVWXYZ" : Str) = sC := by decide +kernel
theorem tl_M : tl ("+-*/<>=&!?^@#:|.$" : Str) = sM := by decide +kernel
/-- by what a piece goes on that begins so -/
def cls (c : Nat) : List Nat := if c ∈ sD ∨ c = 126 then sD else if c ∈ sS ∨ c ∈ sC then sS ++ sD else if c ∈ sM then sM else []
def Stop (c : Nat) : List Nat → Prop
  | [] => True
  | h :: _ => h ∉ cls c
inductive Cut : List Nat → List (List Nat) → Prop
  | nil : Cut [] []
  | blank {l : List Nat} {ts : List (List Nat)} : Cut l ts → Cut (32 :: l) ts
  | piece {c : Nat} {t l : List Nat} {ts : List (List Nat)} : c ≠ 32 → (∀ x ∈ t, x ∈ cls c) → Stop c l → Cut l ts → Cut (c :: (t ++ l)) ((c :: t) :: ts)
theorem Cut.blanks {l : List Nat} {ts : List (List Nat)} (h : Cut l ts) : ∀ n : Nat, Cut (List.replicate n 32 ++ l) ts
  | 0 => h
  | n + 1 => by
    rw [List.replicate_succ]
    exact .blank (Cut.blanks h n)
theorem Cut.drop {l : List Nat} {ts : List (List Nat)} (h : Cut l ts) : Cut (l.dropWhile fun x => decide (x ∈ [32])) ts := by
  induction h with
  | nil => exact .nil
  | blank h ih =>
    rw [List.dropWhile_cons_of_pos (by decide)]
    exact ih
  | @piece c t l ts hc ht hs h ih =>
    rw [List.dropWhile_cons_of_neg (by simpa using hc)]
    exact .piece hc ht hs h
theorem run_stop {S t l : List Nat} (ht : ∀ x ∈ t, x ∈ S) (hl : ∀ h r, l = h :: r → h ∉ S) : (t ++ l).takeWhile (fun x => decide (x ∈ S)) = t := by
  induction t with
  | nil =>
    cases l with
    | nil => rfl
    | cons h r =>
      rw [List.nil_append, List.takeWhile_cons_of_neg (by simpa using hl h r rfl)]
  | cons x t ih =>
    rw [List.cons_append, List.takeWhile_cons_of_pos (by simpa using ht x (List.mem_cons_self ..)), ih fun y hy => ht y (List.mem_cons_of_mem _ hy)]
theorem stop_of {c : Nat} {l : List Nat} (h : Stop c l) : ∀ x r, l = x :: r → x ∉ cls c := fun x r e => by
  subst e
  exact h
/-- what the program says of a piece -/
def isPc : List Nat → Bool
  | [] => false
  | c :: t =>
    if c = 126 then decide (1 ≤ t.length ∧ t.length ≤ 60 ∧ t.head? ≠ some 48)
    else if c ∈ sD then decide (t.length + 1 ≤ 60 ∧ (c ≠ 48 ∨ t = []))
    else if c ∈ sS ∨ c ∈ sC then decide (t.length + 1 ≤ 12)
    else if c ∈ sM then decide (t.length + 1 ≤ 3)
    else decide (c ∈ [40, 41, 44])
theorem isPc_cons (c : Nat) (t : List Nat) : isPc (c :: t) = if c = 126 then decide (1 ≤ t.length ∧ t.length ≤ 60 ∧ t.head? ≠ some 48)
    else if c ∈ sD then decide (t.length + 1 ≤ 60 ∧ (c ≠ 48 ∨ t = []))
    else if c ∈ sS ∨ c ∈ sC then decide (t.length + 1 ≤ 12)
    else if c ∈ sM then decide (t.length + 1 ≤ 3)
    else decide (c ∈ [40, 41, 44]) := rfl
structure OkBit (l : List Nat) : Prop where
  ex : ∃ c t, l = c :: t ∧ c ≠ 32 ∧ ∀ x ∈ t, x ∈ cls c
  pc : isPc l = true
  small : ∀ x ∈ l, x < 128
  len : l.length ≤ 61
theorem sD_iff {c : Nat} : c ∈ sD ↔ 48 ≤ c ∧ c ≤ 57 := by
  unfold sD
  simp only [List.mem_cons, List.not_mem_nil, or_false]
  omega
theorem sS_iff {c : Nat} : c ∈ sS ↔ 97 ≤ c ∧ c ≤ 122 := by
  unfold sS
  simp only [List.mem_cons, List.not_mem_nil, or_false]
  omega
theorem sC_iff {c : Nat} : c ∈ sC ↔ 65 ≤ c ∧ c ≤ 90 := by
  unfold sC
  simp only [List.mem_cons, List.not_mem_nil, or_false]
  omega
theorem sM_all {c : Nat} (h : c ∈ sM) : (33 ≤ c ∧ c < 48 ∧ c ≠ 40 ∧ c ≠ 41 ∧ c ≠ 44) ∨ (58 ≤ c ∧ c ≤ 64) ∨ c = 94 ∨ c = 124 := by
  unfold sM at h
  simp only [List.mem_cons, List.not_mem_nil, or_false] at h
  omega
theorem cls_D {c : Nat} (h : c ∈ sD ∨ c = 126) : cls c = sD := if_pos h
theorem cls_W {c : Nat} (h : c ∈ sS ∨ c ∈ sC) : cls c = sS ++ sD := by
  unfold cls
  rw [if_neg, if_pos h]
  rw [sD_iff]
  rw [sS_iff, sC_iff] at h
  omega
theorem cls_M {c : Nat} (h : c ∈ sM) : cls c = sM := by
  have z := sM_all h
  unfold cls
  rw [if_neg (by rw [sD_iff]; omega), if_neg (by rw [sS_iff, sC_iff]; omega), if_pos h]
theorem cls_N {c : Nat} (h1 : c ∉ sD) (h2 : c ≠ 126) (h3 : c ∉ sS) (h4 : c ∉ sC) (h5 : c ∉ sM) : cls c = [] := by
  unfold cls
  rw [if_neg (by simp [h1, h2]), if_neg (by simp [h3, h4]), if_neg h5]
theorem cls_small {c x : Nat} (h : x ∈ cls c) : x < 128 ∧ x ≠ 32 := by
  unfold cls at h
  split at h
  · rw [sD_iff] at h
    omega
  · split at h
    · rw [List.mem_append, sS_iff, sD_iff] at h
      omega
    · split at h
      · have z := sM_all h
        omega
      · cases h
theorem blank_not {c : Nat} : 32 ∉ cls c := fun h => (cls_small h).2 rfl
/-! numbers -/
theorem numL_head : ∀ n : Nat, 0 < n → ∃ c t, numL n = c :: t ∧ c ≠ 48 := by
  intro n
  induction n using Nat.strongRecOn with
  | _ n ih =>
    intro h0
    by_cases h : n < 10
    · exact ⟨48 + n, [], numL_lt h, by omega⟩
    · obtain ⟨c, t, e, hc⟩ := ih (n / 10) (by omega) (by omega)
      exact ⟨c, t ++ [48 + n % 10], by rw [numL_step (by omega), e]; rfl, hc⟩
theorem numL_D (n : Nat) : ∀ x ∈ numL n, x ∈ sD := fun x hx => sD_iff.mpr (numL_digits n x hx)
theorem ok_num {n : Nat} (h : n < 10 ^ 60) : OkBit (numL n) := by
  have hl := numL_len (k := 60) (by decide) h
  obtain ⟨c, t, e⟩ : ∃ c t, numL n = c :: t := by
    cases e : numL n with
    | nil => exact absurd e (numL_ne n)
    | cons c t => exact ⟨c, t, rfl⟩
  have hD := numL_D n
  rw [e] at hD hl ⊢
  have hc := hD c (List.mem_cons_self ..)
  have hc' := sD_iff.mp hc
  refine ⟨⟨c, t, rfl, by omega, fun x hx => ?_⟩, ?_, fun x hx => ?_, by omega⟩
  · rw [cls_D (.inl hc)]
    exact hD x (List.mem_cons_of_mem _ hx)
  · rw [isPc_cons, if_neg (by omega), if_pos hc]
    refine decide_eq_true ⟨hl, ?_⟩
    by_cases h0 : 0 < n
    · obtain ⟨c', t', e', hn⟩ := numL_head n h0
      rw [e] at e'
      cases e'
      exact .inl hn
    · have e0 : n = 0 := by omega
      subst e0
      have z : numL 0 = [48] := numL_lt (by decide)
      rw [e] at z
      cases z
      exact .inr rfl
  · have := sD_iff.mp (hD x hx)
    omega
theorem ok_neg {n : Nat} (h0 : 0 < n) (h : n < 10 ^ 60) : OkBit (126 :: numL n) := by
  have hl := numL_len (k := 60) (by decide) h
  obtain ⟨c, t, e, hc⟩ := numL_head n h0
  have hD := numL_D n
  rw [e] at hD hl ⊢
  refine ⟨⟨126, c :: t, rfl, by decide, fun x hx => ?_⟩, ?_, fun x hx => ?_, by rw [List.length_cons]; omega⟩
  · rw [cls_D (.inr rfl)]
    exact hD x hx
  · rw [isPc_cons, if_pos rfl]
    refine decide_eq_true ⟨by rw [List.length_cons]; omega, hl, ?_⟩
    simpa using hc
  · rcases List.mem_cons.mp hx with e | hx
    · omega
    · have := sD_iff.mp (hD x hx)
      omega
theorem ok_word {c : Nat} {t : List Nat} (hc : c ∈ sS ∨ c ∈ sC) (ht : ∀ x ∈ t, x ∈ sS ++ sD) (hl : t.length + 1 ≤ 12) : OkBit (c :: t) := by
  have h' : (97 ≤ c ∧ c ≤ 122) ∨ (65 ≤ c ∧ c ≤ 90) := by rwa [sS_iff, sC_iff] at hc
  refine ⟨⟨c, t, rfl, by omega, by rw [cls_W hc]; exact ht⟩, ?_, fun x hx => ?_, by rw [List.length_cons]; omega⟩
  · rw [isPc_cons, if_neg (by omega), if_neg (by rw [sD_iff]; omega), if_pos hc]
    exact decide_eq_true hl
  · rcases List.mem_cons.mp hx with e | hx
    · omega
    · have := ht x hx
      rw [List.mem_append, sS_iff, sD_iff] at this
      omega
theorem ok_mark {c : Nat} {t : List Nat} (hc : c ∈ sM) (ht : ∀ x ∈ t, x ∈ sM) (hl : t.length + 1 ≤ 3) : OkBit (c :: t) := by
  have h' := sM_all hc
  refine ⟨⟨c, t, rfl, by omega, by rw [cls_M hc]; exact ht⟩, ?_, fun x hx => ?_, by rw [List.length_cons]; omega⟩
  · rw [isPc_cons, if_neg (by omega), if_neg (by rw [sD_iff]; omega), if_neg (by rw [sS_iff, sC_iff]; omega), if_pos hc]
    exact decide_eq_true hl
  · rcases List.mem_cons.mp hx with e | hx
    · omega
    · have := sM_all (ht x hx)
      omega
theorem ok_sign {c : Nat} (hc : c = 40 ∨ c = 41 ∨ c = 44) : OkBit [c] := by
  refine ⟨⟨c, [], rfl, by omega, fun x hx => by cases hx⟩, ?_, fun x hx => ?_, by simp⟩
  · rcases hc with e | e | e <;> subst e <;> decide
  · rw [List.mem_singleton.mp hx]
    omega
/-! a line laid bit by bit -/
/-- what may follow, so that the last bit stays one -/
structure Laid (L : List Nat) (bits : List (List Nat)) (last : Nat) : Prop where
  go : ∀ R ts, Stop last R → Cut R ts → Cut (L ++ R) (bits ++ ts)
theorem Laid.done {L : List Nat} {bits : List (List Nat)} {last : Nat} (h : Laid L bits last) (n : Nat) : Cut (L ++ List.replicate n 32) bits := by
  have h2 := h.go (List.replicate n 32) [] ?_ ?_
  · rw [List.append_nil] at h2
    exact h2
  · cases n with
    | zero => exact True.intro
    | succ n => exact blank_not
  · have := Cut.nil.blanks n
    rw [List.append_nil] at this
    exact this
end Gs
namespace Gs
open PySem PySem.Spec PyProof.Rows L2
/-- the statements of a class -/
def clsBody : Stmt → List Stmt
  | .ClassDef _ _ _ b _ _ _ _ _ _ _ => b
  | _ => []
/-! ### own classes of errors: GoalError's kinds -/
section
variable {X : Cx} {e : PySem.Expr} {es : List PySem.Expr} {ta : TA} {p p1 p2 pos pos2 : Pos} {pl : Sem Bool} {B : Addr} {cx : Str}
/-- Base.__init__(self, ..), Base a class of the text that has no __init__ of its own, over ValueError -/
theorem pe_cinit (hg : Gl X cx) (hm : X.mg cx = some (.ref B))
    (sp : PySem.W.specialIn X.K (.ref B) "__getattribute__" = some (some (.builtin "type.__getattribute__")))
    (rd : PySem.W.readsIn X.K B (.type "type") = true)
    (fc : PySem.W.findCls X.K (.ref B) (.type "type") "__init__" = some (.val (.builtin "ValueError.__init__")))
    (ha : PA X (e :: es) ta) (hd : (cx == ("__debug__" : Str)) = false := by decide)
    (h1 : eval (((Expr.Name cx p1).Attribute "__init__" p2).Call (e :: es) [] pos) X.env =
                (eval (Expr.Name cx p1) X.env >>= fun ov => standAt p2.atName >>= fun _ => holding [ov] (getMethod ov "__init__" pl) >>= fun xx =>
                    callWith pos xx.1 xx.2 (backTo pos (starEach (e :: es) X.env)) (backToKw pos (keywordEach [] X.env))) := by rfl)
    (he : starEach (e :: es) X.env = (false, eval e X.env) :: starEach es X.env := by rfl)
    (hpl : ((backTo pos (starEach es X.env)).any fun (x : Bool × Sem Value) => x.fst) = false := by rfl) :
    PE X (((Expr.Name cx p1).Attribute "__init__" p2).Call (e :: es) [] pos) (tVeI X.K ta) := by
  refine ⟨fun pins s σ H Q I h => ?_⟩
  refine PySem.W.methodCall_KW (pl := pl) ?_ h1
  refine ld_glob I hg hm ?_ hd
  obtain ⟨m, F⟩ := I.fr
  have kin : X.K.In s.heap := I.ok.mod.kin.keeps F.keep
  refine PySem.W.method_cls kin sp (PySem.W.cls_value kin rd fc rfl ?_)
  refine callWith_method1 ?_ he hpl
  refine thn (ha.run pos pins _ σ H _ (I.tok _) h) ?_
  rintro us s1 ⟨vs, H1, I1, hv, a, C, ws, rfl, hl, oc, ho, q⟩
  cases hv with
  | cons r hr =>
  obtain rfl := r
  have l : ws.length = _ := hr.length
  exact oinit_ok oc I1 ho (by rw [← l, sizeLine_eq]; omega) fun s' I2 => ⟨.non, _, I2, rfl, q⟩
end
/-- what the text's written part says of the class GoalError, at B -/
structure BaseC (K : PySem.W.Frag) (mg : Str → Option Value) (B : Addr) : Prop where
  mB : mg "GoalError" = some (.ref B)
  sp : PySem.W.specialIn K (.ref B) "__getattribute__" = some (some (.builtin "type.__getattribute__"))
  rd : PySem.W.readsIn K B (.type "type") = true
  fc : PySem.W.findCls K (.ref B) (.type "type") "__init__" = some (.val (.builtin "ValueError.__init__"))
/-- the promise of an __init__ of one whole number -/
def spErr1 (K : PySem.W.Frag) (C : Addr) (fld : Str) : Sp := fun vs H Q _ => ∃ (a : Addr) (n : Nat), vs = [.ref a, .int (n : Int)] ∧ n < 10 ^ 50 ∧ H a = some (exo a C none) ∧
  ∀ dx, H dx = none → dx ≠ a → Q .non (upd (upd H dx (exd dx [(fld, .int (n : Int))])) a (exo a C (some dx)))
/-- the class of errors x, at C, whose __init__ takes one whole number and keeps it as fld -/
structure HasErr (P : Program) (w : World) (K : PySem.W.Frag) (mg : Str → Option Value) (base : Heap) (x fld : Str) (C : Addr) : Prop where
  oex : OexC K C
  mC : mg x = some (.ref C)
  xf : XfC K C
  noF : PySem.W.findIn K (.ref C) fld = some none
  ex : PySem.W.exmOne K (.ref C) (.ref C) = some true
  ini : ∃ (fI : Addr) (fd : FuncData), PySem.W.findIn K (.ref C) "__init__" = some (some (.ref fI)) ∧ PySem.W.typeIn K (.ref fI) = some (.type "function") ∧ FnOk P w K mg base CX0 1 fI fd ["self", fld] (spErr1 K C fld) ∧ Binds K fd ["self", fld] []
section
variable {K : PySem.W.Frag} {C : Addr} {fld : Str} {σ : L2.St} {H : Hp} {ta : TA} {sp : Sp} {dvs : List V}
theorem x_mkO {Q : XK} (q : ta σ H fun vs H1 => vs.length ≤ 1000 ∧ ∀ a, H1 a = none → sp (.ref a :: (vs ++ dvs)) (upd H1 a (exo a C none)) (fun v H2 => v = .non ∧ ∃ (d : Addr) (fs : List (Str × V)), H2 a = some (exo a C (some d)) ∧ H2 d = some (exd d fs) ∧ H1 d = none ∧ Q (.ref C) (some d) (upd (del H2 a) d (.xd fs))) (fun _ _ _ => False)) :
    tMkO C sp dvs ta σ H Q := q
theorem upd_err {H : Hp} {a d : Addr} {o1 o2 o3 o4 : HO} (ha : H a = none) (hne : d ≠ a) : upd (del (upd (upd (upd H a o1) d o2) a o3) a) d o4 = upd H d o4 := by
  funext b
  unfold upd del
  by_cases h1 : b = d
  · simp [h1]
  · by_cases h2 : b = a
    · subst h2
      simp [h1, ha]
    · simp [h1, h2]
/-- the error is made: what is left to show -/
theorem x_mkE {n : Nat} {Q : XK} (hn : n < 10 ^ 50) (q : ∀ d, H d = none → Q (.ref C) (some d) (upd H d (.xd [(fld, .int (n : Int))]))) :
    [V.int (n : Int)].length ≤ 1000 ∧ ∀ a, H a = none → spErr1 K C fld (.ref a :: ([V.int (n : Int)] ++ [])) (upd H a (exo a C none)) (fun v H2 => v = .non ∧ ∃ (d : Addr) (fs : List (Str × V)), H2 a = some (exo a C (some d)) ∧ H2 d = some (exd d fs) ∧ H d = none ∧ Q (.ref C) (some d) (upd (del H2 a) d (.xd fs))) (fun _ _ _ => False) := by
  refine ⟨(by show 1 ≤ 1000; decide), fun a ha => ⟨a, n, rfl, hn, upd_same, fun dx hdx hne => ⟨rfl, dx, [(fld, .int (n : Int))], upd_same, ?_, ?_, ?_⟩⟩⟩
  · rw [upd_ne hne]
    exact upd_same
  · rw [upd_ne hne] at hdx
    exact hdx
  · rw [upd_ne hne] at hdx
    rw [upd_err ha hne]
    exact q dx hdx
/-- for i, x in enumerate(a list) -/
theorem x_enum {R : It → Hp → Prop} (q : ta σ H fun vs H1 => ∃ a xs, vs = [.ref a] ∧ SqL K H1 a xs ∧ R (Ite K a) H1) : iEnum K ta σ H R := q
theorem x_forE {g : TG} {tb : TS} {a : Addr} {xs : List V} {X : L2.St → Hp → Prop} {rt : VK} (Pv : Nat → L2.St → Hp → Prop) (hS : SqL K H a xs) (h0 : Pv 0 σ H) (hl : ∀ i σ H, i ≤ xs.length → Pv i σ H → SqL K H a xs)
    (hs : ∀ i x σ H T, xs[i]? = some x → Pv i σ H → H T = none → g (.ref T) σ (upd H T (.tup [.int (i : Int), x])) fun σ2 H2 => tb { nx := Pv (i + 1), rt := rt, bk := X, ct := Pv (i + 1) } σ2 H2) (hd : ∀ σ H, Pv xs.length σ H → X σ H) :
    ∃ b ys, [V.ref a] = [V.ref b] ∧ SqL K H b ys ∧ ∃ W : Nat → Nat → L2.St → Hp → Prop, (∃ m, W 0 m σ H) ∧ ∀ i m σ H, W i m σ H →
      ((Ite K b).stop i H ∧ X σ H) ∨ ((Ite K b).go i H ∧ ∃ N : L2.St → Hp → Prop, (∀ σ' H', N σ' H' → ∃ m', m' < m ∧ W (i + 1) m' σ' H') ∧ ∀ x H', (Ite K b).yld i H x H' → g x σ H' fun σ2 H2 => tb { nx := N, rt := rt, bk := X, ct := N } σ2 H2) := by
  refine ⟨a, xs, rfl, hS, fun i m σ H => i + m = xs.length ∧ Pv i σ H, ⟨xs.length, Nat.zero_add _, h0⟩, ?_⟩
  rintro i m σ H ⟨hm, p⟩
  have hL := hl i σ H (by omega) p
  by_cases c : i < xs.length
  · refine .inr ⟨⟨xs, xs[i], hL, List.getElem?_eq_getElem c⟩, Pv (i + 1), fun σ' H' p' => ⟨m - 1, by omega, by omega, p'⟩, ?_⟩
    rintro x H' ⟨T, y, rfl, hT, rfl, hy⟩
    exact hs i y σ H T (hy xs hL) p hT
  · have e : i = xs.length := by omega
    subst e
    exact .inl ⟨⟨xs, hL, Nat.le_refl _⟩, hd σ H p⟩
end
theorem Same.sqT {K : PySem.W.Frag} {H H' : Hp} {a : Addr} {xs : List V} (k : Same H H') (h : SqT K H a xs) : SqT K H' a xs := by
  rcases h with (h | ⟨o, h⟩) | h
  · exact .inl (.inl (k a _ h))
  · exact .inl (.inr ⟨o, k a _ h⟩)
  · exact .inr h
/-! ### trees of numbers, texts and tuples -/
inductive Tv where
  | i : Int → Tv
  | s : Str → Tv
  | t : List Tv → Tv
/-- x is the tree, less than so deep -/
def TvAt (K : PySem.W.Frag) (H : Hp) : Nat → V → Tv → Prop
  | 0, _, _ => False
  | _ + 1, x, .i n => x = .int n
  | _ + 1, x, .s z => x = .str z
  | k + 1, x, .t ts => ∃ (a : Addr) (vs : List V), x = .ref a ∧ SqT K H a vs ∧ vs.length ≤ 1000 ∧ vs.length = ts.length ∧ ∀ (i : Nat) (y : V) (u : Tv), vs[i]? = some y → ts[i]? = some u → TvAt K H k y u
theorem TvAt.same {K : PySem.W.Frag} {H H' : Hp} (h : Same H H') : ∀ {k : Nat} {x : V} {u : Tv}, TvAt K H k x u → TvAt K H' k x u
  | 0, _, _, z => z
  | _ + 1, _, .i _, z => z
  | _ + 1, _, .s _, z => z
  | _ + 1, _, .t _, ⟨a, vs, e, s, z, l, f⟩ => ⟨a, vs, e, Same.sqT h s, z, l, fun i y u h1 h2 => (f i y u h1 h2).same h⟩
theorem TvAt.up {K : PySem.W.Frag} {H : Hp} : ∀ {k : Nat} {x : V} {u : Tv}, TvAt K H k x u → TvAt K H (k + 1) x u
  | _ + 1, _, .i _, z => z
  | _ + 1, _, .s _, z => z
  | _ + 1, _, .t _, ⟨a, vs, e, s, z, l, f⟩ => ⟨a, vs, e, s, z, l, fun i y u h1 h2 => (f i y u h1 h2).up⟩
theorem TvAt.kx {K : PySem.W.Frag} {p l : Addr} {c : Int} {H H' : Hp} (h : Kx p l H H') (P : PoolAt H p l c) : ∀ {k : Nat} {x : V} {u : Tv}, TvAt K H k x u → TvAt K H' k x u
  | 0, _, _, z => z
  | _ + 1, _, .i _, z => z
  | _ + 1, _, .s _, z => z
  | _ + 1, _, .t _, ⟨a, vs, e, s, z, l, f⟩ => ⟨a, vs, e, h.sqT P s, z, l, fun i y u h1 h2 => (f i y u h1 h2).kx h P⟩
/-- the type of what a tree is -/
theorem ty_tup {K : PySem.W.Frag} {H : Hp} {a : Addr} {vs : List V} (h : SqT K H a vs) : TyX K H (.ref a) (.type "tuple") := by
  rcases h with (h | ⟨o, h⟩) | ⟨o, its, n, h, h1, _⟩
  · exact .base (.tup h)
  · exact .fTuple h
  · exact .kTuple h h1
end Gs
namespace Gs
open PySem PySem.Spec PyProof.Rows L2
/-- a def of the text that may raise -/
structure HasE (P : Program) (w : World) (K : PySem.W.Frag) (mg : Str → Option Value) (base : Heap) (k : Nat) (x : Str) (ps : List Str) (sp : Sp) : Prop where
  ex : ∃ (f : Addr) (fd : FuncData), FnOk P w K mg base (L2.CX P w) k f fd ps sp ∧ Binds K fd ps [] ∧ PySem.W.keepIn K (.ref f) = true ∧ mg x = some (.ref f)
section
variable {X : Cx} {x : Str} {p pos : Pos} {e : PySem.Expr} {es : List PySem.Expr} {t : TA}
theorem pe_callE {k j : Nat} {ps : List Str} {sp : Sp} {W : WX} (C : HasE X.prog X.w X.K X.mg X.base k x ps sp) (hr : Room j X.A) (tk : Takes X W) (ha : PA X (e :: es) t) (hk : k ≤ j := by decide) (hg : Gl X x := by rfl) (hdb : (x == ("__debug__" : Str)) = false := by decide)
    (he : starEach (e :: es) X.env = (false, eval e X.env) :: starEach es X.env := by rfl) (hpl : (backTo pos (starEach es X.env)).any (·.1) = false := by rfl) :
    PE X (.Call (.Name x p) (e :: es) [] pos) (tCallS sp (WE W) t) := by
  obtain ⟨f, fd, F, b, kp, m⟩ := C.ex
  exact pe_callS F (hr.mono hk) hg m kp b (fun σ => passAt tk σ) ha hdb he hpl
end
theorem x_callS {σ : L2.St} {H : Hp} {Q : VK} {sp : Sp} {E : L2.St → XK} {t : TA} (q : t σ H fun vs H1 => sp vs H1 Q (E σ)) : tCallS sp E t σ H Q := q
/-! ### operators: rows of a level, a side, a name -/
structure Op where
  l : Int
  s : Str
  n : Str
@[reducible] def rowV (o : Op) : List V := [.int o.l, .str o.s, .str o.n]
def RowsAt (K : PySem.W.Frag) (H : Hp) (vs : List V) (ops : List Op) : Prop := vs.length = ops.length ∧ ∀ (i : Nat) (v : V) (o : Op), vs[i]? = some v → ops[i]? = some o → ∃ a, v = .ref a ∧ SqT K H a (rowV o)
theorem RowsAt.nil {K : PySem.W.Frag} {H : Hp} : RowsAt K H [] [] := ⟨rfl, fun i v o h => by cases h⟩
theorem RowsAt.cons {K : PySem.W.Frag} {H : Hp} {a : Addr} {o : Op} {vs : List V} {ops : List Op} (h : SqT K H a (rowV o)) (r : RowsAt K H vs ops) : RowsAt K H (.ref a :: vs) (o :: ops) := by
  refine ⟨by rw [List.length_cons, List.length_cons, r.1], fun i v u h1 h2 => ?_⟩
  cases i with
  | zero =>
    cases h1
    cases h2
    exact ⟨a, rfl, h⟩
  | succ i => exact r.2 i v u h1 h2
theorem RowsAt.append {K : PySem.W.Frag} {H : Hp} {vs ws : List V} {ops ops' : List Op} (r : RowsAt K H vs ops) (r' : RowsAt K H ws ops') : RowsAt K H (vs ++ ws) (ops ++ ops') := by
  refine ⟨by rw [List.length_append, List.length_append, r.1, r'.1], fun i v u h1 h2 => ?_⟩
  by_cases c : i < vs.length
  · rw [List.getElem?_append_left c] at h1
    rw [List.getElem?_append_left (by rw [← r.1]; exact c)] at h2
    exact r.2 i v u h1 h2
  · rw [List.getElem?_append_right (by omega)] at h1
    rw [List.getElem?_append_right (by rw [← r.1]; omega), ← r.1] at h2
    exact r'.2 _ v u h1 h2
theorem RowsAt.mono {K : PySem.W.Frag} {H H' : Hp} {vs : List V} {ops : List Op} (r : RowsAt K H vs ops) (k : ∀ a xs, SqT K H a xs → SqT K H' a xs) : RowsAt K H' vs ops := by
  refine ⟨r.1, fun i v o h1 h2 => ?_⟩
  obtain ⟨a, e, h⟩ := r.2 i v o h1 h2
  exact ⟨a, e, k a _ h⟩
theorem RowsAt.same {K : PySem.W.Frag} {H H' : Hp} {vs : List V} {ops : List Op} (r : RowsAt K H vs ops) (k : Same H H') : RowsAt K H' vs ops := r.mono fun _ _ h => Same.sqT k h
theorem RowsAt.kx {K : PySem.W.Frag} {p l : Addr} {c : Int} {H H' : Hp} {vs : List V} {ops : List Op} (r : RowsAt K H vs ops) (k : Kx p l H H') (P : PoolAt H p l c) : RowsAt K H' vs ops := r.mono fun _ _ h => k.sqT P h
theorem RowsAt.at {K : PySem.W.Frag} {H : Hp} {vs : List V} {ops : List Op} (r : RowsAt K H vs ops) {i : Nat} {v : V} (h : vs[i]? = some v) : ∃ a o, v = .ref a ∧ ops[i]? = some o ∧ SqT K H a (rowV o) := by
  have hi : i < vs.length := by
    rw [List.getElem?_eq_some_iff] at h
    exact h.1
  have h2 : ops[i]? = some (ops[i]'(by rw [← r.1]; exact hi)) := List.getElem?_eq_getElem _
  obtain ⟨a, e, s⟩ := r.2 i v _ h h2
  exact ⟨a, _, e, h2, s⟩
theorem RowsAt.take {K : PySem.W.Frag} {H : Hp} {vs : List V} {ops : List Op} (r : RowsAt K H vs ops) (k : Nat) : RowsAt K H (vs.take k) (ops.take k) := by
  refine ⟨by rw [List.length_take, List.length_take, r.1], fun i v o h1 h2 => ?_⟩
  by_cases c : i < k
  · rw [List.getElem?_take_of_lt c] at h1 h2
    exact r.2 i v o h1 h2
  · rw [List.getElem?_take_eq_none (by omega)] at h1
    cases h1
/-- a list of trees -/
def TvsAt (K : PySem.W.Frag) (H : Hp) (k : Nat) (vs : List V) (ts : List Tv) : Prop := vs.length = ts.length ∧ ∀ (i : Nat) (y : V) (u : Tv), vs[i]? = some y → ts[i]? = some u → TvAt K H k y u
def keptL : List Str := ["op", "mode", "table", "not", "is", "in", "such", "and", "=", "<", "=<", "==", "=/=", "..", "<-"]
def ownL : List Op := [⟨9, "none", "such"⟩, ⟨8, "right", "and"⟩, ⟨7, "none", "in"⟩, ⟨7, "ahead", "not"⟩, ⟨6, "none", "="⟩, ⟨6, "none", "is"⟩, ⟨6, "none", "<"⟩, ⟨6, "none", "=<"⟩, ⟨6, "none", "=="⟩, ⟨6, "none", "=/="⟩, ⟨6, "none", ".."⟩, ⟨4, "left", "+"⟩, ⟨4, "left", "-"⟩, ⟨3, "left", "*"⟩, ⟨3, "left", "//"⟩, ⟨3, "left", "mod"⟩]
theorem inV_strs {z : Str} {zs : List Str} : inV (.str z) (zs.map V.str) = decide (z ∈ zs) := by
  unfold inV
  rw [List.any_map]
  by_cases h : z ∈ zs
  · rw [decide_eq_true h, List.any_eq_true]
    refine ⟨z, h, ?_⟩
    show eqV (.str z) (.str z) = true
    simp [eqV]
  · rw [decide_eq_false h, List.any_eq_false]
    intro y hy e
    have e' : eqV (.str y) (.str z) = true := e
    simp [eqV] at e'
    exact h (e' ▸ hy)
end Gs
namespace Gs
open PySem PySem.Spec PyProof.Rows L2
section
variable {K : PySem.W.Frag} {σ : L2.St} {H : Hp} {Q : VK} {l b a : Addr} {xs zs : List V} {v : V} {r : List V} {t : TG} {u : TGs} {n : Nat} {k : L2.St → Hp → Prop}
theorem x_cat (hl : H l = some (.lst xs)) (hb : H b = some (.lst zs)) (hz : xs.length + zs.length ≤ sizeLine) (q : ∀ p, H p = none → Q (.ref p) (upd H p (.lst (xs ++ zs)))) : rCat (.ref l) (.ref b) H Q := ⟨l, b, xs, zs, rfl, rfl, hl, hb, hz, q⟩
theorem x_gtup (h : SqT K H a xs) (hn : xs.length = n) (q : u xs σ H k) : gTup K n u (.ref a) σ H k := ⟨a, xs, rfl, h, hn, q⟩
theorem x_gcons (q : t v σ H fun σ' H' => u r σ' H' k) : gCons t u (v :: r) σ H k := ⟨v, r, rfl, q⟩
theorem x_gnil (q : k σ H) : gNil [] σ H k := ⟨rfl, q⟩
theorem x_isT {x : V} {t : Value} {n : String} {c : Bool} (ty : TyX K H x t) (e : PySem.W.kitOne K t (.type n) = some c) (q : Q (.bl c) H) : rIsi K [x, .ty n] H Q :=
  ⟨x, .ty n, t, .type n, c, rfl, .ty n, ty, e, q⟩
theorem all_rep (n : Nat) : (List.replicate n true).all id = true := by
  rw [List.all_eq_true]
  intro x hx
  exact List.eq_of_mem_replicate hx
end
end Gs
namespace Gs
open PySem PySem.Spec PyProof.Rows L2
theorem take_more {α : Type} : ∀ {l : List α} {i : Nat} {x : α}, l[i]? = some x → l.take (i + 1) = l.take i ++ [x]
  | [], i, x, h => by simp at h
  | a :: l, 0, x, h => by
    have e : a = x := Option.some.inj h
    subst e
    rfl
  | a :: l, i + 1, x, h => by
    have ih := take_more (l := l) (i := i) (x := x) h
    rw [List.take_succ_cons, List.take_succ_cons, ih]
    rfl
theorem sqT_lst {K : PySem.W.Frag} {G : Hp} {D a : Addr} {ys xs : List V} {o : HO} (h : G D = some (.lst ys)) (s : SqT K G a xs) : SqT K (upd G D o) a xs := by
  rcases s with (s | ⟨u, s⟩) | s
  · refine .inl (.inl ?_)
    rw [upd_ne (ne_of s h (by intro z; cases z))]
    exact s
  · refine .inl (.inr ⟨u, ?_⟩)
    rw [upd_ne (ne_of s h (by intro z; cases z))]
    exact s
  · exact .inr s
theorem RowsAt.lst {K : PySem.W.Frag} {G : Hp} {D : Addr} {ys vs : List V} {o : HO} {ops : List Op} (r : RowsAt K G vs ops) (h : G D = some (.lst ys)) : RowsAt K (upd G D o) vs ops := r.mono fun _ _ s => sqT_lst h s
theorem same_updf {H G : Hp} {D : Addr} {o : HO} (s : Same H G) (h : H D = none) : Same H (upd G D o) := fun b u e => by
  rw [upd_ne (ne_of_none e h)]
  exact s b u e
end Gs
namespace Gs
open PySem PySem.Spec PyProof.Rows L2
theorem same_updg {H G : Hp} {D : Addr} {o : HO} (s : Same H G) (h : G D = none) : Same H (upd G D o) := same_updf s (s.free h)
theorem same_refl (H : Hp) : Same H H := fun _ _ h => h
end Gs
namespace Gs
open PySem PySem.Spec PyProof.Rows L2
theorem ne_of_nn {H : Hp} {a b : Addr} (h2 : H b = none) (h1 : H a ≠ none) : a ≠ b := fun z => h1 (z ▸ h2)
theorem nn_same {H : Hp} {a : Addr} {o : HO} : upd H a o a ≠ none := by
  rw [upd_same]
  intro z
  cases z
theorem nn_of {H : Hp} {a : Addr} {o : HO} (h : H a = some o) : H a ≠ none := by
  rw [h]
  intro z
  cases z
theorem nn_upd {H : Hp} {a b : Addr} {o : HO} (h : H a ≠ none) : upd H b o a ≠ none := by
  by_cases c : a = b
  · rw [c]
    exact nn_same
  · rw [upd_ne c]
    exact h
end Gs
namespace Gs
open PySem PySem.Spec PyProof.Rows L2 TL
section
variable {K : PySem.W.Frag} {σ : L2.St} {H : Hp} {Q : VK} {ta : TA} {te to : TE} {t : TE} {ts : List TE} {acc : Str} {QS : Str → Hp → Prop} {D : Ends} {f : Str}
theorem x_veI (q : ta σ H fun vs H1 => ∃ (a C : Addr) (ws : List V), vs = .ref a :: ws ∧ ws.length ≤ 1000 ∧ OexC K C ∧ H1 a = some (exo a C none) ∧ Q .non H1) : tVeI K ta σ H Q := q
theorem x_jcons (q : t σ H fun x H1 => ∃ y : Str, x = .str y ∧ (acc ++ y).length ≤ sizeLine ∧ tJs ts (acc ++ y) σ H1 QS) : tJs (t :: ts) acc σ H QS := q
theorem x_jnil (q : QS acc H) : tJs [] acc σ H QS := q
theorem x_fmt (q : te σ H fun x H1 => (∃ y : Str, x = .str y ∧ y.length ≤ sizeLine ∧ Q (.str y) H1) ∨ ∃ i : Int, x = .int i ∧ i.natAbs.log2 < 1920 ∧ Q (.str (toString i)) H1) : tFmt te σ H Q := q
theorem x_ost (q : te σ H fun y H1 => to σ H1 fun x H2 => ∃ a C : Addr, x = .ref a ∧ OexC K C ∧ PySem.W.findIn K (.ref C) f = some none ∧ ((H2 a = some (exo a C none) ∧ ∀ dx, H2 dx = none → dx ≠ a → D.nx σ (upd (upd H2 dx (exd dx [(f, y)])) a (exo a C (some dx)))) ∨ ∃ (dx : Addr) (fs : List (Str × V)), H2 a = some (exo a C (some dx)) ∧ H2 dx = some (exd dx fs) ∧ fs.length ≤ 900 ∧ D.nx σ (upd H2 dx (exd dx ((f, y) :: fs))))) : tOst K f to te D σ H := q
theorem natStr_len {n : Nat} (h : n < 10 ^ 60) : (Str.ofString (toString ((n : Nat) : Int))).length ≤ 60 := by
  show (Str.ofString (toString ((n : Nat) : Int))).cps.size ≤ 60
  rw [← Array.length_toList]
  show (TL.tl (Str.ofString (toString ((n : Nat) : Int)))).length ≤ 60
  rw [TL.tl_num]
  exact numL_len (k := 60) (by decide) h
theorem str_append_len (a b : Str) : (a ++ b).length = a.length + b.length := by
  show (a ++ b).cps.size = a.cps.size + b.cps.size
  rw [← Array.length_toList, ← Array.length_toList, ← Array.length_toList, ← List.length_append]
  exact congrArg List.length (TL.tl_append a b)
end
end Gs
namespace Gs
open PySem PySem.Spec PyProof.Rows L2
/-- a class of errors is caught by its own name -/
theorem exm_own {K : PySem.W.Frag} {S : Addr} (h1 : PySem.W.subIn K (.ref S) (.type "BaseException") = some true) (h2 : PySem.W.isClsIn K S = true) (h3 : PySem.W.typeIn K (.ref S) = some (.type "type")) (h4 : PySem.W.subIn K (.ref S) (.ref S) = some true) : PySem.W.exmOne K (.ref S) (.ref S) = some true := by
  have h2' : (PySem.W.clsIn K S).isSome = true := h2
  unfold PySem.W.exmOne
  simp only [h1, BEq.rfl, if_true]
  unfold PySem.W.kitCls
  simp only [h3, h4, h2', BEq.rfl, Bool.and_self, if_true]
end Gs
namespace Gs
open PySem PySem.Spec PyProof.Rows L2
theorem sqT_new {K : PySem.W.Frag} {H : Hp} {p q : Addr} {xs : List V} {o : HO} (hq : H q = none) (h : SqT K H p xs) : SqT K (upd H q o) p xs := Same.sqT (fun b u e => by rw [upd_ne (ne_of_none e hq)]; exact e) h
theorem sqL_new {K : PySem.W.Frag} {H : Hp} {p q : Addr} {xs : List V} {o : HO} (hq : H q = none) (h : SqL K H p xs) : SqL K (upd H q o) p xs := Same.seq (fun b u e => by rw [upd_ne (ne_of_none e hq)]; exact e) h
end Gs
namespace Gs
open PySem PySem.Spec PyProof.Rows L2 TL
/-! ### patterns: numbers, texts, tuples of a name and parts -/
inductive Pt where
  | i : Int → Pt
  | s : Str → Pt
  | t : Str → List Pt → Pt
mutual
def szT : Pt → Nat
  | .i _ => 1
  | .s _ => 1
  | .t _ ps => 1 + szL ps
def szL : List Pt → Nat
  | [] => 0
  | x :: r => szT x + szL r
end
mutual
def dpT : Pt → Nat
  | .i _ => 1
  | .s _ => 1
  | .t _ ps => 1 + dpL ps
def dpL : List Pt → Nat
  | [] => 0
  | x :: r => max (dpT x) (dpL r)
end
mutual
/-- the pieces that it is of, each as it should be; T: what holds of each text, N: of each name -/
def okT (T N : Str → Prop) : Pt → Prop
  | .i n => n.natAbs < 10 ^ 60
  | .s z => T z
  | .t nm ps => N nm ∧ 0 < ps.length ∧ ps.length ≤ 4 ∧ okL T N ps
def okL (T N : Str → Prop) : List Pt → Prop
  | [] => True
  | x :: r => okT T N x ∧ okL T N r
end
theorem szT_pos (p : Pt) : 0 < szT p := by
  cases p with
  | i n => simp [szT]
  | s z => simp [szT]
  | t nm ps => simp only [szT]; omega
theorem dpT_pos (p : Pt) : 0 < dpT p := by
  cases p with
  | i n => simp [dpT]
  | s z => simp [dpT]
  | t nm ps => simp only [dpT]; omega
theorem szL_append : ∀ (a b : List Pt), szL (a ++ b) = szL a + szL b
  | [], b => by simp [szL]
  | x :: r, b => by
    rw [List.cons_append, szL, szL, szL_append r b]
    omega
theorem dpL_append : ∀ (a b : List Pt), dpL (a ++ b) = max (dpL a) (dpL b)
  | [], b => by simp [dpL]
  | x :: r, b => by
    rw [List.cons_append, dpL, dpL, dpL_append r b]
    omega
theorem okL_mem {T N : Str → Prop} : ∀ {ps : List Pt}, okL T N ps ↔ ∀ p ∈ ps, okT T N p
  | [] => by simp [okL]
  | x :: r => by
    rw [okL, okL_mem (ps := r)]
    simp
theorem dpL_mem : ∀ {ps : List Pt} {p : Pt}, p ∈ ps → dpT p ≤ dpL ps
  | [], _, h => by cases h
  | x :: r, p, h => by
    rw [dpL]
    rcases List.mem_cons.mp h with rfl | h
    · omega
    · have := dpL_mem h
      omega
theorem dpL_le : ∀ {ps : List Pt} {k : Nat}, (∀ p ∈ ps, dpT p ≤ k) → dpL ps ≤ k
  | [], k, _ => by simp [dpL]
  | x :: r, k, h => by
    rw [dpL]
    have h1 := h x (List.mem_cons_self ..)
    have h2 := dpL_le (ps := r) (k := k) fun p hp => h p (List.mem_cons_of_mem _ hp)
    omega
theorem szL_len : ∀ (ps : List Pt), ps.length ≤ szL ps
  | [] => by simp [szL]
  | x :: r => by
    rw [szL, List.length_cons]
    have := szT_pos x
    have := szL_len r
    omega
/-- x is the pattern, of a depth below so many -/
def PtAt (K : PySem.W.Frag) (H : Hp) : Nat → V → Pt → Prop
  | 0, _, _ => False
  | _ + 1, x, .i n => x = .int n
  | _ + 1, x, .s z => x = .str z
  | k + 1, x, .t nm ps => ∃ (a : Addr) (vs : List V), x = .ref a ∧ SqT K H a (.str nm :: vs) ∧ vs.length = ps.length ∧ ∀ (i : Nat) (y : V) (u : Pt), vs[i]? = some y → ps[i]? = some u → PtAt K H k y u
theorem PtAt.mono {K : PySem.W.Frag} {H H' : Hp} (h : ∀ a xs, SqT K H a xs → SqT K H' a xs) : ∀ {k : Nat} {x : V} {u : Pt}, PtAt K H k x u → PtAt K H' k x u
  | 0, _, _, z => z.elim
  | _ + 1, _, .i _, z => z
  | _ + 1, _, .s _, z => z
  | _ + 1, _, .t _ _, ⟨a, vs, e, s, l, f⟩ => ⟨a, vs, e, h _ _ s, l, fun i y u h1 h2 => (f i y u h1 h2).mono h⟩
theorem PtAt.same {K : PySem.W.Frag} {H H' : Hp} {k : Nat} {x : V} {u : Pt} (p : PtAt K H k x u) (h : Same H H') : PtAt K H' k x u := p.mono fun _ _ s => Same.sqT h s
theorem PtAt.kx {K : PySem.W.Frag} {p l : Addr} {c : Int} {H H' : Hp} {k : Nat} {x : V} {u : Pt} (q : PtAt K H k x u) (h : Kx p l H H') (P : PoolAt H p l c) : PtAt K H' k x u := q.mono fun _ _ s => h.sqT P s
theorem PtAt.lst {K : PySem.W.Frag} {G : Hp} {D : Addr} {ys : List V} {o : HO} {k : Nat} {x : V} {u : Pt} (q : PtAt K G k x u) (h : G D = some (.lst ys)) : PtAt K (upd G D o) k x u := q.mono fun _ _ s => sqT_lst h s
/-- to each depth that is enough -/
theorem PtAt.of_depth {K : PySem.W.Frag} {H : Hp} : ∀ {k j : Nat} {x : V} {u : Pt}, PtAt K H k x u → dpT u ≤ j → PtAt K H j x u
  | 0, _, _, _, z, _ => z.elim
  | _ + 1, 0, _, u, _, h => by
    have := dpT_pos u
    omega
  | _ + 1, _ + 1, _, .i _, z, _ => z
  | _ + 1, _ + 1, _, .s _, z, _ => z
  | k + 1, j + 1, _, .t _ ps, ⟨a, vs, e, s, l, f⟩, h => ⟨a, vs, e, s, l, fun i y u h1 h2 => (f i y u h1 h2).of_depth (by
      have := dpL_mem (List.mem_of_getElem? h2)
      rw [dpT] at h
      omega)⟩
/-- a list of patterns -/
def PtsAt (K : PySem.W.Frag) (H : Hp) (k : Nat) (vs : List V) (ps : List Pt) : Prop := vs.length = ps.length ∧ ∀ (i : Nat) (y : V) (u : Pt), vs[i]? = some y → ps[i]? = some u → PtAt K H k y u
theorem PtsAt.nil {K : PySem.W.Frag} {H : Hp} {k : Nat} : PtsAt K H k [] [] := ⟨rfl, fun i y u h => by cases h⟩
theorem PtsAt.append {K : PySem.W.Frag} {H : Hp} {k : Nat} {vs ws : List V} {ps qs : List Pt} (r : PtsAt K H k vs ps) (r' : PtsAt K H k ws qs) : PtsAt K H k (vs ++ ws) (ps ++ qs) := by
  refine ⟨by rw [List.length_append, List.length_append, r.1, r'.1], fun i v u h1 h2 => ?_⟩
  by_cases c : i < vs.length
  · rw [List.getElem?_append_left c] at h1
    rw [List.getElem?_append_left (by rw [← r.1]; exact c)] at h2
    exact r.2 i v u h1 h2
  · rw [List.getElem?_append_right (by omega)] at h1
    rw [List.getElem?_append_right (by rw [← r.1]; omega), ← r.1] at h2
    exact r'.2 _ v u h1 h2
theorem PtsAt.one {K : PySem.W.Frag} {H : Hp} {k : Nat} {v : V} {p : Pt} (h : PtAt K H k v p) : PtsAt K H k [v] [p] := by
  refine ⟨rfl, fun i y u h1 h2 => ?_⟩
  cases i with
  | zero =>
    cases h1
    cases h2
    exact h
  | succ i => cases h1
theorem PtsAt.mono {K : PySem.W.Frag} {H H' : Hp} {k : Nat} {vs : List V} {ps : List Pt} (r : PtsAt K H k vs ps) (h : ∀ a xs, SqT K H a xs → SqT K H' a xs) : PtsAt K H' k vs ps := ⟨r.1, fun i y u h1 h2 => (r.2 i y u h1 h2).mono h⟩
theorem PtsAt.same {K : PySem.W.Frag} {H H' : Hp} {k : Nat} {vs : List V} {ps : List Pt} (r : PtsAt K H k vs ps) (h : Same H H') : PtsAt K H' k vs ps := r.mono fun _ _ s => Same.sqT h s
theorem PtsAt.kx {K : PySem.W.Frag} {p l : Addr} {c : Int} {H H' : Hp} {k : Nat} {vs : List V} {ps : List Pt} (r : PtsAt K H k vs ps) (h : Kx p l H H') (P : PoolAt H p l c) : PtsAt K H' k vs ps := r.mono fun _ _ s => h.sqT P s
theorem PtsAt.lst {K : PySem.W.Frag} {G : Hp} {D : Addr} {ys vs : List V} {o : HO} {k : Nat} {ps : List Pt} (r : PtsAt K G k vs ps) (h : G D = some (.lst ys)) : PtsAt K (upd G D o) k vs ps := r.mono fun _ _ s => sqT_lst h s
theorem PtsAt.at {K : PySem.W.Frag} {H : Hp} {k : Nat} {vs : List V} {ps : List Pt} (r : PtsAt K H k vs ps) {i : Nat} {v : V} (h : vs[i]? = some v) : ∃ u, ps[i]? = some u ∧ PtAt K H k v u := by
  have hi : i < vs.length := (List.getElem?_eq_some_iff.mp h).1
  have h2 : ps[i]? = some (ps[i]'(by rw [← r.1]; exact hi)) := List.getElem?_eq_getElem _
  exact ⟨_, h2, r.2 i v _ h h2⟩
theorem PtsAt.take {K : PySem.W.Frag} {H : Hp} {k : Nat} {vs : List V} {ps : List Pt} (r : PtsAt K H k vs ps) (n : Nat) : PtsAt K H k (vs.take n) (ps.take n) := by
  refine ⟨by rw [List.length_take, List.length_take, r.1], fun i v o h1 h2 => ?_⟩
  by_cases c : i < n
  · rw [List.getElem?_take_of_lt c] at h1 h2
    exact r.2 i v o h1 h2
  · rw [List.getElem?_take_eq_none (by omega)] at h1
    cases h1
theorem PtsAt.drop {K : PySem.W.Frag} {H : Hp} {k : Nat} {vs : List V} {ps : List Pt} (r : PtsAt K H k vs ps) (n : Nat) : PtsAt K H k (vs.drop n) (ps.drop n) := by
  refine ⟨by rw [List.length_drop, List.length_drop, r.1], fun i v o h1 h2 => ?_⟩
  rw [List.getElem?_drop] at h1 h2
  exact r.2 _ v o h1 h2
theorem PtAt.tup {K : PySem.W.Frag} {H : Hp} {k : Nat} {a : Addr} {nm : Str} {vs : List V} {ps : List Pt} (s : SqT K H a (.str nm :: vs)) (r : PtsAt K H k vs ps) : PtAt K H (k + 1) (.ref a) (.t nm ps) := ⟨a, vs, rfl, s, r.1, r.2⟩
end Gs
namespace Gs
open PySem PySem.Spec PyProof.Rows L2 TL
theorem PtAt.dp {K : PySem.W.Frag} {H : Hp} : ∀ {k : Nat} {x : V} {u : Pt}, PtAt K H k x u → dpT u ≤ k
  | 0, _, _, z => z.elim
  | k + 1, _, .i _, _ => by simp [dpT]
  | k + 1, _, .s _, _ => by simp [dpT]
  | k + 1, _, .t _ ps, ⟨a, vs, e, s, l, f⟩ => by
    rw [dpT]
    have : dpL ps ≤ k := dpL_le fun p hp => by
      obtain ⟨i, hi⟩ := List.mem_iff_getElem?.mp hp
      have hi' : i < ps.length := (List.getElem?_eq_some_iff.mp hi).1
      exact (f i (vs[i]'(by omega)) p (List.getElem?_eq_getElem _) hi).dp
    omega
theorem PtAt.up {K : PySem.W.Frag} {H : Hp} {k j : Nat} {x : V} {u : Pt} (h : PtAt K H k x u) (hk : k ≤ j) : PtAt K H j x u := h.of_depth (Nat.le_trans h.dp hk)
theorem PtsAt.up {K : PySem.W.Frag} {H : Hp} {k j : Nat} {vs : List V} {ps : List Pt} (h : PtsAt K H k vs ps) (hk : k ≤ j) : PtsAt K H j vs ps := ⟨h.1, fun i y u h1 h2 => (h.2 i y u h1 h2).up hk⟩
theorem last_szL {ps : List Pt} {u : Pt} (h : ps[ps.length - 1]? = some u) : szL ps = szL ps.dropLast + szT u := by
  rw [← List.getLast?_eq_getElem?] at h
  obtain ⟨ys, rfl⟩ := List.getLast?_eq_some_iff.mp h
  rw [List.dropLast_concat, szL_append]
  simp [szL]
theorem PtsAt.dropLast {K : PySem.W.Frag} {H : Hp} {k : Nat} {vs : List V} {ps : List Pt} (r : PtsAt K H k vs ps) : PtsAt K H k vs.dropLast ps.dropLast := by
  rw [List.dropLast_eq_take, List.dropLast_eq_take, r.1]
  exact r.take _
end Gs
namespace Gs
open PySem PySem.Spec PyProof.Rows L2 TL
/-- what a pattern is, one of three -/
theorem PtAt.three {K : PySem.W.Frag} {H : Hp} {k : Nat} {x : V} {u : Pt} (h : PtAt K H k x u) : (∃ n, x = .int n ∧ u = .i n) ∨ (∃ z, x = .str z ∧ u = .s z) ∨ ∃ (j : Nat) (nm : Str) (ps : List Pt) (a : Addr) (vs : List V), k = j + 1 ∧ x = .ref a ∧ u = .t nm ps ∧ SqT K H a (.str nm :: vs) ∧ PtsAt K H j vs ps := by
  match k, u, h with
  | 0, _, h => exact h.elim
  | _ + 1, .i n, h => exact .inl ⟨n, h, rfl⟩
  | _ + 1, .s z, h => exact .inr (.inl ⟨z, h, rfl⟩)
  | j + 1, .t nm ps, ⟨a, vs, e, s, l, f⟩ => exact .inr (.inr ⟨j, nm, ps, a, vs, rfl, e, rfl, s, l, f⟩)
end Gs
namespace Gs
open PySem PySem.Spec PyProof.Rows L2 TL
/-- an unknown: its first sign is a capital -/
def unkS (z : Str) : Bool := match tl z with
  | c :: _ => decide (c ∈ sC)
  | [] => false
def unk : Pt → Bool
  | .s z => unkS z
  | _ => false
mutual
/-- the unknowns as they stand -/
def nmT : Pt → List Str
  | .i _ => []
  | .s z => if unkS z = true then [z] else []
  | .t _ ps => nmL ps
def nmL : List Pt → List Str
  | [] => []
  | x :: r => nmT x ++ nmL r
end
theorem nmL_append : ∀ (a b : List Pt), nmL (a ++ b) = nmL a ++ nmL b
  | [], b => by simp [nmL]
  | x :: r, b => by
    rw [List.cons_append, nmL, nmL, nmL_append r b, List.append_assoc]
/-- each once, as they first stand -/
def once (l : List Str) : List Str := l.foldl (fun acc z => if z ∈ acc then acc else acc ++ [z]) []
theorem once_more (l : List Str) (z : Str) : once (l ++ [z]) = if z ∈ once l then once l else once l ++ [z] := by
  unfold once
  rw [List.foldl_append]
  rfl
def fdK (l : List Str) : List (Key × V) := l.map fun z => (Sum.inr z, V.bl true)
theorem fdK_put (l : List Str) (z : Str) : putK (fdK l) (Sum.inr z) (V.bl true) = fdK (if z ∈ l then l else l ++ [z]) := by
  unfold putK
  have e : ((fdK l).any fun kv => decide (kv.1 = Sum.inr z)) = decide (z ∈ l) := by
    unfold fdK
    rw [List.any_map]
    by_cases h : z ∈ l
    · rw [decide_eq_true h, List.any_eq_true]
      exact ⟨z, h, by simp⟩
    · rw [decide_eq_false h, List.any_eq_false]
      intro y hy e
      simp at e
      exact h (e ▸ hy)
  rw [e]
  by_cases h : z ∈ l
  · rw [if_pos (decide_eq_true h), if_pos h]
    unfold fdK
    rw [List.map_map]
    refine List.map_congr_left fun y hy => ?_
    by_cases hz : y = z <;> simp [hz]
  · rw [if_neg (by rw [decide_eq_false h]; decide), if_neg h]
    unfold fdK
    rw [List.map_append]
    rfl
theorem fdK_keys (l : List Str) : (fdK l).map (fun kv => kV kv.1) = l.map V.str := by
  unfold fdK
  rw [List.map_map]
  rfl
theorem once_len : ∀ (l acc : List Str), (l.foldl (fun acc z => if z ∈ acc then acc else acc ++ [z]) acc).length ≤ acc.length + l.length
  | [], acc => by simp
  | z :: r, acc => by
    rw [List.foldl_cons]
    refine Nat.le_trans (once_len r _) ?_
    rw [List.length_cons]
    split
    · omega
    · rw [List.length_append]
      show acc.length + 1 + r.length ≤ _
      omega
mutual
theorem nmT_len : ∀ p : Pt, (nmT p).length ≤ szT p
  | .i _ => by simp [nmT]
  | .s z => by
    rw [nmT, szT]
    split <;> simp
  | .t _ ps => by
    rw [nmT, szT]
    have := nmL_len ps
    omega
theorem nmL_len : ∀ ps : List Pt, (nmL ps).length ≤ szL ps
  | [] => by simp [nmL]
  | x :: r => by
    rw [nmL, szL, List.length_append]
    have := nmT_len x
    have := nmL_len r
    omega
end
theorem PtsAt.reverse {K : PySem.W.Frag} {H : Hp} {k : Nat} {vs : List V} {ps : List Pt} (r : PtsAt K H k vs ps) : PtsAt K H k vs.reverse ps.reverse := by
  refine ⟨by rw [List.length_reverse, List.length_reverse, r.1], fun i y u h1 h2 => ?_⟩
  have hi : i < vs.length := by
    have := (List.getElem?_eq_some_iff.mp h1).1
    rwa [List.length_reverse] at this
  rw [List.getElem?_reverse hi] at h1
  rw [List.getElem?_reverse (by rw [← r.1]; exact hi), ← r.1] at h2
  exact r.2 _ y u h1 h2
theorem okL_sub {T N : Str → Prop} {ps qs : List Pt} (h : okL T N ps) (k : ∀ p ∈ qs, p ∈ ps) : okL T N qs := okL_mem.mpr fun p hp => okL_mem.mp h p (k p hp)
end Gs
namespace Gs
open PySem PySem.Spec PyProof.Rows L2 TL
theorem szL_reverse : ∀ ps : List Pt, szL ps.reverse = szL ps
  | [] => rfl
  | x :: r => by
    rw [List.reverse_cons, szL_append, szL_reverse r, szL]
    simp only [szL]
    omega
theorem sqT_dk {K : PySem.W.Frag} {G : Hp} {D a : Addr} {kvs : List (Key × V)} {xs : List V} {o : HO} (h : G D = some (.dK kvs)) (s : SqT K G a xs) : SqT K (upd G D o) a xs := by
  rcases s with (s | ⟨u, s⟩) | s
  · refine .inl (.inl ?_)
    rw [upd_ne (ne_of s h (by intro z; cases z))]
    exact s
  · refine .inl (.inr ⟨u, ?_⟩)
    rw [upd_ne (ne_of s h (by intro z; cases z))]
    exact s
  · exact .inr s
theorem mem_dropLast {α : Type} {l : List α} {x : α} (h : x ∈ l.dropLast) : x ∈ l := by
  rw [List.dropLast_eq_take] at h
  exact List.mem_of_mem_take h
end Gs
namespace Gs
open PySem PySem.Spec PyProof.Rows L2 TL
def partsT : Pt → List Pt
  | .t _ ps => ps
  | _ => []
def nextL (l : List Pt) : List Pt := (l.map partsT).flatten
theorem nextL_append (a b : List Pt) : nextL (a ++ b) = nextL a ++ nextL b := by
  unfold nextL
  rw [List.map_append, List.flatten_append]
theorem dpT_parts (p : Pt) : dpT p = 1 + dpL (partsT p) := by
  cases p <;> simp [dpT, partsT, dpL]
theorem szT_parts (p : Pt) : szT p = 1 + szL (partsT p) := by
  cases p <;> simp [szT, partsT, szL]
theorem dpL_next : ∀ {l : List Pt}, l ≠ [] → dpL l = 1 + dpL (nextL l)
  | [], h => absurd rfl h
  | [x], _ => by
    have e : nextL [x] = partsT x := by simp [nextL]
    rw [e, dpL, dpL, dpT_parts x]
    omega
  | x :: y :: r, _ => by
    have e : nextL (x :: y :: r) = partsT x ++ nextL (y :: r) := by simp [nextL]
    rw [e, dpL, dpL_next (l := y :: r) (by simp), dpL_append, dpT_parts x]
    omega
theorem szL_next : ∀ l : List Pt, szL (nextL l) + l.length = szL l
  | [] => rfl
  | x :: r => by
    have e : nextL (x :: r) = partsT x ++ nextL r := by simp [nextL]
    have := szL_next r
    have h2 := szT_parts x
    rw [e, szL_append, szL, List.length_cons]
    omega
end Gs
namespace Gs
open PySem PySem.Spec PyProof.Rows L2 TL
end Gs
namespace Gs
open PySem PySem.Spec PyProof.Rows L2 TL
end Gs
namespace Gs
open PySem PySem.Spec PyProof.Rows L2
/-! ### a tuple cut out of another one, told exactly; a list made longer by it -/
def txO (p : Addr) (zs : List V) : HO := .ext fun h => ∃ (its : List Value) (n : Nat), h.get? p = some { cls := Value.type "tuple", data := Data.seq its.toArray n } ∧ Vals zs its
def rSlTX (K : PySem.W.Frag) : V → Option Int → Option Int → Hp → VK → Prop := fun x lo hi H Q => ∃ a xs, x = .ref a ∧ SqT K H a xs ∧ ¬(HT.sIx xs.length 0 lo = 0 ∧ HT.sIx xs.length xs.length hi = xs.length) ∧ ∀ p, H p = none → Q (.ref p) (upd H p (txO p (cutV xs lo hi)))
def rExtX : V → List V → Hp → VK → Prop := fun x vs H Q => ∃ l b xs zs, x = .ref l ∧ vs = [.ref b] ∧ H l = some (.lst xs) ∧ H b = some (txO b zs) ∧ xs.length + zs.length ≤ sizeLine ∧ Q .non (upd H l (.lst (xs ++ zs)))
section
variable {X : Cx} {K : PySem.W.Frag}
theorem sl_tupX (h : X.K = K := by rfl) : SlR X (rSlTX K) := by
  subst h
  intro pins s σ H x v vl vu lo hi sl Q I rx isl hl hu h
  obtain ⟨a, xs, rfl, hS, hw, q⟩ := h
  obtain ⟨its, hv, ht, hz⟩ := I.tuple hS
  obtain rfl := rx
  have lv : xs.length = its.length := hv.length
  have sz' : its.toArray.size = xs.length := by rw [List.size_toArray, lv]
  refine ⟨"tuple", _, slot_tuple_getitem.lookup, ht.typeIs, ?_⟩
  refine HT.getItem_tuple_cut ht isl hl hu (by rw [sz']; exact hw) ?_ (by rw [sz']; exact hz)
  refine ⟨.ref s.heap.objs.size, _, I.laid (fun b u hb => Heap.get?_push_of_some _ hb) (Nat.le_refl _) ?_, rfl, q _ (I.hok.fresh (Nat.le_refl _))⟩
  simp only [ObjOk, txO]
  refine ⟨⟨_, _, Heap.get?_push_size _ rfl, ?_⟩, ⟨_, Heap.get?_push_size _ rfl⟩, ?_⟩
  · unfold cutV
    rw [sz']
    exact (hv.drop _).take _
  · rintro h1 h2 ⟨i, n, e, z⟩ k
    exact ⟨i, n, k _ e, z⟩
theorem mt_extX : MtM X "list.extend" rExtX := by
  intro pins s σ H x xs v us Q I rx hv h
  obtain ⟨l, b, xs, zs, rfl, rfl, hl, hb, hz, q⟩ := h
  obtain rfl := rx
  obtain ⟨u, rfl, ru⟩ := hv.one
  obtain rfl := ru
  obtain ⟨hx, its, n, hvs, le, hget⟩ := I.lstM hl
  have ob := I.hok _ _ hb
  simp only [ObjOk, txO] at ob
  obtain ⟨⟨its2, n2, hget2, hv2⟩, _⟩ := ob
  have le2 : zs.length = its2.length := hv2.length
  have s1 : its.toArray.size + its2.toArray.size ≤ sizeLine := by
    rw [List.size_toArray, List.size_toArray]
    omega
  refine call_meets PySem.F.slot_list_extend ?_ PySem.F.entry_list_extend (PySem.F.args_list_extend_2 _ _) (PySem.AutoSeq1.list_extend_list_tuple_0 l its.toArray n b its2.toArray n2 ?_ ?_ ?_) ?_
  · exact ⟨_, hget, rfl⟩
  · exact extend_door s1 |> fun z => z
  · rw [List.size_toArray]
    omega
  · omega
  · exact ⟨hget, hget2, .non, _, I.lset hl hget (by simp) (hvs.append hv2) (by rw [List.length_append]; omega), rfl, q⟩
end
end Gs
namespace Gs
open PySem PySem.Spec PyProof.Rows L2
/-! ### x[:0:-1] of a tuple -/
theorem adjust_back {n : Nat} (hn : 1 ≤ n) : Builtin.Slice.sliceAdjust none (some 0) (-1) (n : Int) = ((n : Int) - 1, 0) := by
  unfold Builtin.Slice.sliceAdjust
  simp only [show ((-1 : Int) < 0) = True from by decide, show ((0 : Int) < 0) = False from by decide, if_true, if_false]
  congr 1
  omega
theorem places_back {n : Nat} (hn : 1 ≤ n) : Builtin.Slice.slicePlaces ((n : Int) - 1) 0 (-1) = n - 1 := by
  unfold Builtin.Slice.slicePlaces
  simp only [show ((-1 : Int) > 0) = False from by decide, if_false]
  by_cases h : (n : Int) - 1 > 0
  · rw [if_pos h, show -(-1 : Int) = 1 from rfl, Int.ediv_one]
    omega
  · rw [if_neg h]
    omega
theorem sliceApplied_back {prog : Program} {w : World} {A : Around} {E : Value → Shared → Prop} {s : Shared} {sl : Addr} {u1 u2 : Tok} {n : Nat} {Q : Int × Int × Nat → Shared → Prop}
    (isl : s.heap.IsSliceOf sl .none (.int 0 u1) (.int (-1) u2)) (hn : 1 ≤ n) (q : Q ((n : Int) - 1, -1, n - 1) s) :
    wpAny (model prog w) A (Builtin.Slice.sliceApplied (Value.ref sl) (pure (n : Int))) Q E s := by
  obtain ⟨o, ho, hc, hd⟩ := isl
  unfold Builtin.Slice.sliceApplied
  refine wpAny_bind ?_
  unfold Builtin.Slice.sliceFields
  refine wpAny_bind (wpAny_field ho hd rfl (wpAny_bind (wpAny_field ho hd rfl (wpAny_bind (wpAny_field ho hd rfl (wpAny_pure ?_))))))
  show wpAny _ _ (Builtin.Slice.slicePartIndex (.int (-1) u2) >>= _) _ _ _
  refine wpAny_bind (slicePart_int ?_)
  show wpAny _ _ (if ((-1 : Int) == 0) = true then _ else _) _ _ _
  rw [if_neg (by decide)]
  refine wpAny_bind (slicePart_none ?_)
  refine wpAny_bind (slicePart_int ?_)
  refine wpAny_bind (wpAny_pure ?_)
  refine (?_ : wpAny (model prog w) A (match Builtin.Slice.sliceAdjust none (some 0) (-1) (n : Int) with | (lo, hi) => pure (lo, -1, Builtin.Slice.slicePlaces lo hi (-1))) Q E s)
  rw [adjust_back hn]
  show wpAny _ _ (pure ((n : Int) - 1, (-1 : Int), Builtin.Slice.slicePlaces ((n : Int) - 1) 0 (-1))) _ _ _
  rw [places_back hn]
  exact wpAny_pure q
theorem filterMap_take {α : Type} (L : List α) : ∀ n, List.filterMap (fun k => L[k]?) (List.range n) = L.take n
  | 0 => rfl
  | n + 1 => by
    rw [List.range_succ, List.filterMap_append, filterMap_take L n, List.take_succ]
    congr 1
theorem fm_congr {α β : Type} {f g : α → Option β} : ∀ {l : List α}, (∀ x ∈ l, f x = g x) → l.filterMap f = l.filterMap g
  | [], _ => rfl
  | x :: r, h => by
    rw [List.filterMap_cons, List.filterMap_cons, h x (List.mem_cons_self ..), fm_congr (l := r) fun y hy => h y (List.mem_cons_of_mem _ hy)]
theorem pick_back (xs : Array Value) (hn : 1 ≤ xs.size) : (List.filterMap (fun m : Nat => xs[((xs.size : Int) - 1 + (m : Int) * -1).toNat]?) (List.range (xs.size - 1))).toArray = ((xs.toList.drop 1).reverse).toArray := by
  congr 1
  have hl : (xs.toList.drop 1).reverse.length = xs.size - 1 := by
    rw [List.length_reverse, List.length_drop, Array.length_toList]
  have e := filterMap_take (xs.toList.drop 1).reverse (xs.size - 1)
  rw [List.take_of_length_le (by omega)] at e
  rw [← e]
  refine fm_congr fun m hm => ?_
  have hm' := List.mem_range.mp hm
  rw [List.getElem?_reverse (by rw [List.length_drop, Array.length_toList]; omega), List.getElem?_drop, List.length_drop, Array.length_toList, ← Array.getElem?_toList]
  congr 1
  omega
theorem getItem_tuple_back {prog : Program} {w : World} {A : Around} {E : Value → Shared → Prop} {s : Shared} {t sl : Addr} {items : Array Value} {u1 u2 : Tok} {Q : Value → Shared → Prop}
    (ht : IsTup s.heap t items) (isl : s.heap.IsSliceOf sl .none (.int 0 u1) (.int (-1) u2)) (hn : 1 ≤ items.size) (hz : items.size ≤ sizeLine)
    (q : Q (Value.ref s.heap.objs.size) { heap := s.heap.push { cls := Value.type "tuple", data := Data.seq ((items.toList.drop 1).reverse).toArray }, gens := s.gens, drawn := s.drawn, toks := s.toks, os := s.os }) :
    wpAny (model prog w) A (getItem (Value.ref t) (Value.ref sl)) Q E s := by
  have isl' := isl
  obtain ⟨o, ho, hc, hd⟩ := isl'
  refine wpAny_holding ?_
  refine wpAny_bind (wpAny_sequenceKey ht.typeIs (by decide) ?_)
  refine wpAny_bind (wpAny_callSpecial?_slot ht.typeIs slot_tuple_getitem ?_)
  refine wpAny_call_entry slot_tuple_getitem ht.typeIs entry_tuple_getitem ?_ (args_tuple_getitem _ _)
  show wpAny _ _ (Builtin.Tuple.tupleItemsOf (.ref t) >>= _) _ _ _
  refine wpAny_bind (tupleItemsOf_ ht ?_)
  refine wpAny_bind (wpAny_typeOf (T := "slice") ⟨o, ho, hc⟩ ?_)
  rw [if_pos (by decide)]
  refine wpAny_bind (sliceApplied_back isl hn ?_)
  show wpAny _ _ (if (((items.size : Int) - 1 == 0 && (-1 : Int) == 1 && items.size - 1 == items.size) = true) then _ else _) _ _ _
  rw [if_neg (by simp)]
  show wpAny _ _ (Builtin.Tuple.tupleExact _ >>= _) _ _ _
  refine wpAny_bind ?_
  unfold Builtin.Tuple.tupleExact
  rw [pick_back items hn]
  refine wpAny_newObj_type ?_ ?_
  · exact wpAny_pure ⟨_, rfl, wpAny_pure q⟩
  · show ((items.toList.drop 1).reverse.toArray).size ≤ sizeLine
    rw [List.size_toArray, List.length_reverse, List.length_drop, Array.length_toList]
    omega
/-- a tuple's parts behind its first, turned round -/
def tBackX (K : PySem.W.Frag) (te : TE) : TE := fun σ H Q => te σ H fun x H1 => ∃ a z zs, x = .ref a ∧ SqT K H1 a (z :: zs) ∧ ∀ p, H1 p = none → Q (.ref p) (upd H1 p (txO p zs.reverse))
section
variable {X : Cx} {K : PySem.W.Frag} {e : PySem.Expr} {te : TE} {k1 k2 : Option Str} {p1 p2 p3 p4 pos : Pos}
theorem pe_backX {j1 j2 : Nat} (he : PE X e te) :
    PE X (.Subscript e (.Slice none (some (.Constant (.int 0) j1 p1)) (some (.UnaryOp .USub (.Constant (.int 1) j2 p2) p3)) p4) pos) (tBackX X.K te) := by
  refine ⟨fun pins s σ H Q I h => ?_⟩
  refine Subscript_ ?_
  refine thn (he.run pins s σ H _ I h) fun o s1 hh => ?_
  obtain ⟨x, H1, I1, rx, a, z, zs, rfl, hS, q⟩ := hh
  obtain rfl := rx
  refine wpAny_Slice ?_
  refine thn ((po_none (X := X)).run pins s1 σ H1 (fun o G => o = none ∧ G = H1) I1 ⟨rfl, rfl⟩) ?_
  rintro u s2 ⟨o, G, I2, ip, rfl, rfl⟩
  refine thn ((po_some (X := X) (pe_int (i := 0) (j := j1) (pos := p1))).run pins s2 σ G (fun o G' => o = some 0 ∧ G' = G) I2 ⟨0, rfl, rfl, rfl⟩) ?_
  rintro u2 s3 ⟨o, G, I3, ip2, rfl, rfl⟩
  refine thn ((po_some (X := X) (pe_un un_neg (pe_int (i := 1) (j := j2) (pos := p2)))).run pins s3 σ G (fun o G' => o = some (-1) ∧ G' = G) I3 ⟨1, rfl, -1, rfl, rfl, rfl⟩) ?_
  rintro u3 s4 ⟨o, G, I4, ip3, rfl, rfl⟩
  cases ip
  cases ip2 with
  | int _ t2 =>
  cases ip3 with
  | int _ t3 =>
  have I5 : L2.Inv X pins σ G { heap := s4.heap.push { cls := Value.type "slice", data := Data.fields #[Value.none, Value.int 0 t2, Value.int (-1) t3] }, gens := s4.gens, drawn := s4.drawn, toks := s4.toks, os := s4.os } := I4.kept fun b u hb => Heap.get?_push_of_some _ hb
  obtain ⟨its, hv, ht, hz⟩ := I5.tuple hS
  have lv : (z :: zs).length = its.length := hv.length
  have sz' : its.toArray.size = (z :: zs).length := by rw [List.size_toArray, lv]
  refine tail_any ht.typeIs slot_tuple_getitem.lookup (getItem_tuple_back ht (Heap.IsSliceOf.new _ _ _ _) (by rw [sz', List.length_cons]; omega) (by rw [sz']; exact hz) ?_) rfl
  refine ⟨.ref _, _, I5.laid (fun b u hb => Heap.get?_push_of_some _ hb) (Nat.le_refl _) ?_, rfl, q _ (I5.hok.fresh (Nat.le_refl _))⟩
  simp only [ObjOk, txO]
  refine ⟨⟨_, _, Heap.get?_push_size _ rfl, ?_⟩, ⟨_, Heap.get?_push_size _ rfl⟩, ?_⟩
  · exact (hv.drop 1).reverse
  · rintro h1 h2 ⟨i, n, e, z⟩ k
    exact ⟨i, n, k _ e, z⟩
end
end Gs
namespace Gs
open PySem PySem.Spec PyProof.Rows L2
section
variable {X : Cx} {K : PySem.W.Frag} {a : PySem.Expr} {ta : TE}
theorem pt_truthK (ha : PE X a ta) (he : ∀ whole, isTrue a X.env whole = (do let v ← whole; standAt a.pos; holding [v] (truthy v))) (h : X.K = K := by rfl) : PT X a (fun σ H Q => ta σ H fun x H' => ∃ k, TruV K x H' k ∧ Q k H') := h ▸ pt_truth ha he
end
end Gs
namespace Gs
open PySem PySem.Spec PyProof.Rows L2
theorem cut_tail (x : V) (vs : List V) : cutV (x :: vs) (some 1) none = vs := by
  unfold cutV
  rw [show (1 : Int) = ((1 : Nat) : Int) from rfl, HT.sIx_none, HT.sIx_nat, List.length_cons]
  rw [Nat.min_eq_left (by omega)]
  rw [List.drop_succ_cons, List.drop_zero, List.take_of_length_le (by omega)]
theorem cut_tail_ne (x : V) (vs : List V) : ¬(HT.sIx (x :: vs).length 0 (some 1) = 0 ∧ HT.sIx (x :: vs).length (x :: vs).length none = (x :: vs).length) := by
  rintro ⟨h, _⟩
  rw [show (1 : Int) = ((1 : Nat) : Int) from rfl, HT.sIx_nat, List.length_cons] at h
  rw [Nat.min_eq_left (by omega)] at h
  omega
end Gs
namespace Gs
open PySem PySem.Spec PyProof.Rows L2
section
variable {K : PySem.W.Frag} {σ : L2.St} {H : Hp} {wi wi1 : TI} {g g1 : TG} {tt tt1 : TT} {te : TE} {vs vs1 : List Nat} {Q : VK}
theorem pi_tupK {X : Cx} {tg l : PySem.Expr} {tl : TE} (hl : PE X l tl) (h : X.K = K := by rfl) : PI X tg l (iTup K tl) := h ▸ pi_tup hl
/-- what stands for an element behind the tests: it is put behind the list at D -/
def putsD (D : Addr) (te : TE) (N : Hp → Prop) (σ : L2.St) (H : Hp) : Prop := te σ H fun y H7 => ∃ acc, H7 D = some (.lst acc) ∧ acc.length < sizeLine ∧ N (upd H7 D (.lst (acc ++ [y])))
/-- the inner loop, over a tuple -/
theorem in_tup {D a : Addr} {ys : List V} {N : Hp → Prop} {σ2 : L2.St} {H4 : Hp} (Pv : Nat → Hp → Prop) (hS : SqT K H4 a ys) (h0 : Pv 0 H4) (hl : ∀ j H, j ≤ ys.length → Pv j H → SqT K H a ys)
    (hs : ∀ j x H, ys[j]? = some x → Pv j H → g1 x (wipe σ2 vs1) H fun σ3 H5 => wipe σ3 vs1 = wipe σ2 vs1 ∧ tt1 σ3 H5 fun b H6 => if b = true then putsD D te (Pv (j + 1)) σ3 H6 else Pv (j + 1) H6) (hd : ∀ H, Pv ys.length H → N H) :
    ∃ b, V.ref a = .ref b ∧ (∃ xs, SqT K H4 b xs) ∧ ∃ W1 : Nat → Nat → Hp → Prop, (∃ m, W1 0 m H4) ∧ ∀ j k H, W1 j k H → ((Itt K b).stop j H ∧ N H) ∨ ((Itt K b).go j H ∧ ∃ Nx1 : Hp → Prop, (∀ H', Nx1 H' → ∃ k', k' < k ∧ W1 (j + 1) k' H') ∧
      ∀ x H', (Itt K b).yld j H x H' → g1 x (wipe σ2 vs1) H' fun σ3 H5 => wipe σ3 vs1 = wipe σ2 vs1 ∧ tt1 σ3 H5 fun b H6 => if b = true then te σ3 H6 fun y H7 => ∃ acc, H7 D = some (.lst acc) ∧ acc.length < sizeLine ∧ Nx1 (upd H7 D (.lst (acc ++ [y]))) else Nx1 H6) := by
  refine ⟨a, rfl, ⟨ys, hS⟩, fun j k H => j + k = ys.length ∧ Pv j H, ⟨ys.length, Nat.zero_add _, h0⟩, ?_⟩
  rintro j k H ⟨hk, p⟩
  have hL := hl j H (by omega) p
  by_cases c : j < ys.length
  · refine .inr ⟨?_, Pv (j + 1), fun H' p' => ⟨k - 1, by omega, by omega, p'⟩, ?_⟩
    · exact ⟨ys, _, hL, List.getElem?_eq_getElem c⟩
    · intro x H' hy
      obtain ⟨rfl, hy⟩ := hy
      exact hs j x _ (hy ys hL) p
  · have e : j = ys.length := by omega
    subst e
    exact .inl ⟨⟨ys, hL, Nat.le_refl _⟩, hd H p⟩
theorem x_lc2 (q : wi σ H fun J H1 => ∀ D, H1 D = none → ∃ W : Nat → Nat → Hp → Prop, (∃ m, W 0 m (upd H1 D (.lst []))) ∧ ∀ i m H, W i m H → (J.stop i H ∧ Q (.ref D) H) ∨ (J.go i H ∧ ∃ Nx : Hp → Prop, (∀ H', Nx H' → ∃ m', m' < m ∧ W (i + 1) m' H') ∧
    ∀ x H', J.yld i H x H' → g x (wipe σ vs) H' fun σ2 H2 => wipe σ2 vs = wipe σ vs ∧ tt σ2 H2 fun b H3 => if b = true then wi1 σ2 H3 fun J1 H4 => ∃ W1 : Nat → Nat → Hp → Prop, (∃ m, W1 0 m H4) ∧ ∀ j k H, W1 j k H → (J1.stop j H ∧ Nx H) ∨ (J1.go j H ∧ ∃ Nx1 : Hp → Prop, (∀ H', Nx1 H' → ∃ k', k' < k ∧ W1 (j + 1) k' H') ∧
      ∀ x H', J1.yld j H x H' → g1 x (wipe σ2 vs1) H' fun σ3 H5 => wipe σ3 vs1 = wipe σ2 vs1 ∧ tt1 σ3 H5 fun b H6 => if b = true then te σ3 H6 fun y H7 => ∃ acc, H7 D = some (.lst acc) ∧ acc.length < sizeLine ∧ Nx1 (upd H7 D (.lst (acc ++ [y]))) else Nx1 H6) else Nx H3)) : tLc2 wi g tt wi1 g1 tt1 te vs vs1 σ H Q := q
/-- the outer loop, over a list -/
theorem x_lc2L {a : Addr} {xs : List V} {Qd : Addr → Hp → Prop} (Pv : Addr → Nat → Hp → Prop) (hS : SqL K H a xs) (h0 : ∀ D, H D = none → Pv D 0 (upd H D (.lst []))) (hl : ∀ D, H D = none → ∀ i H', i ≤ xs.length → Pv D i H' → SqL K H' a xs)
    (hs : ∀ D, H D = none → ∀ i x H', xs[i]? = some x → Pv D i H' → g x (wipe σ vs) H' fun σ2 H2 => wipe σ2 vs = wipe σ vs ∧ tt σ2 H2 fun b H3 => if b = true then wi1 σ2 H3 fun J1 H4 => ∃ W1 : Nat → Nat → Hp → Prop, (∃ m, W1 0 m H4) ∧ ∀ j k H, W1 j k H → (J1.stop j H ∧ Pv D (i + 1) H) ∨ (J1.go j H ∧ ∃ Nx1 : Hp → Prop, (∀ H', Nx1 H' → ∃ k', k' < k ∧ W1 (j + 1) k' H') ∧
      ∀ x H', J1.yld j H x H' → g1 x (wipe σ2 vs1) H' fun σ3 H5 => wipe σ3 vs1 = wipe σ2 vs1 ∧ tt1 σ3 H5 fun b H6 => if b = true then te σ3 H6 fun y H7 => ∃ acc, H7 D = some (.lst acc) ∧ acc.length < sizeLine ∧ Nx1 (upd H7 D (.lst (acc ++ [y]))) else Nx1 H6) else Pv D (i + 1) H3)
    (hd : ∀ D, H D = none → ∀ H', Pv D xs.length H' → Qd D H') :
    ∃ b, V.ref a = .ref b ∧ (∃ xs, SqL K H b xs) ∧ ∀ D, H D = none → ∃ W : Nat → Nat → Hp → Prop, (∃ m, W 0 m (upd H D (.lst []))) ∧ ∀ i m H, W i m H → ((Itl K b).stop i H ∧ Qd D H) ∨ ((Itl K b).go i H ∧ ∃ Nx : Hp → Prop, (∀ H', Nx H' → ∃ m', m' < m ∧ W (i + 1) m' H') ∧
      ∀ x H', (Itl K b).yld i H x H' → g x (wipe σ vs) H' fun σ2 H2 => wipe σ2 vs = wipe σ vs ∧ tt σ2 H2 fun b H3 => if b = true then wi1 σ2 H3 fun J1 H4 => ∃ W1 : Nat → Nat → Hp → Prop, (∃ m, W1 0 m H4) ∧ ∀ j k H, W1 j k H → (J1.stop j H ∧ Nx H) ∨ (J1.go j H ∧ ∃ Nx1 : Hp → Prop, (∀ H', Nx1 H' → ∃ k', k' < k ∧ W1 (j + 1) k' H') ∧
        ∀ x H', J1.yld j H x H' → g1 x (wipe σ2 vs1) H' fun σ3 H5 => wipe σ3 vs1 = wipe σ2 vs1 ∧ tt1 σ3 H5 fun b H6 => if b = true then te σ3 H6 fun y H7 => ∃ acc, H7 D = some (.lst acc) ∧ acc.length < sizeLine ∧ Nx1 (upd H7 D (.lst (acc ++ [y]))) else Nx1 H6) else Nx H3) := by
  refine ⟨a, rfl, ⟨xs, hS⟩, fun D hD => ⟨fun i m H' => i + m = xs.length ∧ Pv D i H', ⟨xs.length, Nat.zero_add _, h0 D hD⟩, ?_⟩⟩
  rintro i m H' ⟨hm, p⟩
  have hL := hl D hD i H' (by omega) p
  by_cases c : i < xs.length
  · refine .inr ⟨⟨xs, _, hL, List.getElem?_eq_getElem c⟩, Pv D (i + 1), fun H' p' => ⟨m - 1, by omega, by omega, p'⟩, ?_⟩
    intro x H2 hy
    obtain ⟨rfl, hy⟩ := hy
    exact hs D hD i x _ (hy xs hL) p
  · have e : i = xs.length := by omega
    subst e
    exact .inl ⟨⟨xs, hL, Nat.le_refl _⟩, hd D hD H' p⟩
end
end Gs
namespace Gs
open PySem PySem.Spec PyProof.Rows L2
section
variable {K : PySem.W.Frag} {σ : L2.St} {H : Hp} {g : TG} {tt : TT} {te : TE} {vs : List Nat}
theorem x_lcT {Qd : Addr → Hp → Prop} {a : Addr} {xs : List V} (Pv : Addr → Nat → Hp → Prop) (hS : SqT K H a xs) (h0 : ∀ D, H D = none → Pv D 0 (upd H D (.lst []))) (hl : ∀ D, H D = none → ∀ i H', i ≤ xs.length → Pv D i H' → SqT K H' a xs)
    (hs : ∀ D, H D = none → ∀ i x H', xs[i]? = some x → Pv D i H' → g x (wipe σ vs) H' fun σ2 H2 => wipe σ2 vs = wipe σ vs ∧ tt σ2 H2 fun b H3 =>
      if b = true then te σ2 H3 fun y H4 => ∃ acc, H4 D = some (.lst acc) ∧ acc.length < sizeLine ∧ Pv D (i + 1) (upd H4 D (.lst (acc ++ [y]))) else Pv D (i + 1) H3) (hd : ∀ D, H D = none → ∀ H', Pv D xs.length H' → Qd D H') :
    ∃ b, V.ref a = .ref b ∧ (∃ xs, SqT K H b xs) ∧ ∀ D, H D = none → ∃ W : Nat → Nat → Hp → Prop, (∃ m, W 0 m (upd H D (.lst []))) ∧ ∀ i m H, W i m H →
      ((Itt K b).stop i H ∧ Qd D H) ∨ ((Itt K b).go i H ∧ ∃ Nx : Hp → Prop, (∀ H', Nx H' → ∃ m', m' < m ∧ W (i + 1) m' H') ∧ ∀ x H', (Itt K b).yld i H x H' → g x (wipe σ vs) H' fun σ2 H2 => wipe σ2 vs = wipe σ vs ∧ tt σ2 H2 fun b H3 =>
        if b = true then te σ2 H3 fun y H4 => ∃ acc, H4 D = some (.lst acc) ∧ acc.length < sizeLine ∧ Nx (upd H4 D (.lst (acc ++ [y]))) else Nx H3) := by
  refine ⟨a, rfl, ⟨xs, hS⟩, fun D hD => ⟨fun i m H' => i + m = xs.length ∧ Pv D i H', ⟨xs.length, Nat.zero_add _, h0 D hD⟩, ?_⟩⟩
  rintro i m H' ⟨hm, p⟩
  have hL := hl D hD i H' (by omega) p
  by_cases c : i < xs.length
  · refine .inr ⟨⟨xs, _, hL, List.getElem?_eq_getElem c⟩, Pv D (i + 1), fun H' p' => ⟨m - 1, by omega, by omega, p'⟩, ?_⟩
    intro x H2 hy
    obtain ⟨rfl, hy⟩ := hy
    exact hs D hD i x _ (hy xs hL) p
  · have e : i = xs.length := by omega
    subst e
    exact .inl ⟨⟨xs, hL, Nat.le_refl _⟩, hd D hD H' p⟩
end
end Gs
namespace Gs
open PySem PySem.Spec PyProof.Rows L2
/-! ### own rules for sums: t[::-1], // by any divisor, min, max, sorted, abs -/
section
variable {X : Cx} {K : PySem.W.Frag}
theorem cr_maxKK (hc : X.calm = true) (h : X.K = K := by rfl) : CallR X (.builtin "max") (rMax K) := h ▸ cr_max hc
end
section
variable {K : PySem.W.Frag} {H : Hp} {Q : VK}
theorem x_max {a : Addr} {ns : List Int} (h : SqL K H a (ns.map V.int)) (h0 : 0 < ns.length) (q : ∀ m, m ∈ ns → (∀ y, y ∈ ns → y ≤ m) → Q (.int m) H) : rMax K [.ref a] H Q := ⟨a, ns, rfl, h, h0, q⟩
end
/-- a op1 b op2 c op3 d -/
def tChain3 (r r' r'' : R2) (ta tb tc td : TE) : TE := fun σ H Q => ta σ H fun x H1 => tb σ H1 fun y H2 => r x y H2 fun z H3 => ∃ k, z = .bl k ∧
  (if k = true then tc σ H3 fun w H4 => r' y w H4 fun z' H5 => ∃ k', z' = .bl k' ∧ (if k' = true then td σ H5 fun u H6 => r'' w u H6 Q else Q (.bl false) H5) else Q (.bl false) H3)
theorem x_chain3 {σ : L2.St} {H : Hp} {Q : VK} {r r' r'' : R2} {ta tb tc td : TE} (q : ta σ H fun x H1 => tb σ H1 fun y H2 => r x y H2 fun z H3 => ∃ k, z = .bl k ∧
  (if k = true then tc σ H3 fun w H4 => r' y w H4 fun z' H5 => ∃ k', z' = .bl k' ∧ (if k' = true then td σ H5 fun u H6 => r'' w u H6 Q else Q (.bl false) H5) else Q (.bl false) H3)) : tChain3 r r' r'' ta tb tc td σ H Q := q
section
variable {X : Cx} {K : PySem.W.Frag} {H : Hp} {Q : VK}
theorem sl_tupAK (h : X.K = K := by rfl) : SlR X (rSlA K) := h ▸ sl_tupA
theorem x_slA {a : Addr} {xs : List V} {lo hi : Option Int} (hS : SqT K H a xs) (q : ∀ r H', Same H H' → SqT K H' r (cutV xs lo hi) → Q (.ref r) H') : rSlA K (.ref a) lo hi H Q := by
  refine ⟨a, xs, rfl, hS, fun hw => ?_, fun _ p hp => q p _ (same_upd hp) (.of upd_same)⟩
  refine q a H (fun _ _ e => e) ?_
  have e : cutV xs lo hi = xs := by
    unfold cutV
    rw [hw.1, hw.2, List.drop_zero, Nat.sub_zero, List.take_length]
  rw [e]
  exact hS
theorem x_catA {a b : Addr} {xs ys : List V} (h1 : SqT K H a xs) (h2 : SqT K H b ys) (hz : xs.length + ys.length ≤ sizeLine) (q : ∀ r H', Same H H' → SqT K H' r (xs ++ ys) → Q (.ref r) H') : rCatA K (.ref a) (.ref b) H Q := by
  refine ⟨a, b, xs, ys, rfl, rfl, h1, h2, hz, fun e => ?_, fun _ e => ?_, fun _ _ p hp => q p _ (same_upd hp) (.of upd_same)⟩
  · subst e
    exact q b H (fun _ _ e => e) h2
  · subst e
    refine q a H (fun _ _ e => e) ?_
    rw [List.append_nil]
    exact h1
end
def tStarK (K : PySem.W.Frag) (te : TE) (t : TA) : TA := fun σ H Q => te σ H fun x H1 => ∃ p xs, x = V.ref p ∧ (SqT K H1 p xs ∨ SqL K H1 p xs) ∧ t σ H1 fun ys H2 => Q (xs ++ ys) H2
theorem pa_starK {X : Cx} {K : PySem.W.Frag} {e : PySem.Expr} {es : List PySem.Expr} {te : TE} {t : TA} {p : Pos} (he : PE X e te) (hr : PA X es t) (h : X.K = K := by rfl) (hs : starEach (.Starred e p :: es) X.env = (true, eval e X.env) :: starEach es X.env := by rfl) : PA X (.Starred e p :: es) (tStarK K te t) := by
  subst h
  exact StX.pa_star he hr hs
theorem x_star {K : PySem.W.Frag} {te : TE} {t : TA} {σ : L2.St} {H : Hp} {QA : List V → Hp → Prop} (q : te σ H fun x H1 => ∃ p xs, x = V.ref p ∧ (SqT K H1 p xs ∨ SqL K H1 p xs) ∧ t σ H1 fun ys H2 => QA (xs ++ ys) H2) : tStarK K te t σ H QA := q
end Gs
namespace Gs
open PySem PySem.Spec PyProof.Rows L2 TL
/-! ### lists of things at places -/
def AllAt {α : Type} (R : V → α → Prop) (vs : List V) (as : List α) : Prop := vs.length = as.length ∧ ∀ (i : Nat) (v : V) (a : α), vs[i]? = some v → as[i]? = some a → R v a
namespace AllAt
variable {α : Type} {R R' : V → α → Prop} {vs ws : List V} {as bs : List α}
theorem nil : AllAt R [] [] := ⟨rfl, fun i v o h => by cases h⟩
theorem cons {v : V} {a : α} (h : R v a) (r : AllAt R vs as) : AllAt R (v :: vs) (a :: as) := by
  refine ⟨by rw [List.length_cons, List.length_cons, r.1], fun i w b hw hb => ?_⟩
  cases i with
  | zero => cases hw; cases hb; exact h
  | succ i => exact r.2 i w b hw hb
theorem one {v : V} {a : α} (h : R v a) : AllAt R [v] [a] := cons h nil
theorem append (r : AllAt R vs as) (r' : AllAt R ws bs) : AllAt R (vs ++ ws) (as ++ bs) := by
  refine ⟨by rw [List.length_append, List.length_append, r.1, r'.1], fun i w b hw hb => ?_⟩
  by_cases c : i < vs.length
  · rw [List.getElem?_append_left c] at hw
    rw [List.getElem?_append_left (by rw [← r.1]; exact c)] at hb
    exact r.2 i w b hw hb
  · rw [List.getElem?_append_right (by omega)] at hw
    rw [List.getElem?_append_right (by rw [← r.1]; omega), ← r.1] at hb
    exact r'.2 _ w b hw hb
theorem mono (r : AllAt R vs as) (k : ∀ v a, R v a → R' v a) : AllAt R' vs as := ⟨r.1, fun i v a h1 h2 => k v a (r.2 i v a h1 h2)⟩
theorem atv (r : AllAt R vs as) {i : Nat} {v : V} (h : vs[i]? = some v) : ∃ a, as[i]? = some a ∧ R v a := by
  have hi : i < as.length := by
    rw [← r.1]
    exact (List.getElem?_eq_some_iff.mp h).1
  exact ⟨_, List.getElem?_eq_getElem hi, r.2 i v _ h (List.getElem?_eq_getElem hi)⟩
theorem take (r : AllAt R vs as) (k : Nat) : AllAt R (vs.take k) (as.take k) := by
  refine ⟨by rw [List.length_take, List.length_take, r.1], fun i v a hv ha => ?_⟩
  rw [List.getElem?_take] at hv ha
  split at hv
  · next c =>
    rw [if_pos c] at ha
    exact r.2 i v a hv ha
  · cases hv
end AllAt
/-! ### sums -/
inductive Su where
  | n (z : Int)
  | pl (j : Nat)
  | op (s : Str) (a b : Su)
def signs5 : List Str := ["+", "-", "*", "//", "mod"]
def Su.Ok (many : Nat) : Su → Prop
  | .n z => z.natAbs < 2 ^ 200
  | .pl j => j < many
  | .op s a b => s ∈ signs5 ∧ a.Ok many ∧ b.Ok many
def SuAt (K : PySem.W.Frag) (H : Hp) : Su → V → Prop
  | .n z, v => v = .int z
  | .pl j, v => ∃ p, v = .ref p ∧ SqT K H p [.str "at", .int (j : Int)]
  | .op s a b, v => ∃ p x y, v = .ref p ∧ SqT K H p [.str s, x, y] ∧ SuAt K H a x ∧ SuAt K H b y
section
variable {K : PySem.W.Frag} {H H' : Hp}
theorem SuAt.mono (k : ∀ a xs, SqT K H a xs → SqT K H' a xs) : ∀ {t : Su} {v : V}, SuAt K H t v → SuAt K H' t v
  | .n _, _, h => h
  | .pl _, _, ⟨p, e, h⟩ => ⟨p, e, k _ _ h⟩
  | .op _ _ _, _, ⟨p, x, y, e, h, h1, h2⟩ => ⟨p, x, y, e, k _ _ h, SuAt.mono k h1, SuAt.mono k h2⟩
theorem SuAt.same {t : Su} {v : V} (h : SuAt K H t v) (k : Same H H') : SuAt K H' t v := h.mono fun _ _ x => Same.sqT k x
theorem SuAt.kx {p l : Addr} {c : Int} {t : Su} {v : V} (h : SuAt K H t v) (k : Kx p l H H') (P : PoolAt H p l c) : SuAt K H' t v := h.mono fun _ _ x => k.sqT P x
def PairAt (K : PySem.W.Frag) (H : Hp) (v : V) (e : Int × Int) : Prop := ∃ p, v = .ref p ∧ SqT K H p [.int e.1, .int e.2]
def BoxAt (K : PySem.W.Frag) (H : Hp) (b : Addr) (bx : List (Int × Int)) : Prop := ∃ vs, SqT K H b vs ∧ AllAt (PairAt K H) vs bx
theorem PairAt.mono {v : V} {e : Int × Int} (h : PairAt K H v e) (k : ∀ a xs, SqT K H a xs → SqT K H' a xs) : PairAt K H' v e := by
  obtain ⟨p, rfl, h⟩ := h
  exact ⟨p, rfl, k _ _ h⟩
theorem BoxAt.mono {b : Addr} {bx : List (Int × Int)} (h : BoxAt K H b bx) (k : ∀ a xs, SqT K H a xs → SqT K H' a xs) : BoxAt K H' b bx := by
  obtain ⟨vs, h1, h2⟩ := h
  exact ⟨vs, k _ _ h1, h2.mono fun _ _ x => x.mono k⟩
theorem BoxAt.same {b : Addr} {bx : List (Int × Int)} (h : BoxAt K H b bx) (k : Same H H') : BoxAt K H' b bx := h.mono fun _ _ x => Same.sqT k x
theorem BoxAt.kx {p l : Addr} {c : Int} {b : Addr} {bx : List (Int × Int)} (h : BoxAt K H b bx) (k : Kx p l H H') (P : PoolAt H p l c) : BoxAt K H' b bx := h.mono fun _ _ x => k.sqT P x
end
/-! ### the ends of a sum -/
def imx (i j : Int) : Int := if j > i then j else i
def iab (i : Int) : Int := if i < 0 then -i else i
def mn4 (a b c d : Int) : Int := min (min a b) (min c d)
def mx4 (a b c d : Int) : Int := max (max a b) (max c d)
def join (s : Str) (l r : Int × Int) : Int × Int :=
  if s = "+" then (l.1 + r.1, l.2 + r.2) else if s = "-" then (l.1 - r.2, l.2 - r.1)
  else if s = "*" then (mn4 (l.1 * r.1) (l.1 * r.2) (l.2 * r.1) (l.2 * r.2), mx4 (l.1 * r.1) (l.1 * r.2) (l.2 * r.1) (l.2 * r.2))
  else if s = "//" then (-(imx (iab l.1) (iab l.2)), imx (iab l.1) (iab l.2)) else (-(imx (iab r.1) (iab r.2)), imx (iab r.1) (iab r.2))
section
variable {K : PySem.W.Frag}
theorem Su.Ok.three {M : Nat} {t : Su} {v : V} {H : Hp} (h : SuAt K H t v) (k : t.Ok M) : (∃ z, t = .n z ∧ v = .int z ∧ z.natAbs < 2 ^ 200) ∨ (∃ j p, t = .pl j ∧ j < M ∧ v = .ref p ∧ SqT K H p [.str "at", .int (j : Int)]) ∨
    ∃ s a b p x y, t = .op s a b ∧ s ∈ signs5 ∧ s ≠ "at" ∧ a.Ok M ∧ b.Ok M ∧ v = .ref p ∧ SqT K H p [.str s, x, y] ∧ SuAt K H a x ∧ SuAt K H b y := by
  cases t with
  | n z => exact .inl ⟨z, rfl, h, k⟩
  | pl j =>
    obtain ⟨p, rfl, h⟩ := h
    exact .inr (.inl ⟨j, p, rfl, k, rfl, h⟩)
  | op s a b =>
    obtain ⟨p, x, y, rfl, h, h1, h2⟩ := h
    refine .inr (.inr ⟨s, a, b, p, x, y, rfl, k.1, ?_, k.2.1, k.2.2, rfl, h, h1, h2⟩)
    rintro rfl
    exact absurd k.1 (by decide)
end
end Gs
namespace Gs
open PySem PySem.Spec PyProof.Rows L2
/-! ### max(xs, default=d) of a list of ints -/
theorem x_ckw {r : List V → List V → Hp → VK → Prop} {t tk : TA} {σ : L2.St} {H : Hp} {Q : VK} (q : t σ H fun vs H1 => tk σ H1 fun zs H2 => r vs zs H2 Q) : tCKw r t tk σ H Q := q
end Gs
namespace Gs
open PySem PySem.Spec PyProof.Rows L2
/-! ### enumerate(a text of plain signs); text.rpartition(text) -/
def IteS (z : Str) : It := ⟨fun n _ => n < z.cps.size, fun n H v H' => ∃ T c, v = .ref T ∧ H T = none ∧ H' = upd H T (.tup [.int (n : Nat), .str ⟨#[c]⟩]) ∧ z.cps[n]? = some c, fun n _ => z.cps.size ≤ n⟩
def iEnumS (te : TA) : TI := fun σ H R => te σ H fun vs H1 => ∃ z : Str, vs = [.str z] ∧ z.cps.all (· < 128) = true ∧ R (IteS z) H1
theorem x_ienumS {σ : L2.St} {H : Hp} {ta : TA} {R : It → Hp → Prop} (q : ta σ H fun vs H1 => ∃ z : Str, vs = [.str z] ∧ z.cps.all (· < 128) = true ∧ R (IteS z) H1) : iEnumS ta σ H R := q
end Gs
namespace Gs
open PySem PySem.Spec PyProof.Rows L2 TL
/-! ### titles: a name, a stroke, a number of places -/
theorem tl_lenP (z : Str) : (tl z).length = z.length := by
  show z.cps.toList.length = z.cps.size
  rw [Array.length_toList]
theorem tl_injP {a b : Str} (h : tl a = tl b) : a = b := by
  cases a
  cases b
  exact congrArg Str.mk (Array.toList_inj.mp h)
/-! ### the parts at the + places and at the - places -/
theorem len_app (a b : Str) : (a ++ b).length = a.length + b.length := by rw [← tl_lenP, tl_append, List.length_append, tl_lenP, tl_lenP]
end Gs
namespace Gs
open PySem PySem.Spec PyProof.Rows L2 TL
/-! ### patterns as data, to be compared -/
mutual
def ptD : Pt → PyData
  | .i n => .int n
  | .s z => .str z
  | .t nm ps => .tuple (.str nm :: ptDL ps)
def ptDL : List Pt → List PyData
  | [] => []
  | p :: r => ptD p :: ptDL r
end
theorem dpAll_of {K : PySem.W.Frag} {H : Hp} : ∀ {vs : List V} {ds : List PyData}, vs.length = ds.length → (∀ (i : Nat) v d, vs[i]? = some v → ds[i]? = some d → Dp K H v d) → DpAll K H vs ds
  | [], [], _, _ => .nil
  | v :: vs, d :: ds, hl, h => .cons (h 0 v d rfl rfl) (dpAll_of (Nat.succ.inj hl) fun i v' d' h1 h2 => h (i + 1) v' d' h1 h2)
end Gs
namespace Gs
open PySem PySem.Spec PyProof.Rows L2 TL
/-! ### dicts of names and data compared -/
/-! ### what is bound to names -/
abbrev Fl := List (Str × Pt)
def look : Fl → Str → Option Pt
  | [], _ => none
  | (y, p) :: r, z => if y = z then some p else look r z
inductive StAt (K : PySem.W.Frag) (H : Hp) (k : Nat) : List (Key × V) → Fl → Prop
  | nil : StAt K H k [] []
  | cons {z : Str} {v : V} {p : Pt} {r : List (Key × V)} {f : Fl} : PtAt K H k v p → StAt K H k r f → StAt K H k ((Sum.inr z, v) :: r) ((z, p) :: f)
theorem StAt.len {K : PySem.W.Frag} {H : Hp} {k : Nat} {r : List (Key × V)} {f : Fl} (h : StAt K H k r f) : r.length = f.length := by
  induction h with
  | nil => rfl
  | cons a b ih => rw [List.length_cons, List.length_cons, ih]
theorem StAt.mono {K : PySem.W.Frag} {H H' : Hp} {k : Nat} {r : List (Key × V)} {f : Fl} (h : StAt K H k r f) (g : ∀ a xs, SqT K H a xs → SqT K H' a xs) : StAt K H' k r f := by
  induction h with
  | nil => exact .nil
  | cons a b ih => exact .cons (a.mono g) ih
theorem StAt.up {K : PySem.W.Frag} {H : Hp} {k j : Nat} {r : List (Key × V)} {f : Fl} (h : StAt K H k r f) (g : k ≤ j) : StAt K H j r f := by
  induction h with
  | nil => exact .nil
  | cons a b ih => exact .cons (a.up g) ih
theorem StAt.find {K : PySem.W.Frag} {H : Hp} {k : Nat} {r : List (Key × V)} {f : Fl} (h : StAt K H k r f) (z : Str) : (valV r (Sum.inr z) = none ∧ look f z = none) ∨ ∃ v p, valV r (Sum.inr z) = some v ∧ look f z = some p ∧ PtAt K H k v p := by
  induction h with
  | nil => exact .inl ⟨rfl, rfl⟩
  | @cons y v p r f a b ih =>
    by_cases e : y = z
    · subst e
      refine .inr ⟨v, p, valV_pos (p := ((Sum.inr y : Key), v)) rfl, ?_, a⟩
      rw [look, if_pos rfl]
    · rw [valV_neg (p := ((Sum.inr y : Key), v)) (by simpa using e), look, if_neg e]
      exact ih
def putF (f : Fl) (z : Str) (p : Pt) : Fl := if (look f z).isSome = true then f.map (fun e => if e.1 = z then (e.1, p) else e) else f ++ [(z, p)]
theorem StAt.append {K : PySem.W.Frag} {H : Hp} {k : Nat} {r r' : List (Key × V)} {f f' : Fl} (h : StAt K H k r f) (h' : StAt K H k r' f') : StAt K H k (r ++ r') (f ++ f') := by
  induction h with
  | nil => exact h'
  | cons a b ih => exact .cons a ih
theorem StAt.put {K : PySem.W.Frag} {H : Hp} {k : Nat} {r : List (Key × V)} {f : Fl} (h : StAt K H k r f) {z : Str} {v : V} {p : Pt} (hv : PtAt K H k v p) : StAt K H k (putK r (Sum.inr z) v) (putF f z p) := by
  unfold putK putF
  rw [valV_any]
  have e : (valV r (Sum.inr z)).isSome = (look f z).isSome := by
    rcases h.find z with ⟨a, b⟩ | ⟨_, _, a, b, _⟩ <;> rw [a, b] <;> rfl
  rw [e]
  by_cases c : (look f z).isSome = true
  · rw [if_pos c, if_pos c]
    clear e c
    induction h with
    | nil => exact .nil
    | @cons y v' p' r f a b ih =>
      rw [List.map_cons, List.map_cons]
      by_cases e : y = z
      · subst e
        rw [if_pos rfl, if_pos rfl]
        exact .cons hv ih
      · rw [if_neg (by simpa using e), if_neg e]
        exact .cons a ih
  · rw [if_neg c, if_neg c]
    exact h.append (.cons hv .nil)
theorem look_none : ∀ {f : Fl} {z : Str}, look f z = none ↔ ∀ e ∈ f, e.1 ≠ z
  | [], z => by simp [look]
  | (y, p) :: r, z => by
    rw [look]
    by_cases e : y = z
    · rw [if_pos e]
      simp [e]
    · rw [if_neg e, look_none (f := r)]
      simp [e]
/-- each name once, an unknown; each worth as it should be -/
structure StOk (T N : Str → Prop) (f : Fl) : Prop where
  nd : (f.map (·.1)).Nodup
  un : ∀ e ∈ f, unkS e.1 = true
  ok : ∀ e ∈ f, okT T N e.2 ∧ dpT e.2 ≤ 40
theorem StOk.nil {T N : Str → Prop} : StOk T N [] := ⟨List.nodup_nil, (by intro e h; cases h), (by intro e h; cases h)⟩
theorem StOk.put {T N : Str → Prop} {f : Fl} (h : StOk T N f) {z : Str} {p : Pt} (hz : unkS z = true) (hp : okT T N p ∧ dpT p ≤ 40) : StOk T N (putF f z p) := by
  unfold putF
  by_cases c : (look f z).isSome = true
  · rw [if_pos c]
    refine ⟨?_, fun e he => ?_, fun e he => ?_⟩
    · rw [List.map_map]
      have : ((fun e : Str × Pt => e.1) ∘ fun e : Str × Pt => if e.1 = z then (e.1, p) else e) = fun e => e.1 := by
        funext e
        show (if e.1 = z then (e.1, p) else e).1 = e.1
        split <;> rfl
      rw [this]
      exact h.nd
    · obtain ⟨e', he', rfl⟩ := List.mem_map.mp he
      split
      · exact h.un e' he'
      · exact h.un e' he'
    · obtain ⟨e', he', rfl⟩ := List.mem_map.mp he
      split
      · exact hp
      · exact h.ok e' he'
  · rw [if_neg c]
    have hn : look f z = none := by
      cases e : look f z with
      | none => rfl
      | some _ =>
        rw [e] at c
        exact absurd rfl c
    have hn' := look_none.mp hn
    refine ⟨?_, fun e he => ?_, fun e he => ?_⟩
    · rw [List.map_append, List.nodup_append]
      refine ⟨h.nd, List.nodup_cons.mpr ⟨(by intro h; cases h), List.nodup_nil⟩, fun a ha b hb => ?_⟩
      obtain ⟨e, he, rfl⟩ := List.mem_map.mp ha
      have : b = z := by simpa using hb
      rw [this]
      exact hn' e he
    · rcases List.mem_append.mp he with he | he
      · exact h.un e he
      · rw [List.mem_singleton.mp he]
        exact hz
    · rcases List.mem_append.mp he with he | he
      · exact h.ok e he
      · rw [List.mem_singleton.mp he]
        exact hp
/-! ### matching -/
/-- compared as the program compares -/
def bq (u t : Pt) : Bool := PyData.eqv (ptD u) (ptD t)
/-! ### what is bound, put in -/
/-! ### readings of what dicts are asked, and of loops over two tuples -/
theorem x_dget {td ty : TE} {σ : L2.St} {H : Hp} {Q : VK} (q : td σ H fun x H1 => ty σ H1 fun y H2 => ∃ a v, x = .ref a ∧ DGet H2 a y (some v) ∧ Q v H2) : tDGet td ty σ H Q := q
end Gs
namespace Gs
open PySem PySem.Spec PyProof.Rows L2
end Gs
namespace Gs
open PySem PySem.Spec PyProof.Rows L2
/-! ### [f(x) for x in a tuple or a list], the things told by relations over the heap -/
/-- what holds of a thing holds while tuples stay -/
def Stb2 {β : Type} (K : PySem.W.Frag) (S : Hp → V → β → Prop) : Prop := ∀ (H H' : Hp) v b, (∀ a xs, SqT K H a xs → SqT K H' a xs) → S H v b → S H' v b
theorem same_put {H H' : Hp} {b : Addr} {o : HO} (h : Same H H') (hb : H b = none) : Same H (upd H' b o) := fun c u e => by
  have hc : c ≠ b := fun z => by
    rw [z, hb] at e
    cases e
  rw [upd_ne hc]
  exact h c u e
section
variable {α β : Type} {K : PySem.W.Frag} {R : Hp → V → α → Prop} {S : Hp → V → β → Prop} {σ : L2.St} {H : Hp} {g : TG} {tt : TT} {te : TE} {vs : List Nat} {Qd : Addr → Hp → Prop} {a : Addr} {xs : List V} {as : List α}
theorem lcm_step {D : Addr} {k : Nat} {G : Hp} {v : V} (f : α → β) (stb : Stb2 K S) (hz : as.length < 90000) (hD : H D = none)
    (hs : ∀ (G : Hp) v x, Same H G → x ∈ as → R G v x → ∀ (Q' : VK) (P' : Hp → Prop), (∀ G' y, Same G G' → S G' y (f x) → Q' y G') → g v (wipe σ vs) G fun σ2 H2 => wipe σ2 vs = wipe σ vs ∧ tt σ2 H2 fun b H3 => if b = true then te σ2 H3 Q' else P' H3)
    (kG : Same H G) {us : List V} (eD : G D = some (.lst us)) (hu : AllAt (S G) us ((as.take k).map f)) {x : α} (hx : as[k]? = some x) (r : R G v x) {P' : Hp → Prop} :
    g v (wipe σ vs) G fun σ2 H2 => wipe σ2 vs = wipe σ vs ∧ tt σ2 H2 fun b H3 => if b = true then te σ2 H3 fun y H4 => ∃ acc, H4 D = some (.lst acc) ∧ acc.length < sizeLine ∧ (Same H (upd H4 D (.lst (acc ++ [y]))) ∧ ∃ us', (upd H4 D (.lst (acc ++ [y]))) D = some (.lst us') ∧ AllAt (S (upd H4 D (.lst (acc ++ [y])))) us' ((as.take (k + 1)).map f)) else P' H3 := by
  have hk := (List.getElem?_eq_some_iff.mp hx).1
  refine hs G v x kG (List.mem_of_getElem? hx) r _ _ fun G' y k' sy => ?_
  have lu := hu.1
  rw [List.length_map, List.length_take] at lu
  have gg : ∀ b zs, SqT K G' b zs → SqT K (upd G' D (.lst (us ++ [y]))) b zs := fun b zs q => sqT_lst (k' _ _ eD) q
  refine ⟨us, k' _ _ eD, szl (by omega), same_put (kG.trans k') hD, us ++ [y], upd_same, ?_⟩
  rw [take_more hx, List.map_append]
  exact (hu.mono fun v b q => stb _ _ v b (fun _ _ s => gg _ _ (Same.sqT k' s)) q).append (.one (stb _ _ _ _ gg sy))
theorem x_lcMT (f : α → β) (hS : SqT K H a xs) (ha : AllAt (R H) xs as) (hm : ∀ {H H' : Hp} {v : V} {x : α}, Same H H' → R H v x → R H' v x) (stb : Stb2 K S) (hz : as.length < 90000)
    (hs : ∀ (G : Hp) v x, Same H G → x ∈ as → R G v x → ∀ (Q' : VK) (P' : Hp → Prop), (∀ G' y, Same G G' → S G' y (f x) → Q' y G') → g v (wipe σ vs) G fun σ2 H2 => wipe σ2 vs = wipe σ vs ∧ tt σ2 H2 fun b H3 => if b = true then te σ2 H3 Q' else P' H3)
    (hd : ∀ D (G : Hp) us, H D = none → Same H G → G D = some (.lst us) → AllAt (S G) us (as.map f) → Qd D G) :
    ∃ b, V.ref a = .ref b ∧ (∃ xs, SqT K H b xs) ∧ ∀ D, H D = none → ∃ W : Nat → Nat → Hp → Prop, (∃ m, W 0 m (upd H D (.lst []))) ∧ ∀ i m H, W i m H →
      ((Itt K b).stop i H ∧ Qd D H) ∨ ((Itt K b).go i H ∧ ∃ Nx : Hp → Prop, (∀ H', Nx H' → ∃ m', m' < m ∧ W (i + 1) m' H') ∧ ∀ x H', (Itt K b).yld i H x H' → g x (wipe σ vs) H' fun σ2 H2 => wipe σ2 vs = wipe σ vs ∧ tt σ2 H2 fun b H3 =>
        if b = true then te σ2 H3 fun y H4 => ∃ acc, H4 D = some (.lst acc) ∧ acc.length < sizeLine ∧ Nx (upd H4 D (.lst (acc ++ [y]))) else Nx H3) := by
  refine x_lcT (K := K) (a := a) (xs := xs) (fun D k G => Same H G ∧ ∃ us, G D = some (.lst us) ∧ AllAt (S G) us ((as.take k).map f)) hS ?_ ?_ ?_ ?_
  · intro D hD
    exact ⟨same_upd hD, [], upd_same, .nil⟩
  · rintro D hD j G _ ⟨k, _⟩
    exact Same.sqT k hS
  · rintro D hD k v G hv ⟨kG, us, eD, hu⟩
    obtain ⟨x, hx, r⟩ := ha.atv hv
    exact lcm_step f stb hz hD hs kG eD hu hx (hm kG r)
  · rintro D hD G ⟨kG, us, eD, hu⟩
    rw [ha.1, List.take_length] at hu
    exact hd D G us hD kG eD hu
theorem x_lcML (f : α → β) (hS : SqL K H a xs) (hS' : ∀ G, Same H G → SqL K G a xs) (ha : AllAt (R H) xs as) (hm : ∀ {H H' : Hp} {v : V} {x : α}, Same H H' → R H v x → R H' v x) (stb : Stb2 K S) (hz : as.length < 90000)
    (hs : ∀ (G : Hp) v x, Same H G → x ∈ as → R G v x → ∀ (Q' : VK) (P' : Hp → Prop), (∀ G' y, Same G G' → S G' y (f x) → Q' y G') → g v (wipe σ vs) G fun σ2 H2 => wipe σ2 vs = wipe σ vs ∧ tt σ2 H2 fun b H3 => if b = true then te σ2 H3 Q' else P' H3)
    (hd : ∀ D (G : Hp) us, H D = none → Same H G → G D = some (.lst us) → AllAt (S G) us (as.map f) → Qd D G) :
    ∃ b, V.ref a = .ref b ∧ (∃ xs, SqL K H b xs) ∧ ∀ D, H D = none → ∃ W : Nat → Nat → Hp → Prop, (∃ m, W 0 m (upd H D (.lst []))) ∧ ∀ i m H, W i m H →
      ((Itl K b).stop i H ∧ Qd D H) ∨ ((Itl K b).go i H ∧ ∃ Nx : Hp → Prop, (∀ H', Nx H' → ∃ m', m' < m ∧ W (i + 1) m' H') ∧ ∀ x H', (Itl K b).yld i H x H' → g x (wipe σ vs) H' fun σ2 H2 => wipe σ2 vs = wipe σ vs ∧ tt σ2 H2 fun b H3 =>
        if b = true then te σ2 H3 fun y H4 => ∃ acc, H4 D = some (.lst acc) ∧ acc.length < sizeLine ∧ Nx (upd H4 D (.lst (acc ++ [y]))) else Nx H3) := by
  refine x_lcL (K := K) (a := a) (xs := xs) (fun D k G => Same H G ∧ ∃ us, G D = some (.lst us) ∧ AllAt (S G) us ((as.take k).map f)) hS ?_ ?_ ?_ ?_
  · intro D hD
    exact ⟨same_upd hD, [], upd_same, .nil⟩
  · rintro D hD j G _ ⟨k, _⟩
    exact hS' G k
  · rintro D hD k v G hv ⟨kG, us, eD, hu⟩
    obtain ⟨x, hx, r⟩ := ha.atv hv
    exact lcm_step f stb hz hD hs kG eD hu hx (hm kG r)
  · rintro D hD G ⟨kG, us, eD, hu⟩
    rw [ha.1, List.take_length] at hu
    exact hd D G us hD kG eD hu
end
end Gs
namespace SrtK
open PySem PySem.SeqAt PyProof.Rows Srt SrtO Gs
open MeetsSeq MeetsSeq2 MeetsSeq3 SeqRoads2
/-! ### trees of numbers, texts and tuples, in order -/
mutual
def tvD : Tv → PyData
  | .i n => .int n
  | .s z => .str z
  | .t ts => .tuple (tvDL ts)
def tvDL : List Tv → List PyData
  | [] => []
  | t :: r => tvD t :: tvDL r
end
/-! ### a < b of tuples: the first items that differ decide; those behind them need not be alike -/
end SrtK
namespace SrtK
open PySem PySem.SeqAt PyProof.Rows Srt SrtO Gs
end SrtK
namespace SrtK
open PySem PySem.SeqAt PyProof.Rows Srt SrtO Gs
theorem tvDL_len : ∀ ts : List Tv, (tvDL ts).length = ts.length
  | [] => rfl
  | _ :: r => by rw [tvDL, List.length_cons, List.length_cons, tvDL_len r]
end SrtK
namespace Gs
open PySem PySem.SeqAt PyProof.Rows Srt SrtO SrtK L2
theorem TvAt.mono {K : PySem.W.Frag} {H H' : Hp} (h : ∀ a xs, SqT K H a xs → SqT K H' a xs) : ∀ {k : Nat} {x : V} {u : Tv}, TvAt K H k x u → TvAt K H' k x u
  | 0, _, _, z => z
  | _ + 1, _, .i _, z => z
  | _ + 1, _, .s _, z => z
  | _ + 1, _, .t _, ⟨a, vs, e, s, z, l, f⟩ => ⟨a, vs, e, h _ _ s, z, l, fun i y u h1 h2 => (f i y u h1 h2).mono h⟩
theorem tvDL_map : ∀ ts : List Tv, tvDL ts = ts.map tvD
  | [] => rfl
  | t :: r => by rw [tvDL, List.map_cons, tvDL_map r]
theorem depthAll_tv {k : Nat} : ∀ {ts : List Tv}, (∀ t ∈ ts, (tvD t).depth ≤ k) → PyData.depthAll (tvDL ts) ≤ k
  | [], _ => by simp [tvDL, PyData.depthAll]
  | t :: r, h => by
    have h1 := h t (List.mem_cons_self ..)
    have h2 := depthAll_tv fun t' m => h t' (List.mem_cons_of_mem _ m)
    simp only [tvDL, PyData.depthAll]
    omega
theorem TvAt.data {K : PySem.W.Frag} {H : Hp} : ∀ {k : Nat} {v : V} {t : Tv}, TvAt K H k v t → Dp K H v (tvD t) ∧ (tvD t).depth ≤ k
  | 0, _, _, h => h.elim
  | _ + 1, _, .i n, h => by
    obtain rfl : _ = V.int n := h
    exact ⟨.int n, by simp [tvD, PyData.depth]⟩
  | _ + 1, _, .s z, h => by
    obtain rfl : _ = V.str z := h
    exact ⟨.str z, by simp [tvD, PyData.depth]⟩
  | k + 1, _, .t ts, ⟨a, vs, e, s, _, l, f⟩ => by
    subst e
    have hc : ∀ (i : Nat) (t : Tv), ts[i]? = some t → ∃ v, vs[i]? = some v ∧ Dp K H v (tvD t) ∧ (tvD t).depth ≤ k := fun i t ht => by
      have hi := (List.getElem?_eq_some_iff.mp ht).1
      have hv : vs[i]? = some (vs[i]'(by omega)) := List.getElem?_eq_getElem _
      exact ⟨_, hv, (f i _ t hv ht).data⟩
    refine ⟨.tup s (dpAll_of (by rw [tvDL_len, l]) fun i v d h1 h2 => ?_), ?_⟩
    · rw [tvDL_map, List.getElem?_map] at h2
      cases ht : ts[i]? with
      | none =>
        rw [ht] at h2
        cases h2
      | some t =>
        rw [ht] at h2
        cases h2
        obtain ⟨v', e1, e2, _⟩ := hc i t ht
        rw [h1] at e1
        cases e1
        exact e2
    · have := depthAll_tv (k := k) (ts := ts) fun t ht => by
        obtain ⟨i, hi, rfl⟩ := List.getElem_of_mem ht
        obtain ⟨_, _, _, e3⟩ := hc i _ (List.getElem?_eq_getElem hi)
        exact e3
      rw [tvD]
      simp only [PyData.depth]
      omega
end Gs
namespace Gs
open PySem PySem.SeqAt PyProof.Rows L2 SrtK
/-! ### max(xs, key=f), f an own def that tells pairs of ints: one of the things -/
def twoI (a b : Int) : Tv := .t [.i a, .i b]
end Gs
namespace Gs
open PySem PySem.Spec PyProof.Rows L2 TL
/-! ### the texts of patterns, as lists of codes -/
def figT : Pt → List Nat
  | .i n => if n < 0 then 126 :: numL (0 - n).toNat else numL n.toNat
  | .s z => tl z
  | .t _ _ => []
/-- the row of a name with so many parts -/
def isRow (nm : Str) (many : Nat) (o : Op) : Bool := decide (o.n = nm ∧ many = if o.s = ("ahead" : Str) then 1 else 2)
def rowOf (R : List Op) (nm : Str) (many : Nat) : Option Op := R.find? (isRow nm many)
/-- operators of one level between stand on one side -/
def SideOk (R : List Op) : Prop := ∀ o ∈ R, ∀ e ∈ R, o.s ≠ ("ahead" : Str) → e.s ≠ ("ahead" : Str) → o.l = e.l → o.s = e.s
def par (b : Bool) (l : List Nat) : List Nat := if b = true then 40 :: (l ++ [41]) else l
mutual
/-- a pattern's text where operators to this level stand without brackets -/
def formT (R : List Op) : Int → Pt → List Nat
  | _, .i n => figT (.i n)
  | _, .s z => figT (.s z)
  | top, .t nm ps => match rowOf R nm ps.length with
    | none => tl nm ++ 40 :: (joinL [44, 32] (formL R ps) ++ [41])
    | some o => match ps with
      | [x] => par (decide (o.l > top)) (tl nm ++ 32 :: formT R (o.l - 1) x)
      | [x, y] => par (decide (o.l > top)) (formT R (if o.s = ("left" : Str) then o.l else o.l - 1) x ++ 32 :: (tl nm ++ 32 :: formT R (if o.s = ("right" : Str) then o.l else o.l - 1) y))
      | _ => []
def formL (R : List Op) : List Pt → List (List Nat)
  | [] => []
  | x :: r => formT R 9 x :: formL R r
end
theorem formL_map (R : List Op) : ∀ ps : List Pt, formL R ps = ps.map (formT R 9)
  | [] => rfl
  | x :: r => by rw [formL, List.map_cons, formL_map R r]
theorem rowOf_some {R : List Op} {nm : Str} {many : Nat} {o : Op} (h : rowOf R nm many = some o) : o ∈ R ∧ o.n = nm ∧ many = if o.s = ("ahead" : Str) then 1 else 2 := by
  have h' : R.find? (isRow nm many) = some o := h
  have h2 := List.find?_some h'
  unfold isRow at h2
  exact ⟨List.mem_of_find?_eq_some h', (of_decide_eq_true h2).1, (of_decide_eq_true h2).2⟩
theorem formT_none {R : List Op} {nm : Str} {ps : List Pt} (h : rowOf R nm ps.length = none) (top : Int) : formT R top (.t nm ps) = tl nm ++ 40 :: (joinL [44, 32] (ps.map (formT R 9)) ++ [41]) := by
  rw [formT]
  simp only [h, formL_map]
theorem formT_one {R : List Op} {nm : Str} {x : Pt} {o : Op} (h : rowOf R nm 1 = some o) (top : Int) : formT R top (.t nm [x]) = par (decide (o.l > top)) (tl nm ++ 32 :: formT R (o.l - 1) x) := by
  have h' : rowOf R nm [x].length = some o := h
  rw [formT]
  simp only [h']
theorem formT_two {R : List Op} {nm : Str} {x y : Pt} {o : Op} (h : rowOf R nm 2 = some o) (top : Int) : formT R top (.t nm [x, y]) = par (decide (o.l > top)) (formT R (if o.s = ("left" : Str) then o.l else o.l - 1) x ++ 32 :: (tl nm ++ 32 :: formT R (if o.s = ("right" : Str) then o.l else o.l - 1) y)) := by
  have h' : rowOf R nm [x, y].length = some o := h
  rw [formT]
  simp only [h']
/-! how long a text may be -/
def Short (n : Nat) (l : List Nat) : Prop := l.length ≤ n
theorem par_len {b : Bool} {l : List Nat} : (par b l).length ≤ l.length + 2 := by
  unfold par
  split
  · simp
  · omega
theorem joinL_len (sep : List Nat) : ∀ xs : List (List Nat), (joinL sep xs).length ≤ (xs.map List.length).sum + sep.length * xs.length
  | [] => by simp [joinL]
  | [p] => by simp [joinL]
  | p :: q :: r => by
    have h := joinL_len sep (q :: r)
    rw [joinL, List.length_append, List.length_append, List.map_cons, List.sum_cons, List.length_cons, Nat.mul_succ]
    omega
theorem figT_len {p : Pt} (h : okT (fun z => z.length ≤ 12) (fun z => z.length ≤ 12) p) : (figT p).length ≤ 61 := by
  match p with
  | .i n =>
    rw [okT] at h
    rw [figT]
    split
    · have := numL_len (k := 60) (n := (0 - n).toNat) (by decide) (by omega)
      rw [List.length_cons]
      omega
    · have := numL_len (k := 60) (n := n.toNat) (by decide) (by omega)
      omega
  | .s z =>
    rw [okT] at h
    rw [figT, tl_lenP]
    omega
  | .t _ _ => simp [figT]
mutual
theorem formT_len {R : List Op} : ∀ (top : Int) (p : Pt), okT (fun z => z.length ≤ 12) (fun z => z.length ≤ 12) p → (formT R top p).length ≤ 80 * szT p
  | _, .i n, h => by
    rw [formT, szT]
    have := figT_len h
    omega
  | _, .s z, h => by
    rw [formT, szT]
    have := figT_len h
    omega
  | top, .t nm ps, h => by
    rw [okT] at h
    obtain ⟨hn, h0, h4, hl⟩ := h
    have hn' : (tl nm).length ≤ 12 := by rw [tl_lenP]; exact hn
    rw [szT]
    cases e : rowOf R nm ps.length with
    | none =>
      rw [formT_none e]
      have h1 := formL_len (R := R) ps hl
      have h2 := joinL_len [44, 32] (ps.map (formT R 9))
      rw [List.length_map] at h2
      rw [← formL_map] at h2
      rw [← formL_map, List.length_append, List.length_cons, List.length_append, List.length_singleton]
      have h3 : ([44, 32] : List Nat).length = 2 := rfl
      rw [h3] at h2
      omega
    | some o =>
      obtain ⟨_, _, hm⟩ := rowOf_some e
      match ps, e, hm, hl with
      | [], _, hm, _ => exact absurd hm (by split <;> simp)
      | [x], e, _, hl =>
        rw [okL] at hl
        rw [formT_one e]
        have := formT_len (R := R) (o.l - 1) x hl.1
        refine Nat.le_trans par_len ?_
        rw [List.length_append, List.length_cons, szL, szL]
        omega
      | [x, y], e, _, hl =>
        rw [okL, okL] at hl
        rw [formT_two e]
        have h1 := formT_len (R := R) (if o.s = ("left" : Str) then o.l else o.l - 1) x hl.1
        have h2 := formT_len (R := R) (if o.s = ("right" : Str) then o.l else o.l - 1) y hl.2.1
        refine Nat.le_trans par_len ?_
        rw [List.length_append, List.length_cons, List.length_append, List.length_cons, szL, szL, szL]
        omega
      | _ :: _ :: _ :: _, _, hm, _ => exact absurd hm (by split <;> simp)
theorem formL_len {R : List Op} : ∀ ps : List Pt, okL (fun z => z.length ≤ 12) (fun z => z.length ≤ 12) ps → ((formL R ps).map List.length).sum ≤ 80 * szL ps
  | [], _ => by simp [formL]
  | x :: r, h => by
    rw [okL] at h
    have h1 := formT_len (R := R) 9 x h.1
    have h2 := formL_len (R := R) r h.2
    rw [formL, List.map_cons, List.sum_cons, szL]
    omega
end
/-! the plain text tells the pattern -/
theorem szL_mem20 : ∀ {ps : List Pt} {u : Pt}, u ∈ ps → szT u ≤ szL ps
  | [], _, h => by cases h
  | x :: r, u, h => by
    rw [szL]
    rcases List.mem_cons.mp h with rfl | h
    · omega
    · have := szL_mem20 h
      omega
theorem strs_of : ∀ {us : List V} {ls : List (List Nat)}, AllAt (fun v (l : List Nat) => ∃ z : Str, v = .str z ∧ tl z = l) us ls → ∃ zs : List Str, us = zs.map V.str ∧ zs.map tl = ls
  | [], [], _ => ⟨[], rfl, rfl⟩
  | [], _ :: _, h => by
    have := h.1
    simp at this
  | _ :: _, [], h => by
    have := h.1
    simp at this
  | v :: us, l :: ls, h => by
    obtain ⟨z, rfl, ez⟩ := h.2 0 v l rfl rfl
    obtain ⟨zs, rfl, e⟩ := strs_of (us := us) (ls := ls) ⟨by have := h.1; simpa using this, fun i v a h1 h2 => h.2 (i + 1) v a h1 h2⟩
    exact ⟨z :: zs, rfl, by rw [List.map_cons, ez, e]⟩
theorem len_sum : ∀ zs : List Str, ((zs.map tl).map List.length).sum = (zs.map (·.length)).sum
  | [] => rfl
  | z :: r => by
    rw [List.map_cons, List.map_cons, List.sum_cons, List.map_cons, List.sum_cons, len_sum r, tl_lenP]
end Gs
namespace Gs
open PySem PySem.Spec PyProof.Rows L2
/-! ### lists of things as data -/
end Gs
namespace Gs
open PySem PySem.Spec PyProof.Rows L2 TL
/-! ### how a pattern may be spelt in pieces, by a table of operators; what a reading by levels needs -/
def lbO (o : Op) : Int := if o.s = ("left" : Str) then o.l else o.l - 1
def rbO (o : Op) : Int := if o.s = ("right" : Str) then o.l else o.l - 1
/-- a word that stands for itself: not kept, no operator -/
def Wd (R : List Op) (z : Str) : Prop := (∃ c t, tl z = c :: t ∧ c ∈ sS) ∧ z ∉ keptL ∧ rowOf R z 1 = none ∧ rowOf R z 2 = none ∧ z.length ≤ 12
def Unk (R : List Op) (z : Str) : Prop := (∃ c t, tl z = c :: t ∧ c ∈ sC) ∧ rowOf R z 1 = none ∧ z.length ≤ 12
def Num (R : List Op) (n : Int) (z : Str) : Prop := tl z = figT (.i n) ∧ n.natAbs < 10 ^ 60 ∧ rowOf R z 1 = none
mutual
/-- one part, no operator between at its top; d: how deep the reading goes, lev: its level -/
inductive Prim (R : List Op) : Nat → Int → Pt → List Str → Prop
  | num {d : Nat} {n : Int} {z : Str} : Num R n z → Prim R (d + 1) 0 (.i n) [z]
  | unk {d : Nat} {z : Str} : Unk R z → Prim R (d + 1) 0 (.s z) [z]
  | word {d : Nat} {z : Str} : Wd R z → Prim R (d + 1) 0 (.s z) [z]
  | comp {d : Nat} {nm : Str} {ps : List Pt} {ts : List Str} : Wd R nm → 0 < ps.length → ps.length ≤ 4 → SptL R d ps ts → Prim R (d + 1) 0 (.t nm ps) (nm :: ("(" : Str) :: ts)
  | ahead {d : Nat} {nm : Str} {o : Op} {lev : Int} {x : Pt} {ts : List Str} : rowOf R nm 1 = some o → Spt R d lev x ts → lev ≤ o.l - 1 → Prim R (d + 1) o.l (.t nm [x]) (nm :: ts)
  | paren {d : Nat} {lev : Int} {p : Pt} {ts : List Str} : Spt R d lev p ts → lev ≤ 9 → Prim R (d + 1) 0 p (("(" : Str) :: (ts ++ [(")" : Str)]))
/-- a part and what operators between join to it -/
inductive Spt (R : List Op) : Nat → Int → Pt → List Str → Prop
  | mk {d : Nat} {la lev : Int} {a p : Pt} {ta ts : List Str} : Prim R (d + 1) la a ta → Stp R d la a lev p ts → Spt R (d + 1) lev p (ta ++ ts)
/-- steps by operators between, from a to p -/
inductive Stp (R : List Op) : Nat → Int → Pt → Int → Pt → List Str → Prop
  | nil {d : Nat} {lev : Int} {p : Pt} : Stp R d lev p lev p []
  | cons {d : Nat} {nm : Str} {o : Op} {la le lev : Int} {a b p : Pt} {tb ts : List Str} : rowOf R nm 2 = some o → la ≤ lbO o → Spt R d le b tb → le ≤ rbO o → Stp R d o.l (.t nm [a, b]) lev p ts → Stp R d la a lev p (nm :: (tb ++ ts))
/-- parts in brackets, to the closing one -/
inductive SptL (R : List Op) : Nat → List Pt → List Str → Prop
  | one {d : Nat} {lev : Int} {p : Pt} {ts : List Str} : Spt R d lev p ts → lev ≤ 9 → SptL R d [p] (ts ++ [(")" : Str)])
  | cons {d : Nat} {lev : Int} {p : Pt} {ps : List Pt} {ts us : List Str} : Spt R d lev p ts → lev ≤ 9 → SptL R d ps us → SptL R d (p :: ps) (ts ++ ("," : Str) :: us)
end
/-- what may stand behind -/
def Fo (R : List Op) (most : Int) (rest : List Str) : Prop := rest.head? ≠ some ("(" : Str) ∧ ∀ nm o, rest.head? = some nm → rowOf R nm 2 = some o → most < o.l
theorem Fo.less {R : List Op} {m m' : Int} {r : List Str} (h : Fo R m r) (hm : m' ≤ m) : Fo R m' r := ⟨h.1, fun nm o h1 h2 => by have := h.2 nm o h1 h2; omega⟩
theorem rbO_le (o : Op) : rbO o ≤ o.l := by unfold rbO; split <;> omega
theorem lbO_le (o : Op) : lbO o ≤ o.l := by unfold lbO; split <;> omega
theorem row2_side {R : List Op} {nm : Str} {o : Op} (h : rowOf R nm 2 = some o) : o ∈ R ∧ o.s ≠ ("ahead" : Str) := by
  obtain ⟨h1, _, h3⟩ := rowOf_some h
  refine ⟨h1, fun z => ?_⟩
  rw [if_pos z] at h3
  omega
/-- the levels go up -/
theorem Stp.up {R : List Op} : ∀ {d : Nat} {la lev : Int} {a p : Pt} {ts : List Str}, Stp R d la a lev p ts → la ≤ lev
  | _, _, _, _, _, _, .nil => by omega
  | _, _, _, _, _, _, .cons (o := o) _ h2 _ _ h5 => by
    have := Stp.up h5
    have := lbO_le o
    omega
/-- what stands behind a step's right part, if the next step is one of an operator -/
theorem fo_step {R : List Op} (sd : SideOk R) {o : Op} {nm : Str} {d : Nat} {lev : Int} {a p : Pt} {ts rest : List Str} (ho : rowOf R nm 2 = some o) (h : Stp R d o.l a lev p ts) (f : Fo R lev rest) (br : ∀ nm o, rowOf R nm 2 = some o → nm ≠ ("(" : Str)) : Fo R (rbO o) (ts ++ rest) := by
  cases h with
  | nil => exact f.less (rbO_le o)
  | @cons _ nm' o' _ _ _ _ _ _ tb ts' h1 h2 h3 h4 h5 =>
    refine ⟨fun z => br nm' o' h1 (Option.some.inj z), fun nm2 o2 e1 e2 => ?_⟩
    have e3 : nm' = nm2 := Option.some.inj e1
    subst e3
    rw [h1] at e2
    cases e2
    have l1 := rbO_le o
    have l2 := lbO_le o'
    have s1 := row2_side ho
    have s2 := row2_side h1
    rcases Int.lt_or_le (rbO o) o'.l with hlt | hge
    · exact hlt
    · exfalso
      have e4 : o.l = o'.l := by omega
      have e5 := sd o s1.1 o' s2.1 s1.2 s2.2 e4
      have e6 : rbO o = o.l := by omega
      have e7 : lbO o' = o'.l := by omega
      unfold rbO at e6
      unfold lbO at e7
      by_cases c1 : o.s = ("right" : Str)
      · rw [← e5, c1, if_neg (by decide +kernel)] at e7
        omega
      · rw [if_neg c1] at e6
        omega
theorem fo_prim {R : List Op} {d : Nat} {la lev : Int} {a p : Pt} {ts rest : List Str} (h : Stp R d la a lev p ts) (f : Fo R lev rest) (br : ∀ nm o, rowOf R nm 2 = some o → nm ≠ ("(" : Str)) : Fo R (la - 1) (ts ++ rest) := by
  cases h with
  | nil => exact f.less (by omega)
  | @cons _ nm' o' _ _ _ _ _ _ tb ts' h1 h2 h3 h4 h5 =>
    refine ⟨fun z => br nm' o' h1 (Option.some.inj z), fun nm2 o2 e1 e2 => ?_⟩
    have e3 : nm' = nm2 := Option.some.inj e1
    subst e3
    rw [h1] at e2
    cases e2
    have l2 := lbO_le o'
    omega
/-! the pieces of a pattern's text -/
def figS (n : Int) : Str := if n < 0 then ("~" : Str) ++ toString (0 - n) else Str.ofString (toString n)
def parS (b : Bool) (l : List Str) : List Str := if b = true then ("(" : Str) :: (l ++ [(")" : Str)]) else l
def commas : List (List Str) → List Str
  | [] => [(")" : Str)]
  | [t] => t ++ [(")" : Str)]
  | t :: u :: r => t ++ ("," : Str) :: commas (u :: r)
mutual
def tokT (R : List Op) : Int → Pt → List Str
  | _, .i n => [figS n]
  | _, .s z => [z]
  | top, .t nm ps => match rowOf R nm ps.length with
    | none => nm :: ("(" : Str) :: commas (tokL R ps)
    | some o => match ps with
      | [x] => parS (decide (o.l > top)) (nm :: tokT R (o.l - 1) x)
      | [x, y] => parS (decide (o.l > top)) (tokT R (lbO o) x ++ nm :: tokT R (rbO o) y)
      | _ => []
def tokL (R : List Op) : List Pt → List (List Str)
  | [] => []
  | x :: r => tokT R 9 x :: tokL R r
end
mutual
/-- what the pieces of a pattern are to be, to be read again -/
def rdT (R : List Op) : Pt → Prop
  | .i n => n.natAbs < 10 ^ 60 ∧ rowOf R (figS n) 1 = none
  | .s z => Unk R z ∨ Wd R z
  | .t nm ps => 0 < ps.length ∧ ps.length ≤ 4 ∧ (rowOf R nm ps.length = none → Wd R nm) ∧ rdL R ps
def rdL (R : List Op) : List Pt → Prop
  | [] => True
  | x :: r => rdT R x ∧ rdL R r
end
end Gs
namespace Gs
open PySem PySem.Spec PyProof.Rows L2 TL
/-! ### len(set(texts)), however many -/
theorem onS_any (l : List Str) (x k : Str) : (once (l ++ [x])).any (· == k) = ((once l).any (· == k) || decide (k = x)) := by
  rw [once_more]
  have hx : ∀ b : Bool, (b || decide (k = x)) = (b || (x == k)) := fun b => by
    by_cases e : k = x
    · subst e
      simp
    · have : (x == k) = false := by simpa [beq_iff_eq] using fun g : x = k => e g.symm
      rw [this, decide_eq_false e]
  rw [hx]
  by_cases h : x ∈ once l
  · rw [if_pos h]
    by_cases e : (x == k) = true
    · rw [e, Bool.or_true]
      exact List.any_eq_true.mpr ⟨x, h, e⟩
    · rw [Bool.eq_false_iff.mpr e, Bool.or_false]
  · rw [if_neg h, List.any_append, List.any_cons, List.any_nil, Bool.or_false]
theorem onS_len (l : List Str) (x : Str) : (once (l ++ [x])).length = if (once l).any (· == x) = true then (once l).length else (once l).length + 1 := by
  rw [once_more]
  by_cases h : x ∈ once l
  · have g : (once l).any (· == x) = true := List.any_eq_true.mpr ⟨x, h, beq_self_eq_true x⟩
    rw [if_pos h, if_pos g]
  · rw [if_neg h, if_neg (fun g => by
      obtain ⟨y, hy, e⟩ := List.any_eq_true.mp g
      rw [beq_iff_eq.mp e] at hy
      exact h hy), List.length_append, List.length_singleton]
theorem onS_le : ∀ l : List Str, ∀ i, (once (l.take i)).length ≤ i
  | l, 0 => by rw [List.take_zero]; exact Nat.le_refl _
  | l, i + 1 => by
    have ih := onS_le l i
    cases e : l[i]? with
    | none =>
      have h : l.length ≤ i := List.getElem?_eq_none_iff.mp e
      rw [List.take_of_length_le (by omega)]
      rw [List.take_of_length_le h] at ih
      omega
    | some x =>
      rw [List.take_add_one, e]
      show (once (l.take i ++ [x])).length ≤ i + 1
      rw [onS_len]
      split <;> omega
abbrev OnS (l : List Str) : Str → Bool := fun k => (once l).any (· == k)
section
variable {pg : Program} {wd : World} {Ar : Around} {Rt : Result → Shared → Prop} {It : Addr} {fpr wrt : List Addr} {Gq : Array GenState → Array GenState → Prop} {nn : Nat} {Pq : Nat → Value → Prop} {Sq : Nat → Shared → Prop}
theorem set_turns (wk : WalksS pg wd Ar.in1 It fpr wrt Gq nn Pq Sq) (St : Addr) (far : St ∉ fpr) (ts : List Str) (hts : ts.length = nn) (room : nn + 1 < scanBound)
    (hv : ∀ j u, Pq j u → ∃ t, u = .str (ts.getD j Str.empty) t) :
    ∀ (left j : Nat) (sh : Shared), nn - j = left → j ≤ nn → Sq j sh → sh.heap.SetOf (PySem.strKind pg wd) St (OnS (ts.take j)) (once (ts.take j)).length →
      (∀ sh', Moved (St :: wrt) Gq sh sh' → sh'.heap.SetOf (PySem.strKind pg wd) St (OnS (ts.take nn)) (once (ts.take nn)).length → Rt (.ok (.ret .none)) sh') →
      codeAny (model pg wd) Ar (.builtin "set.update.loop" ⟨[.ref St, .ref It], []⟩) Rt sh := by
  have far2 : St ∉ wrt := fun g => far (wk.sub _ g)
  have more : ∀ c ∈ wrt, c ∈ St :: wrt := fun c g => List.mem_cons_of_mem _ g
  intro left
  induction left with
  | zero =>
    intro j sh e1 e2 e3 hold fin
    obtain rfl : j = nn := by omega
    apply codeAny_builtin PyProof.Rows.F.entry_set_update_loop; rw [Around.under_plainId PyProof.Rows.F.plain_set_update_loop _]
    show wpAny _ Ar.in1 (pyNext (.ref It) >>= _) _ _ sh
    refine wpAny_bind (wk.done sh _ _ e3 fun sh2 mv => ?_)
    show wpAny _ Ar.in1 (ret Value.none) _ _ sh2
    refine wpAny_pure (fin sh2 (mv.mono more) ?_)
    obtain ⟨ob, ents, ep, tb, at0, rest⟩ := hold
    exact ⟨ob, ents, ep, tb, mv.heap St _ far2 at0, rest⟩
  | succ left ih =>
    intro j sh e1 e2 e3 hold fin
    have lt : j < nn := by omega
    apply codeAny_builtin PyProof.Rows.F.entry_set_update_loop; rw [Around.under_plainId PyProof.Rows.F.plain_set_update_loop _]
    show wpAny _ Ar.in1 (pyNext (.ref It) >>= _) _ _ sh
    refine wpAny_bind (wk.item j sh _ _ lt e3 fun u sh2 pu e4 mv => ?_)
    obtain ⟨t, rfl⟩ := hv j u pu
    have hold2 : sh2.heap.SetOf (PySem.strKind pg wd) St (OnS (ts.take j)) (once (ts.take j)).length := by
      obtain ⟨ob, ents, ep, tb, at0, rest⟩ := hold
      exact ⟨ob, ents, ep, tb, mv.heap St _ far2 at0, rest⟩
    show wpAny _ Ar.in1 (holding [Value.str (ts.getD j Str.empty) t] (setAdd St (.str (ts.getD j Str.empty) t)) >>= _) _ _ sh2
    apply wpAny_bind; apply wpAny_holding; unfold setAdd; apply wpAny_holding
    refine wpAny_bind ((PySem.strKind pg wd).pyHash (k := ts.getD j Str.empty) (strKind_is _ _ _ _) ?_)
    have small := onS_le ts j
    refine wpAny_setAddHashed_of (knd := PySem.strKind pg wd) (s := { sh2 with toks := sh2.toks + 1 }) (strKind_is _ _ _ _) rfl hold2 (by omega) fun hp2 but now => ?_
    have ej : ts.take (j + 1) = ts.take j ++ [ts.getD j Str.empty] := by
      have : ts[j]? = some ts[j] := List.getElem?_eq_getElem (by omega)
      rw [List.take_add_one, List.getD_eq_getElem?_getD, this]
      rfl
    have hold3 : hp2.SetOf (PySem.strKind pg wd) St (OnS (ts.take (j + 1))) (once (ts.take (j + 1))).length := by
      rw [ej]
      exact SetOf_congr now (fun k => (onS_any _ _ k).symm) (onS_len _ _).symm
    refine wpAny_pure ⟨plainId_quiet PyProof.Rows.F.plain_set_update_loop _, ih (j + 1) _ (by omega) lt (wk.frame _ sh2 _ _ e4 (Nat.le_succ _) fun c hc o e => ?_) hold3 fun sh3 mv3 h3 => ?_⟩
    · rw [but.2 c (fun g : c = St => far (by rw [← g]; exact hc))]
      exact e
    · refine fin sh3 (Moved.trans wk.gtrans ((mv.mono more).then_heap (Nat.le_succ _) fun c o hc e => ?_) mv3) h3
      rw [but.2 c (fun g : c = St => hc (by rw [g]; exact List.mem_cons_self))]
      exact e
end
section
variable {pg : Program} {wd : World} {Ar : Around} {Er : Value → Shared → Prop} {sh : Shared}
def fresh0 (led : Bool) : Obj := { cls := .type "set", dict := none, data := .set #[] 0 (.fresh 0 0 led) }
set_option maxHeartbeats 4000000 in
theorem set_of_texts {src : Addr} {vals : Array Value} {ts : List Str} {Qt : Value → Shared → Prop} (calm : Ar.handled = none) (isl : sh.heap.IsList src vals) (are : PyProof.Rows.StrsAre vals.toList ts) (room : vals.size + 1 < scanBound)
    (fin : ∀ (hp : Heap) (tk : Nat), hp.SetOf (PySem.strKind pg wd) sh.heap.objs.size (OnS (ts.take vals.size)) (once (ts.take vals.size)).length → (∀ c o, c < sh.heap.objs.size → sh.heap.get? c = some o → hp.get? c = some o) → Qt (.ref sh.heap.objs.size) { sh with heap := hp, toks := tk }) :
    wpAny (model pg wd) Ar (call (.type "set") [.ref src]) Qt Er sh := by
  obtain ⟨k0, k1, mro0⟩ := PySem.F.called_set.mro
  have made0 := PySem.F.called_set.made
  have sub0 := PySem.F.called_set.sub
  apply wpAny_call; apply codeAny_of_tree
  show wpAny _ _ (callAny (.type "set") _) _ _ _
  refine wpAny_pure ⟨Code.quiet_builtin _ (by decide +kernel), codeAny_builtin (PySem.F.entry_type_call) ?_⟩
  rw [Around.under_plain (PySem.weight_type_call_type "set" [.ref src] []) rfl]
  have nt0 := PySem.F.called_set.notType
  have cc0 := PySem.F.called_set.canCreate
  have tc0 := PySem.F.typeCall_set_1 (.ref src)
  repeat any_goals first | assumption | wp_step
  refine codeAny_mono (PySem.code_set_new_1 (.ref src) (E := Er) (Q₁ := fun ob sh1 => ∃ led : Bool, ob = .ref sh.heap.objs.size ∧ sh1 = { sh with heap := sh.heap.push (fresh0 led) }) fun led => ⟨led, rfl, rfl⟩) fun out sh1 ho => ?_
  cases out with
  | error er => exact ho
  | ok flow =>
    cases flow with
    | ret ob =>
      obtain ⟨led, rfl, rfl⟩ := ho
      have here : (sh.heap.push (fresh0 led)).get? sh.heap.objs.size = some (fresh0 led) := Heap.get?_push_size _ rfl
      have isT : Shared.TypeIs { sh with heap := sh.heap.push (fresh0 led) } (.ref sh.heap.objs.size) "set" := ⟨_, here, rfl⟩
      have lk0 := PySem.F.called_set.init.lookup
      have bd0 := PySem.F.called_set.init.bind (.ref sh.heap.objs.size)
      repeat any_goals first | assumption | wp_step
      refine codeAny_mono (codeAny_call_builtin (R := wants (fun out2 sh2 => out2 = .none ∧ ∃ hp tk, sh2 = { sh with heap := hp, toks := tk } ∧ hp.SetOf (PySem.strKind pg wd) sh.heap.objs.size (OnS (ts.take vals.size)) (once (ts.take vals.size)).length ∧ (∀ c o, c < sh.heap.objs.size → sh.heap.get? c = some o → hp.get? c = some o)) Er) PySem.F.called_set.init.plain PySem.F.entry_set_init (PySem.check_set_init_1 isT ?_)) fun out2 sh2 ho2 => ?_
      · obtain ⟨ol, hol, hcl, nl, hdl⟩ := isl
        obtain ⟨ocls, odict, odata, oslots⟩ := ol
        simp only at hcl hdl
        subst hcl; subst hdl
        have at1 : (sh.heap.push (fresh0 led)).get? src = some { cls := .type "list", dict := odict, data := .seq vals nl, slots := oslots } := Heap.get?_push_of_some _ hol
        have sl0 := PySem.F.sub_list_set
        have sf0 := PySem.F.sub_list_frozenset
        have nd0 : (Value.type "list" == Value.type "dict") = false := by decide
        have isl1 : (sh.heap.push (fresh0 led)).IsList src vals := ⟨_, at1, rfl, nl, rfl⟩
        unfold Builtin.«set.__init__» noKeywords Builtin.Frozenset.updateFrom
        generalize held : pyIter = PI0
        wp_walk
        subst held
        apply wpAny_pyIter_list isl1; apply wpAny_bind; apply wpAny_runValue
        have below : src < sh.heap.objs.size := Heap.lt_size hol
        have calm3 : Ar.in1.in1.in1.handled = none := by simp [calm]
        have neq : src ≠ (sh.heap.push (fresh0 led)).objs.size := by
          rw [Heap.size_push]
          exact Nat.ne_of_lt (Nat.lt_succ_of_lt below)
        have far : sh.heap.objs.size ∉ [(sh.heap.push (fresh0 led)).objs.size, src] := fun g => by
          rcases List.mem_cons.mp g with g | g
          · rw [Heap.size_push] at g
            exact Nat.ne_of_lt (Nat.lt_succ_self _) g
          · exact Nat.ne_of_gt below (List.mem_singleton.mp g)
        have num : ts.length = vals.size := by rw [← StrsAre.len_eq are, Array.length_toList]
        have each : ∀ (j : Nat) (u : Value), vals[j]? = some u → ∃ t, u = .str (ts.getD j Str.empty) t := fun j u hu => SS.strs_at are j u (by rw [Array.getElem?_toList]; exact hu)
        refine set_turns ((Walks.list calm3 _ src neq vals).toS) sh.heap.objs.size far ts num room each (vals.size - 0) 0 _ (by omega) (Nat.zero_le _) ⟨⟨_, Heap.get?_push_size _ rfl, rfl, rfl⟩, (isl1.push _)⟩ ?hZ ?hE
        case hZ =>
          have again : ((sh.heap.push (fresh0 led)).push { cls := .type "list_iterator", data := .fields #[.ref src, .int 0 0] }).get? sh.heap.objs.size = some (fresh0 led) := Heap.get?_push_of_some _ here
          exact PyProof.Rows.SetOf_congr ((PyProof.Rows.setObjOf_fresh (knd := PySem.strKind pg wd) led).setOf again (by unfold scanBound; omega)) (fun _ => rfl) rfl
        case hE =>
          intro sh3 mv hold
          obtain ⟨hp3, gn3, dr3, tk3, os3⟩ := sh3
          have eg : gn3 = sh.gens := mv.gens
          have ed : dr3 = sh.drawn := mv.drawn
          have eo : os3 = sh.os := mv.os
          subst eg; subst ed; subst eo
          show wpAny _ _ _ _ _ _
          apply wpAny_pure
          show wpAny _ _ (ret Value.none) _ _ _
          refine wpAny_pure ⟨rfl, hp3, tk3, rfl, hold, fun c o hc e => ?_⟩
          have c2 : c ≠ (sh.heap.push (fresh0 led)).objs.size := by
            rw [Heap.size_push]
            omega
          refine mv.heap c o ?_ (Heap.get?_push_of_some _ (Heap.get?_push_of_some _ e))
          simp only [List.mem_cons, List.not_mem_nil, or_false, not_or]
          exact ⟨Nat.ne_of_lt hc, c2⟩
      · cases out2 with
        | error er => exact ho2
        | ok flow2 =>
          cases flow2 with
          | ret u =>
            obtain ⟨rfl, hp, tk, rfl, hold, kept⟩ := ho2
            repeat any_goals first | assumption | wp_step
            exact fin _ _ hold kept
          | _ => exact ho2.elim
    | _ => exact ho.elim
end
section
variable {X : Cx} {a : PySem.Expr} {ta : TE} {p p2 q pos : Pos}
def tLenTx (K : PySem.W.Frag) (ta : TE) : TE := fun σ H Q => ta σ H fun x H1 => ∃ (l : Addr) (ts : List Str), x = .ref l ∧ SqL K H1 l (ts.map V.str) ∧ ts.length ≤ 4000 ∧ Q (.int ((once ts).length : Nat)) H1
theorem pe_lenTx (hg : Gl X "len") (hm : X.mg "len" = none) (hg2 : Gl X "set") (hm2 : X.mg "set" = none) (ha : PE X a ta) (hc : X.calm = true := by rfl)
    (na : starEach [a] X.env = (false, eval a X.env) :: starEach [] X.env := by rfl) : PE X (.Call (.Name "len" p) [.Call (.Name "set" p2) [a] [] q] [] pos) (tLenTx X.K ta) := by
  refine ⟨fun pins s σ H Q I h => ?_⟩
  refine Call_ (ld_blt I hg hm boot_len (?_))
  refine PyProof.Rows.callWith_builtin1 (PyProof.Rows.args_cons ?_ (rfl)) rfl (rfl)
  refine Call_ (ld_blt I hg2 hm2 boot_set (?_))
  refine PyProof.Rows.callWith_type1 (PyProof.Rows.args_cons (thn (ha.run pins s σ H _ I h) fun v sa ⟨x, Ha, Ia, ra, qa⟩ => PyProof.Rows.args_nil ?_) na) na rfl
  obtain ⟨l, ts, rfl, hq, hl, qa⟩ := qa
  cases ra
  obtain ⟨its, r, pl, hz⟩ := Ia.list hq
  have num : its.toArray.size = ts.length := by rw [List.size_toArray, ← r.length, List.length_map]
  refine set_of_texts (Ia.ok.hd hc) pl.isList (by simpa using strsAre_of r) (by rw [num]; unfold scanBound; omega) fun hp tk hold kept => ?_
  apply PyProof.Rows.args_nil
  rw [num, List.take_length] at hold
  have few : (once ts).length ≤ ts.length := by
    have := onS_le ts ts.length
    rw [List.take_length] at this
    exact this
  obtain ⟨ob, ents, ep, tb, at0, hex, hd, _, _, _, hf, hn⟩ := hold
  have I2 : Inv X pins σ Ha { sa with heap := hp, toks := tk } := Ia.kept fun c o e => kept c o (Heap.lt_size e) e
  exact call_len_set at0 hex hd hf (by rw [hn] <;> omega) ⟨.int ((once ts).length : Nat), Ha, I2.tok _, ⟨_, by rw [hn]⟩, qa⟩
theorem x_lenTx {K : PySem.W.Frag} {σ : L2.St} {H : Hp} {Q : VK} (q : ta σ H fun x H1 => ∃ (l : Addr) (ts : List Str), x = .ref l ∧ SqL K H1 l (ts.map V.str) ∧ ts.length ≤ 4000 ∧ Q (.int ((once ts).length : Nat)) H1) : tLenTx K ta σ H Q := q
end
end Gs
open PySem PySem.Spec PyProof.Rows L2 Gs TL
local macro_rules | `(tactic| walk_at "ne") => `(tactic| first | assumption | exact Ne.symm (by assumption) | exact ne_of_none (by assumption) (by assumption) | exact (ne_of_none (by assumption) (by assumption)).symm | exact ne_of_none upd_same (by assumption) | exact (ne_of_none upd_same (by assumption)).symm | (apply ne_of_nn; (next => assumption); (next => walk_at "hn")) | (apply Ne.symm; apply ne_of_nn; (next => assumption); (next => walk_at "hn")))
local macro_rules | `(tactic| walk_at "hx") => `(tactic| first | assumption | exact upd_same | (apply Eq.trans (upd_ne (by walk_at "ne")); walk_at "hx"))
local macro_rules | `(tactic| walk_at "sq") => `(tactic| first | assumption | (apply SqL.of; walk_at "hx") | (apply SqT.of; walk_at "hx") | (with_reducible apply sqT_new; (next => assumption); walk_at "sq") | (with_reducible apply sqL_new; (next => assumption); walk_at "sq"))
local macro_rules | `(tactic| walk_at "sx") => `(tactic| repeat (first
  | ((with_reducible apply x_var); (next => first | rfl | exact rfl)) | with_reducible refine x_c ?_ | with_reducible refine x_op ?_ | with_reducible refine x_un ?_ | with_reducible refine x_i0 ?_ | with_reducible refine x_u ?_
  | with_reducible refine x_nil ?_ | with_reducible refine x_cons ?_ | with_reducible refine x_call ?_ | with_reducible refine x_cb ?_ | with_reducible refine x_test ?_ | with_reducible refine x_B ?_
  | with_reducible refine x_and ?_ | with_reducible refine x_or ?_ | with_reducible refine x_not ?_ | with_reducible refine x_ifE ?_ | with_reducible refine x_andV ?_ | with_reducible refine x_orV ?_ | with_reducible refine x_notV ?_
  | with_reducible refine x_ex ?_ | with_reducible refine x_seq ?_ | with_reducible refine x_next ?_ | with_reducible refine x_brk ?_ | with_reducible refine x_cont ?_ | with_reducible refine x_asg ?_ | with_reducible refine x_drop ?_ | with_reducible refine x_ret ?_ | with_reducible refine x_retN ?_
  | with_reducible refine x_ifS ?_ | with_reducible refine x_gn ?_ | with_reducible refine x_gsub ?_ | ((with_reducible apply x_aug); (next => rfl)) | with_reducible refine x_lst ?_ | with_reducible refine x_tup ?_ | with_reducible refine x_sl ?_ | with_reducible refine x_part ?_ | with_reducible refine x_exI ?_ | with_reducible refine x_nopart ?_
  | with_reducible refine x_bm ?_ | with_reducible refine x_bm0 ?_ | with_reducible refine x_iteF ?_ | with_reducible refine x_iteT ?_ | ((with_reducible apply x_eq); (next => rfl)) | ((with_reducible apply x_ne); (next => rfl))
  | ((with_reducible apply x_ixL); (next => walk_at "sq"); (next => (first | exact at0 rfl | exact at1 rfl | exact at2 rfl | exact at3 rfl | exact at4 rfl | exact at5 rfl | exact at6 rfl | exact at7 rfl | exact at8 rfl | exact at9 rfl))) | ((with_reducible apply x_ixT); (next => walk_at "sq"); (next => (first | exact at0 rfl | exact at1 rfl | exact at2 rfl | exact at3 rfl | exact at4 rfl | exact at5 rfl | exact at6 rfl | exact at7 rfl | exact at8 rfl | exact at9 rfl)))
  | ((with_reducible apply x_setL); (next => walk_at "hx"); (next => (first | exact ix0 (Nat.le_of_ble_eq_true rfl) | exact ix1 (Nat.le_of_ble_eq_true rfl) | exact ix2 (Nat.le_of_ble_eq_true rfl) | exact ix3 (Nat.le_of_ble_eq_true rfl) | exact ix4 (Nat.le_of_ble_eq_true rfl))))
  | ((with_reducible apply x_mod); (next => omega); (intro r h0 h1 h2)) | ((with_reducible apply x_div); (next => first | exact cdivW (by omega) (by omega) | assumption); (intro r h0 h1))
  | ((with_reducible apply x_i); (next => first | assumption | exact cmulW (by omega) (by omega) | exact (show _ ≠ _ by decide) | exact ⟨by decide, by decide, by omega⟩ | exact cdivW (by omega) (by omega) | exact (show _ ≠ _ by omega)))
  | with_reducible refine x_for ?_ | with_reducible refine x_rng1 ?_ | with_reducible refine x_rng2 ?_ | with_reducible refine x_ilist ?_ | with_reducible refine x_itup ?_
  | with_reducible refine x_callN ?_ | with_reducible refine x_ip ?_ | with_reducible refine x_chain ?_ | with_reducible refine x_chain3 ?_ | with_reducible refine x_ckw ?_ | with_reducible refine x_star ?_ | with_reducible refine x_ienumS ?_ | with_reducible refine x_lc ?_ | with_reducible refine x_yes ?_ | with_reducible refine x_m1 ?_ | with_reducible refine x_m0 ?_ | with_reducible refine x_isStr ?_ | ((with_reducible apply x_lenKL); (next => walk_at "sq")) | ((with_reducible apply x_lenKT); (next => walk_at "sq")) | with_reducible refine x_intB ?_ | with_reducible refine x_inS ?_
  | ((with_reducible apply x_tyL); (next => walk_at "sq")) | ((with_reducible apply x_ib); (next => rfl)) | ((with_reducible apply x_if0); (next => rfl))
  | with_reducible refine x_gcons ?_ | with_reducible refine x_gnil ?_ | ((with_reducible apply x_gtup); (next => walk_at "sq"); (next => rfl)) | with_reducible refine x_mkO ?_ | with_reducible refine x_enum ?_ | with_reducible refine x_callS ?_ | ((with_reducible apply x_cat); (next => walk_at "hx"); (next => walk_at "hx"); (next => exact sz (Nat.le_of_ble_eq_true rfl)); (intro b nb))
  | (refine ⟨sz (Nat.le_of_ble_eq_true rfl), fun a na => ?_⟩)
  | dsimp only))
local macro_rules | `(tactic| walk_at "kx") => `(tactic| first | assumption | exact Kx.refl _ | (apply Kx.updp; walk_at "kx") | (apply Kx.updl; walk_at "kx") | (apply Kx.updn; (next => assumption); walk_at "kx") | (apply Kx.trans; rotate_left 1; (next => assumption); walk_at "kx"))
local macro_rules | `(tactic| walk_at "pl") => `(tactic| first | assumption | (refine PoolAt.upd ?_ (by assumption); walk_at "pl"))
local macro_rules | `(tactic| walk_at "sm") => `(tactic| first | assumption | exact same_refl _ | (apply same_updg; (next => walk_at "sm"); (next => assumption)))
local macro_rules | `(tactic| walk_at "hn") => `(tactic| first | assumption | exact nn_same | exact nn_of (by assumption) | (apply nn_upd; walk_at "hn"))
namespace Gs
open PySem PySem.Spec PyProof.Rows L2
/-! ### errors whose context is told to be None: they may be raised anew in an except suite -/
section
variable {Y : Cx} {cx : CXT} {nm : Str} {a1 : PySem.Expr} {as1 : List PySem.Expr} {tz : TA} {q1 q2 q3 : Pos} {CC fi : Addr} {lv : Nat} {fn : FuncData} {prm : List Str} {pr : Sp}
theorem pmk_oexN (TT : OexC Y.K CC) (inC : PySem.W.findIn Y.K (.ref CC) "__init__" = some (some (.ref fi))) (tyI : PySem.W.typeIn Y.K (.ref fi) = some (.type "function")) (FF : FnOk Y.prog Y.w Y.K Y.mg Y.base cx lv fi fn prm pr)
    (rm : Room (lv + 1) Y.A) (bd : Binds Y.K fn prm []) (ps : Passes cx Y (fun _ _ _ => False)) (gl : Gl Y nm) (mm : Y.mg nm = some (.ref CC)) (az : PA Y (a1 :: as1) tz)
    (nd : (nm == ("__debug__" : Str)) = false := by decide) (se : starEach (a1 :: as1) Y.env = (false, eval a1 Y.env) :: starEach as1 Y.env := by rfl) (sp2 : (backTo q2 (starEach as1 Y.env)).any (·.1) = false := by rfl) :
    L2N.PMk Y (.Call (.Name nm q1) (a1 :: as1) [] q2) (tMkO CC pr [] tz) := by
  intro pi0 st0 σ0 J0 QQ I0 hh
  obtain ⟨_, _, _, _, bm0, _, _, _, _, _, _, _, _, _, _, isC, cbm⟩ := TT.cls
  refine wpAny_Call_Name_kw (ld_glob I0 gl mm ?_ nd)
  refine PySem.W.callWith_K (h₀ := Y.base) I0.ok.mod.kin TT.kC (thn (az.run q2 pi0 st0 σ0 J0 _ I0 hh) fun ws st1 ⟨zs, J1, I1, rel, ln1, qq⟩ => ⟨I1.kIn, ?_⟩) se sp2
  show wpAny _ _ (call (.ref CC) ws) _ _ _
  obtain ⟨m0, g0, d0, t0, o0⟩ := st1
  have grow : m0.objs.size ≤ m0.objs.size + 1 := Nat.le_succ _
  have newa : J1 (m0.objs.size + 1) = none := I1.hok.fresh grow
  have qa := qq (m0.objs.size + 1) newa
  rw [List.append_nil] at qa
  have stay : ∀ b o, m0.get? b = some o → ((m0.push (PySem.W.kdv_tup ws)).push (PySem.HandSPX.excO CC m0.objs.size)).get? b = some o := fun b o ee => Heap.get?_push_of_some _ (Heap.get?_push_of_some _ ee)
  have made : ((m0.push (PySem.W.kdv_tup ws)).push (PySem.HandSPX.excO CC m0.objs.size)).get? (m0.objs.size + 1) = some (PySem.HandSPX.excO CC m0.objs.size) := by heap_get
  have I2 : Inv Y pi0 σ0 (upd J1 (m0.objs.size + 1) (exo (m0.objs.size + 1) CC none)) ⟨(m0.push (PySem.W.kdv_tup ws)).push (PySem.HandSPX.excO CC m0.objs.size), g0, d0, t0, o0⟩ :=
    I1.laid (t' := t0) (a := m0.objs.size + 1) (o := exo (m0.objs.size + 1) CC none) (h' := (m0.push (PySem.W.kdv_tup ws)).push (PySem.HandSPX.excO CC m0.objs.size)) stay grow (exo_ok made)
  have rel2 : Vals (V.ref (m0.objs.size + 1) :: zs) (Value.ref (m0.objs.size + 1) :: ws) := .cons rfl rel
  have lenw : (Value.ref (m0.objs.size + 1) :: ws ++ []).length = prm.length := by
    have ee := rel2.length
    rw [FF.len _ _ _ _ qa] at ee
    rw [List.append_nil]
    exact ee.symm
  have small : ws.length ≤ sizeLine := by
    rw [← Paired.length rel, sizeLine_eq]
    omega
  have bd2 := bd _ (Value.ref (m0.objs.size + 1) :: ws) I2.kIn lenw
  rw [List.append_nil] at bd2
  refine wpAny_call (PySem.HandSPX.call_own F.excBase_ValueError (fun Z => PySem.HandSPX.refsVE_contains Z bm0 cbm) (I1.kIn _ _ isC) (PySem.W.looks_findIn I1.kIn inC) (fun self => PySem.W.bind_fn I1.kIn self tyI) small
    (codeAny_mono (FF.run _ Y.stack _ _ ⟨Value.ref (m0.objs.size + 1) :: ws, []⟩ (Value.ref (m0.objs.size + 1) :: ws) _ _ (fun _ _ _ => False) (rm.make CC ws []) (I2.env0.make CC ws []) bd2 rel2 qa) fun out stz got => ?_))
  cases out with
  | error er => exact ps pi0 σ0 _ _ er stz I2 got
  | ok way =>
    cases way with
    | ret uz =>
      obtain ⟨vz, J2, os2, br2, un2, ok2, rz, ez, dz, fz, ea, ed, dn1, qz⟩ := got
      subst ez
      obtain ⟨m2, g2, d2, t2, o2⟩ := stz
      obtain ⟨_, G, JJ, kG, ge, hoe, na⟩ := mk_end0 (d2 := d2) (t2 := t2) I1 grow stay un2 ok2 os2 br2 ea ed dn1
      refine ⟨rz, m0.objs.size + 1, _, _, ⟨G, g2, d2, t2, o2⟩, _, .ref CC, some dz, rfl, JJ, kG, ge, hoe, ⟨rfl, rfl, fun vv hv => ?_⟩, rfl, rfl, na, rfl, br2, raises_own TT.exC TT.tyC, qz⟩
      cases hv
      rfl
    | next => exact False.elim got
    | brk => exact False.elim got
    | cont => exact False.elim got
/-- raise x(e), its context told -/
theorem ps_raiseEN {fld : Str} {W : WX} {j : Nat} (E : HasErr Y.prog Y.w Y.K Y.mg Y.base nm fld CC) (calm : Y.calm = true) (tk : L2N.Takes Y W) (rm : Room j Y.A) (az : PA Y [a1] tz) (hk : 2 ≤ j := by decide) (gl : Gl Y nm := by rfl) (nd : (nm == ("__debug__" : Str)) = false := by decide)
    (se : starEach (a1 :: []) Y.env = (false, eval a1 Y.env) :: starEach [] Y.env := by rfl) (sp2 : (backTo q2 (starEach [] Y.env)).any (·.1) = false := by rfl) :
    PS Y (.Raise (some (.Call (.Name nm q1) [a1] [] q2)) none q3) (fun _ σ H => tMkO CC (spErr1 Y.K CC fld) [] tz σ H fun cls d H' => W cls d σ H') := by
  obtain ⟨fI, fd, i1, i2, F, b⟩ := E.ini
  exact L2N.ps_raise calm tk (pmk_oexN E.oex i1 i2 F (rm.mono hk) b pass0 gl E.mC az nd se sp2)
end
/-- a def of the text that may raise, the context of its errors told -/
structure HasEN (P : Program) (w : World) (K : PySem.W.Frag) (mg : Str → Option Value) (base : Heap) (k : Nat) (x : Str) (ps : List Str) (sp : Sp) : Prop where
  ex : ∃ (f : Addr) (fd : FuncData), FnOk P w K mg base (L2N.CX P w) k f fd ps sp ∧ Binds K fd ps [] ∧ PySem.W.keepIn K (.ref f) = true ∧ mg x = some (.ref f)
section
variable {Y : Cx} {nm : Str} {q1 q2 : Pos} {a1 : PySem.Expr} {as1 : List PySem.Expr} {tz : TA}
theorem pe_callEN {k j : Nat} {prm : List Str} {pr : Sp} {W : WX} (C : HasEN Y.prog Y.w Y.K Y.mg Y.base k nm prm pr) (rm : Room j Y.A) (tk : L2N.Takes Y W) (az : PA Y (a1 :: as1) tz) (hk : k ≤ j := by decide) (gl : Gl Y nm := by rfl) (nd : (nm == ("__debug__" : Str)) = false := by decide)
    (se : starEach (a1 :: as1) Y.env = (false, eval a1 Y.env) :: starEach as1 Y.env := by rfl) (sp2 : (backTo q2 (starEach as1 Y.env)).any (·.1) = false := by rfl) :
    PE Y (.Call (.Name nm q1) (a1 :: as1) [] q2) (tCallS pr (WE W) tz) := by
  obtain ⟨f, fd, F, b, kp, m⟩ := C.ex
  exact pe_callS F (rm.mono hk) gl m kp b (fun σ => L2N.passAt tk σ) az nd se sp2
end
theorem skyN {B : Heap} {l : List Env} {a L : Addr} {Z Z' : Obj → Prop} {h : Heap} (z : ∀ o, Z o → Z' o) (x : Sky B l a Z L h) : Sky B l a Z' L h := by
  rcases x with ⟨h1, h2, h3, oe, vs, h4, h5, h6⟩ | x | x
  · exact .inl ⟨h1, h2, h3, oe, vs, h4, z _ h5, h6⟩
  · exact .inr (.inl (L2H.flyingZ_imp z x))
  · exact .inr (.inr ⟨x.1, x.2.1, x.2.2.1, L2H.tracedZ_imp z x.2.2.2⟩)
/-- who takes an error takes it with its context told -/
theorem takesN {Y : Cx} {W : WX} (tk : L2.Takes Y W) : L2N.Takes Y W := fun u s' xx => by
  obtain ⟨a, B, sI, pins, σ, H, cls, d, e1, I, nb, up, sky, r⟩ := xx
  refine tk u s' ⟨a, B, sI, pins, σ, H, cls, d, e1, I, nb, up, ?_, r⟩
  exact skyN (fun _ z => z.zc) sky
end Gs
namespace Gs
open PySem PySem.Spec PyProof.Rows L2
/-! ### several except clauses whose suites raise anew -/
section
variable {P : Program} {w : World} {K : PySem.W.Frag} {mg : Str → Option Value} {base : Heap}
theorem _root_.L2.Fun.okN {nm ql : Str} {st : Stmt} {fa : Addr} {fn : FuncData} {N ps : List Str} {lv : Nat} {pr : Sp} (F : L2.Fun K nm ql st fa fn) (S : FnScope N ps (defScope st)) (ln : ∀ vs H Q E, pr vs H Q E → vs.length = ps.length)
    (hb : ∀ (cdv : Value) (A : Around) (outer : List Env) (s : Shared) (H : Hp) (vs : List V) (Q : VK) (E : XK), Room lv (A.deeper (envOfC ql (defScope st) s.heap.objs.size fa cdv)) → pr vs H Q E →
      ∃ t, PSs (cxOf (L2N.CX P w) P w K mg base N ql (defScope st) fa cdv A outer s H E) (defBody st) t ∧ t { nx := fun _ H' => Q .non H', rt := Q } (start N vs) H) : FnOk P w K mg base (L2N.CX P w) (lv + 1) fa fn ps pr := by
  obtain ⟨_, _, _, _, _, _, cdv, _, _, rfl, lk, hcd⟩ := F.ex
  exact fn_of lk hcd S ln fun A outer s H vs Q E hr hsp => hb cdv A outer s H vs Q E hr hsp
/-- a def that runs while an error is handled -/
theorem _root_.L2.Fun.okH {cx : CXT} {nm ql : Str} {st : Stmt} {fa : Addr} {fn : FuncData} {N ps : List Str} {lv : Nat} {pr : Sp} (F : L2.Fun K nm ql st fa fn) (S : FnScope N ps (defScope st)) (ln : ∀ vs H Q E, pr vs H Q E → vs.length = ps.length)
    (hb : ∀ (cdv : Value) (A : Around) (outer : List Env) (s : Shared) (H : Hp) (vs : List V) (Q : VK) (E : XK) (p : Addr × Obj), L2H.Hot1 A p → L2H.RoomH lv (A.deeper (envOfC ql (defScope st) s.heap.objs.size fa cdv)) → pr vs H Q E →
      ∃ t, PSs (L2H.cxH cx P w K mg base N ql (defScope st) fa cdv A outer s H E p) (defBody st) t ∧ t { nx := fun _ H' => Q .non H', rt := Q } (start N vs) H) : L2H.FnH P w K mg base cx (lv + 1) fa fn ps pr := by
  obtain ⟨_, _, _, _, _, _, cdv, _, _, rfl, lk, hcd⟩ := F.ex
  exact L2H.fn_ofH lk hcd S ln fun A outer s H vs Q E p hot hr hsp => hb cdv A outer s H vs Q E p hot hr hsp
end
/-- the class of errors x made while another one is handled -/
structure HasErrH (P : Program) (w : World) (K : PySem.W.Frag) (mg : Str → Option Value) (base : Heap) (x fld : Str) (C : Addr) : Prop where
  err : HasErr P w K mg base x fld C
  ini : ∃ (fI : Addr) (fd : FuncData), PySem.W.findIn K (.ref C) "__init__" = some (some (.ref fI)) ∧ PySem.W.typeIn K (.ref fI) = some (.type "function") ∧ L2H.FnH P w K mg base CX0 1 fI fd ["self", fld] (spErr1 K C fld) ∧ Binds K fd ["self", fld] []
section
variable {Y : Cx} {nm fld : Str} {a1 : PySem.Expr} {tz : TA} {q1 q2 q3 q4 : Pos} {CC : Addr} {W : WX} {j ji : Nat}
/-- raise x(e) from None, in an except suite -/
theorem ps_raiseHE {K : PySem.W.Frag} (E : HasErrH Y.prog Y.w K Y.mg Y.base nm fld CC) (hot : L2H.HotC Y) (tk : L2.Takes Y W) (rm : L2H.RoomH j Y.A) (az : PA Y [a1] tz) (hK : Y.K = K := by rfl) (hk : 2 ≤ j := by decide) (gl : Gl Y nm := by rfl) (nd : (nm == ("__debug__" : Str)) = false := by decide)
    (se : starEach (a1 :: []) Y.env = (false, eval a1 Y.env) :: starEach [] Y.env := by rfl) (sp2 : (backTo q2 (starEach [] Y.env)).any (·.1) = false := by rfl) :
    PS Y (.Raise (some (.Call (.Name nm q1) [a1] [] q2)) (some (.Constant .none ji q4)) q3) (fun _ σ H => tMkO CC (spErr1 K CC fld) [] tz σ H fun cls d H' => W cls d σ H') := by
  subst hK
  obtain ⟨fI, fd, i1, i2, F, b⟩ := E.ini
  exact L2H.ps_raiseHN hot tk (L2H.pmk5_oexH E.err.oex i1 i2 F (rm.mono hk) hot b pass0 gl E.err.mC az nd se sp2)
end
/-- what a clause does: its class; a suite that may raise anew, or none where nothing of the class is caught -/
abbrev ClX := Value × Option (Addr → Value → Option Addr → TS)
def wClsX (K : PySem.W.Frag) (Wout : WX) (D : Ends) : List ClX → WX
  | [] => Wout
  | (c, some ts) :: r => fun cls d σ H => ∃ b, PySem.W.exmOne K cls c = some b ∧ (b = true → ∀ a, H a = none → ts a cls d D σ H) ∧ (b = false → wClsX K Wout D r cls d σ H)
  | (c, none) :: r => fun cls d σ H => PySem.W.exmOne K cls c = some false ∧ wClsX K Wout D r cls d σ H
inductive ClsX (X : Cx) (Wout : WX) : List ExceptHandler → List ClX → Prop
  | nil : ClsX X Wout [] []
  | suite {x : Str} {c : Value} {ts : Addr → Value → Option Addr → TS} {b0 : Stmt} {bs : List Stmt} {n1 n2 : Pos} {hs : List ExceptHandler} {l : List ClX} (hc : Names X x c)
      (su : ∀ (a : Addr) (oe : Obj) (cls : Value) (d : Option Addr) (pn : List (Addr × Obj)), L2N.Zn cls d oe → (∃ vs, oe.data = .fields vs) → L2.Takes (L2H.suiteX X a ((a, oe) :: pn)) Wout → L2H.HotC (L2H.suiteX X a ((a, oe) :: pn)) → PSs (L2H.suiteX X a ((a, oe) :: pn)) (b0 :: bs) (ts a cls d))
      (r : ClsX X Wout hs l) : ClsX X Wout (.ExceptHandler (some (.Name x n1)) none (b0 :: bs) n2 :: hs) ((c, some ts) :: l)
  | skip {x : Str} {c : Value} {nm : Option Str} {b : List Stmt} {n1 n2 : Pos} {hs : List ExceptHandler} {l : List ClX} (hc : Names X x c) (r : ClsX X Wout hs l) : ClsX X Wout (.ExceptHandler (some (.Name x n1)) nm b n2 :: hs) ((c, none) :: l)
section
variable {Y : Cx} {bd : List Stmt} {e0 : ExceptHandler} {es : List ExceptHandler} {cl : List ClX} {q0 : Pos} {tb : WX → TS} {Wo : WX}
theorem ps_try_clsX (hs : Y.stack = Y.env :: Y.outer) (hf : Y.env.frame = some Y.env.locals) (hpa : ∀ hd : Option Value, PassesOwnAt (model Y.prog Y.w) (Y.A.mark hd) Y.A Y.env Y.xe) (tk : L2.Takes Y Wo)
    (hb : ∀ (W : WX) (pn : List (Addr × Obj)) (xe : Value → Shared → Prop), L2N.Takes (Y.tr pn xe) W → PassesOwn (model Y.prog Y.w) Y.A Y.env xe → PSs (Y.tr pn xe) bd (tb W)) (hh : ClsX Y Wo (e0 :: es) cl) :
    PS Y (.Try bd (e0 :: es) [] [] q0) (fun D σ H => tb (wClsX Y.K Wo D cl) D σ H) := by
  refine ⟨fun pi0 s0 σ0 H0 D I0 h0 => ?_⟩
  have okY := I0.ok
  have frm : Y.A.frames = some (Y.env :: Y.outer) := by rw [okY.frames, hs]
  refine wpAny_Try_except ?_
  refine wpAny_mono ((hb (wClsX Y.K Wo D cl) (Y.pn ++ pi0) (fun ez s1 => wpAny (model Y.prog Y.w) Y.A (noteFrame ez Y.env) (fun _ s2 => wpAny (model Y.prog Y.w) Y.A (setFlight ez none) (fun _ s3 =>
    wpAny (model Y.prog Y.w) Y.A (handleBy ez Y.env (e0 :: es)) (SP Y pi0 D) Y.xe s3) Y.xe s2) Y.xe s1) (fun u s' xx => ?_) PassesOwn.looking).run [] s0 σ0 H0 D (I0.toTry _) h0) (fun way s1 hsp => ?_) (fun _ _ z => z)
  · obtain ⟨a, B, sI, _, σ', H', cls, d, rfl, J', nb, up, sky, na, os, ag, wz⟩ := xx
    have J : Inv Y pi0 σ' H' sI := J'.ofTry okY
    have sky' : Sky B (Y.env :: Y.outer) a (L2N.Zn cls d) Y.env.locals s'.heap := by rw [← hs]; exact sky
    show wpAny (model Y.prog Y.w) Y.A (noteFrame (.ref a) Y.env) _ _ _
    refine L2N.Sky.land L2N.Zn.steady frm hf sky' fun h3 fl3 up3 => ?_
    have J3 : Inv Y pi0 σ' H' { s' with heap := h3 } := J.landed nb fl3.1 (up.trans up3) os ag
    obtain ⟨oe3, _, he3, hz3, hd3⟩ := fl3.there
    have nfr : a ∉ frs (Y.env :: Y.outer) := fun hm => by
      obtain ⟨_, o', e', hnf⟩ := fl3.2.2.1.mem hm
      rw [he3] at e'
      cases e'
      exact hnf _ hd3
    have nL : a ≠ Y.env.locals := fun z => nfr (List.mem_filterMap.mpr ⟨Y.env, List.mem_cons_self, by rw [hf, z]⟩)
    have nF : a ∉ Y.fs := fun hm => by
      obtain ⟨ev, he, qe⟩ := List.mem_filterMap.mp hm
      exact nfr (List.mem_filterMap.mpr ⟨ev, List.mem_cons_of_mem _ he, qe⟩)
    have S3 := J3.suite he3 hd3 na nL nF
    have LT : PySem.W.Looks (model Y.prog Y.w) h3 (typeOf (.ref a)) cls := fun A Q E s k qq => wpAny_typeOf_ref (k _ _ he3) (by rw [hz3.1]; exact qq)
    have look : ∀ {x : Str} {c : Value} {n1 : Pos} {Q E : Value → Shared → Prop}, Names Y x c → Q c { s' with heap := h3 } → wpAny (model Y.prog Y.w) (Y.A.mark (some (.ref a))) (eval (.Name x n1) Y.env) Q E { s' with heap := h3 } := fun {x c n1 Q E} hc qq => by
      obtain ⟨hg, hdbg, hm | ⟨hm, hv, hnn⟩⟩ := hc
      · exact ld_glob (X := Y.suite a ((a, oe3) :: (Y.pn ++ pi0))) S3 hg hm qq hdbg
      · exact ld_blt (X := Y.suite a ((a, oe3) :: (Y.pn ++ pi0))) S3 hg hm hv qq hnn hdbg
    have go : ∀ {hs' : List ExceptHandler} {l' : List ClX}, ClsX Y Wo hs' l' → wClsX Y.K Wo D l' cls d σ' H' → wpAny (model Y.prog Y.w) Y.A (handleBy (.ref a) Y.env hs') (SP Y pi0 D) Y.xe { s' with heap := h3 } := by
      intro hs' l' hk
      induction hk with
      | nil =>
        intro wo
        refine wpAny_handleBy_nil ?_
        have flc := L2H.flyingZ_imp (fun _ z => L2N.Zn.zc z) fl3
        obtain ⟨_, _, _, oe, vs, T, _, _, he, _, hd, h1, _⟩ := id flc
        unfold PySem.passOn
        refine wpAny_bind (wpAny_field he hd h1 ?_)
        rw [if_neg (show ¬ ((Value.ref T == Value.none) = true) from by simp)]
        have fin : wpAny (model Y.prog Y.w) Y.A (setFlight (.ref a) Y.env.frame) (fun _ s4 => wpAny (model Y.prog Y.w) Y.A (throw (.ref a) : Sem Flow) (SP Y pi0 D) Y.xe s4) Y.xe { s' with heap := h3 } := by
          rw [hf]
          refine HandSPX.setFlight_upZ flc fun h4 hh4 up4 => wpAny_throw (tk _ _ ?_)
          exact ⟨a, B, sI, pi0, σ', H', cls, d, rfl, J, nb, (up.trans up3).trans up4, .inr (.inr (by rw [hs]; exact hh4)), na, os, ag, wo⟩
        first
          | exact wpAny_bind (wpAny_pure (wpAny_bind fin))
          | exact wpAny_bind fin
      | @skip x c nm b n1 n2 hs2 l2 hc r ih =>
        intro wo
        obtain ⟨hb1, rest⟩ := wo
        refine wpAny_handleBy_cons (codeAny_handlers_test ?_) (by intro qq; cases qq)
        have LM := PySem.W.exm_one (M := model Y.prog Y.w) (J3.kIn) LT hb1
        refine look hc (LM.here ?_)
        show wpAny _ Y.A (handleBy (.ref a) Y.env hs2) _ _ _
        exact ih rest
      | @suite x c ts b0 bs n1 n2 hs2 l2 hc su r ih =>
        intro wo
        obtain ⟨b, hb1, hyes, hno⟩ := wo
        refine wpAny_handleBy_cons (codeAny_handlers_test ?_) (by intro qq; cases qq)
        have LM := PySem.W.exm_one (M := model Y.prog Y.w) (J3.kIn) LT hb1
        refine look hc (LM.here ?_)
        cases b with
        | false =>
          show wpAny _ Y.A (handleBy (.ref a) Y.env hs2) _ _ _
          exact ih (hno rfl)
        | true =>
          refine codeAny_handlers_suite ?_
          refine HandSPX.lands_againZ fl3 fun h4 fl4 up4 => ?_
          have J4 : Inv Y pi0 σ' H' { s' with heap := h4 } := J.landed nb fl4.1 ((up.trans up3).trans up4) os ag
          obtain ⟨oe4, vs4, he4, hz4, hd4⟩ := fl4.there
          have S4 := J4.suite he4 hd4 na nL nF
          have tkS : L2.Takes (L2H.suiteX Y a ((a, oe4) :: (Y.pn ++ pi0))) Wo := fun u2 s2 x2 => by
            obtain ⟨a2, B2, sI2, pn2, σ2, H2, cls2, d2, e2, I2, nb2, up2, sky2, r2⟩ := x2
            exact tk u2 s2 ⟨a2, B2, sI2, pi0, σ2, H2, cls2, d2, e2, L2H.unsuiteX I2 okY, nb2, up2, sky2, r2⟩
          have hot : L2H.HotC (L2H.suiteX Y a ((a, oe4) :: (Y.pn ++ pi0))) := ⟨(a, oe4), ⟨rfl, vs4, hd4, hz4.2.2 vs4 hd4⟩, List.mem_cons_self⟩
          refine wpAny_mono ((su a oe4 cls d (Y.pn ++ pi0) hz4 ⟨_, hd4⟩ tkS hot).run [] _ _ H' _ (L2H.suiteX_of S4) (hyes rfl a na)) (fun way s6 got => ?_) (fun e6 s6 z => hpa (some (.ref a)) e6 s6 z)
          cases way with
          | next =>
            obtain ⟨σ6, H6, K6, q6⟩ := got
            exact ⟨_, _, L2H.unsuiteX K6 okY, q6⟩
          | brk =>
            obtain ⟨σ6, H6, K6, q6⟩ := got
            exact ⟨_, _, L2H.unsuiteX K6 okY, q6⟩
          | cont =>
            obtain ⟨σ6, H6, K6, q6⟩ := got
            exact ⟨_, _, L2H.unsuiteX K6 okY, q6⟩
          | ret u =>
            obtain ⟨v6, σ6, H6, K6, r6, q6⟩ := got
            exact ⟨_, _, _, L2H.unsuiteX K6 okY, r6, q6⟩
    exact go hh wz
  · cases way with
    | next =>
      obtain ⟨σ', H', J', qq⟩ := hsp
      exact wpAny_execs_nil ⟨σ', H', J'.ofTry okY, qq⟩
    | brk =>
      obtain ⟨σ', H', J', qq⟩ := hsp
      exact ⟨σ', H', J'.ofTry okY, qq⟩
    | cont =>
      obtain ⟨σ', H', J', qq⟩ := hsp
      exact ⟨σ', H', J'.ofTry okY, qq⟩
    | ret u =>
      obtain ⟨v, σ', H', J', r, qq⟩ := hsp
      exact ⟨v, σ', H', J'.ofTry okY, r, qq⟩
end
end Gs
namespace Gs
open PySem PySem.Spec PyProof.Rows L2
/-! ### several except clauses with names, whose suites raise nothing -/
/-- a clause: its class, the slot of its name, what its suite does -/
abbrev ClA := Value × Nat × (Addr → Value → Option Addr → TS)
def wClsA (K : PySem.W.Frag) (Wout : WX) (D : Ends) : List ClA → WX
  | [] => Wout
  | (c, i, ts) :: r => fun cls d σ H => ∃ b, PySem.W.exmOne K cls c = some b ∧ (b = true → ∀ a, H a = none → ts a cls d { nx := fun σ' H' => D.nx (σ'.set i none) H', rt := D.rt, bk := fun σ' H' => D.bk (σ'.set i none) H', ct := fun σ' H' => D.ct (σ'.set i none) H' } (σ.set i (some (.ref a))) H) ∧ (b = false → wClsA K Wout D r cls d σ H)
inductive ClsA (X : Cx) : List ExceptHandler → List ClA → Prop
  | nil : ClsA X [] []
  | cons {x n : Str} {c : Value} {i : Nat} {ts : Addr → Value → Option Addr → TS} {b0 : Stmt} {bs : List Stmt} {n1 n2 : Pos} {hs : List ExceptHandler} {l : List ClA} (hc : Names X x c) (hi : X.N[i]? = some n) (hl : X.env.kindOf n = some .local)
      (su : ∀ (a : Addr) (oe : Obj) (cls : Value) (d : Option Addr) (pn : List (Addr × Obj)), Zc cls d oe → (∃ vs, oe.data = .fields vs) → PSs (X.suite a ((a, oe) :: pn)) (b0 :: bs) (ts a cls d))
      (r : ClsA X hs l) : ClsA X (.ExceptHandler (some (.Name x n1)) (some n) (b0 :: bs) n2 :: hs) ((c, i, ts) :: l)
section
variable {Y : Cx} {bd : List Stmt} {e0 : ExceptHandler} {es : List ExceptHandler} {cl : List ClA} {q0 : Pos} {tb : WX → TS} {Wo : WX}
theorem ps_try_clsA (hs : Y.stack = Y.env :: Y.outer) (hf : Y.env.frame = some Y.env.locals) (hN : Y.N.Nodup) (tk : L2.Takes Y Wo)
    (hb : ∀ (W : WX) (pn : List (Addr × Obj)) (xe : Value → Shared → Prop), L2.Takes (Y.tr pn xe) W → PassesOwn (model Y.prog Y.w) Y.A Y.env xe → PSs (Y.tr pn xe) bd (tb W)) (hh : ClsA Y (e0 :: es) cl) :
    PS Y (.Try bd (e0 :: es) [] [] q0) (fun D σ H => tb (wClsA Y.K Wo D cl) D σ H) := by
  refine ⟨fun pi0 s0 σ0 H0 D I0 h0 => ?_⟩
  have okY := I0.ok
  have frm : Y.A.frames = some (Y.env :: Y.outer) := by rw [okY.frames, hs]
  refine wpAny_Try_except ?_
  refine wpAny_mono ((hb (wClsA Y.K Wo D cl) (Y.pn ++ pi0) (fun ez s1 => wpAny (model Y.prog Y.w) Y.A (noteFrame ez Y.env) (fun _ s2 => wpAny (model Y.prog Y.w) Y.A (setFlight ez none) (fun _ s3 =>
    wpAny (model Y.prog Y.w) Y.A (handleBy ez Y.env (e0 :: es)) (SP Y pi0 D) Y.xe s3) Y.xe s2) Y.xe s1) (fun u s' xx => ?_) PassesOwn.looking).run [] s0 σ0 H0 D (I0.toTry _) h0) (fun way s1 hsp => ?_) (fun _ _ z => z)
  · obtain ⟨a, B, sI, _, σ', H', cls, d, rfl, J', nb, up, sky, na, os, ag, wz⟩ := xx
    have J : Inv Y pi0 σ' H' sI := J'.ofTry okY
    have sky' : Sky B (Y.env :: Y.outer) a (Zc cls d) Y.env.locals s'.heap := by rw [← hs]; exact sky
    show wpAny (model Y.prog Y.w) Y.A (noteFrame (.ref a) Y.env) _ _ _
    refine L2.Sky.land Zc.steady frm hf sky' fun h3 fl3 up3 => ?_
    have J3 : Inv Y pi0 σ' H' { s' with heap := h3 } := J.landed nb fl3.1 (up.trans up3) os ag
    obtain ⟨oe3, _, he3, hz3, hd3⟩ := fl3.there
    have nfr : a ∉ frs (Y.env :: Y.outer) := fun hm => by
      obtain ⟨_, o', e', hnf⟩ := fl3.2.2.1.mem hm
      rw [he3] at e'
      cases e'
      exact hnf _ hd3
    have nL : a ≠ Y.env.locals := fun z => nfr (List.mem_filterMap.mpr ⟨Y.env, List.mem_cons_self, by rw [hf, z]⟩)
    have nF : a ∉ Y.fs := fun hm => by
      obtain ⟨ev, he, qe⟩ := List.mem_filterMap.mp hm
      exact nfr (List.mem_filterMap.mpr ⟨ev, List.mem_cons_of_mem _ he, qe⟩)
    have S3 := J3.suite he3 hd3 na nL nF
    have LT : PySem.W.Looks (model Y.prog Y.w) h3 (typeOf (.ref a)) cls := fun A Q E s k qq => wpAny_typeOf_ref (k _ _ he3) (by rw [hz3.1]; exact qq)
    have look : ∀ {x : Str} {c : Value} {n1 : Pos} {Q E : Value → Shared → Prop}, Names Y x c → Q c { s' with heap := h3 } → wpAny (model Y.prog Y.w) (Y.A.mark (some (.ref a))) (eval (.Name x n1) Y.env) Q E { s' with heap := h3 } := fun {x c n1 Q E} hc qq => by
      obtain ⟨hg, hdbg, hm | ⟨hm, hv, hnn⟩⟩ := hc
      · exact ld_glob (X := Y.suite a ((a, oe3) :: (Y.pn ++ pi0))) S3 hg hm qq hdbg
      · exact ld_blt (X := Y.suite a ((a, oe3) :: (Y.pn ++ pi0))) S3 hg hm hv qq hnn hdbg
    have go : ∀ {hs' : List ExceptHandler} {l' : List ClA}, ClsA Y hs' l' → wClsA Y.K Wo D l' cls d σ' H' → wpAny (model Y.prog Y.w) Y.A (handleBy (.ref a) Y.env hs') (SP Y pi0 D) Y.xe { s' with heap := h3 } := by
      intro hs' l' hk
      induction hk with
      | nil =>
        intro wo
        refine wpAny_handleBy_nil ?_
        obtain ⟨_, _, _, oe, vs, T, _, _, he, _, hd, h1, _⟩ := id fl3
        unfold PySem.passOn
        refine wpAny_bind (wpAny_field he hd h1 ?_)
        rw [if_neg (show ¬ ((Value.ref T == Value.none) = true) from by simp)]
        have fin : wpAny (model Y.prog Y.w) Y.A (setFlight (.ref a) Y.env.frame) (fun _ s4 => wpAny (model Y.prog Y.w) Y.A (throw (.ref a) : Sem Flow) (SP Y pi0 D) Y.xe s4) Y.xe { s' with heap := h3 } := by
          rw [hf]
          refine HandSPX.setFlight_upZ fl3 fun h4 hh4 up4 => wpAny_throw (tk _ _ ?_)
          exact ⟨a, B, sI, pi0, σ', H', cls, d, rfl, J, nb, (up.trans up3).trans up4, .inr (.inr (by rw [hs]; exact hh4)), na, os, ag, wo⟩
        first
          | exact wpAny_bind (wpAny_pure (wpAny_bind fin))
          | exact wpAny_bind fin
      | @cons x n c i ts b0 bs n1 n2 hs2 l2 hc hi hl su r ih =>
        intro wo
        obtain ⟨b, hb1, hyes, hno⟩ := wo
        refine wpAny_handleBy_cons (codeAny_handlers_test ?_) (by intro qq; cases qq)
        have LM := PySem.W.exm_one (M := model Y.prog Y.w) (J3.kIn) LT hb1
        refine look hc (LM.here ?_)
        cases b with
        | false =>
          show wpAny _ Y.A (handleBy (.ref a) Y.env hs2) _ _ _
          exact ih (hno rfl)
        | true =>
          refine codeAny_handlers_suite_as ?_
          refine HandSPX.lands_againZ fl3 fun h4 fl4 up4 => ?_
          have J4 : Inv Y pi0 σ' H' { s' with heap := h4 } := J.landed nb fl4.1 ((up.trans up3).trans up4) os ag
          obtain ⟨oe4, _, he4, hz4, hd4⟩ := fl4.there
          have S4 := J4.suite he4 hd4 na nL nF
          refine store_ok (X := Y.suite a ((a, oe4) :: (Y.pn ++ pi0))) (v := .ref a) S4 hN hi (.inl hl) rfl (fun s5 S5 => ?_) (.inr hl)
          refine wpAny_mono ((su a oe4 cls d (Y.pn ++ pi0) hz4 ⟨_, hd4⟩).run [] s5 _ H' _ S5 (hyes rfl a na)) (fun way s6 got => ?_) (fun _ _ z => False.elim z)
          have off : ∀ {σ6 : L2.St} {H6 : Hp} {Q : Shared → Prop}, Inv (Y.suite a ((a, oe4) :: (Y.pn ++ pi0))) [] σ6 H6 s6 → (∀ s7, Inv Y pi0 (σ6.set i none) H6 s7 → Q s7) →
              wpAny (model Y.prog Y.w) Y.A (do bindName Y.env n .none; unbindBehindTheSuite Y.env n n2) (fun _ s7 => Q s7) Y.xe s6 := fun {σ6 H6 Q} S6 hq => gone_ok (S6.unsuite okY) hN hi hl hq
          cases way with
          | next =>
            obtain ⟨σ6, H6, K6, q6⟩ := got
            exact off K6 fun s7 J7 => ⟨_, _, J7, q6⟩
          | brk =>
            obtain ⟨σ6, H6, K6, q6⟩ := got
            exact off K6 fun s7 J7 => ⟨_, _, J7, q6⟩
          | cont =>
            obtain ⟨σ6, H6, K6, q6⟩ := got
            exact off K6 fun s7 J7 => ⟨_, _, J7, q6⟩
          | ret u =>
            obtain ⟨v6, σ6, H6, K6, r6, q6⟩ := got
            exact off K6 fun s7 J7 => ⟨_, _, _, J7, r6, q6⟩
    exact go hh wz
  · cases way with
    | next =>
      obtain ⟨σ', H', J', qq⟩ := hsp
      exact wpAny_execs_nil ⟨σ', H', J'.ofTry okY, qq⟩
    | brk =>
      obtain ⟨σ', H', J', qq⟩ := hsp
      exact ⟨σ', H', J'.ofTry okY, qq⟩
    | cont =>
      obtain ⟨σ', H', J', qq⟩ := hsp
      exact ⟨σ', H', J'.ofTry okY, qq⟩
    | ret u =>
      obtain ⟨v, σ', H', J', r, qq⟩ := hsp
      exact ⟨v, σ', H', J'.ofTry okY, r, qq⟩
end
end Gs
namespace Gs
open PySem PySem.Spec PyProof.Rows L2
/-! ### a written dict of the module with text keys; every other element of a list -/
def evens {α : Type} : List α → List α
  | [] => []
  | [a] => [a]
  | a :: _ :: r => a :: evens r
def odds {α : Type} (l : List α) : List α := evens (l.drop 1)
theorem evens_get {α : Type} : ∀ (l : List α) (k : Nat), (evens l)[k]? = l[2 * k]?
  | [], k => by simp [evens]
  | [a], k => by
    cases k with
    | zero => rfl
    | succ k => simp [evens]
  | a :: b :: r, k => by
    cases k with
    | zero => rfl
    | succ k =>
      rw [evens, List.getElem?_cons_succ, evens_get r k, show 2 * (k + 1) = 2 * k + 1 + 1 from by omega, List.getElem?_cons_succ, List.getElem?_cons_succ]
theorem evens_len {α : Type} : ∀ (l : List α), (evens l).length = (l.length + 1) / 2
  | [] => by simp [evens]
  | [a] => by simp [evens]
  | a :: b :: r => by
    rw [evens, List.length_cons, evens_len r, List.length_cons, List.length_cons]
    omega
theorem evens_map {α β : Type} (f : α → β) : ∀ (l : List α), evens (l.map f) = (evens l).map f
  | [] => rfl
  | [a] => rfl
  | a :: b :: r => by
    show f a :: evens (r.map f) = f a :: (evens r).map f
    rw [evens_map f r]
theorem odds_map {α β : Type} (f : α → β) (l : List α) : odds (l.map f) = (odds l).map f := by
  unfold odds
  rw [← List.map_drop, evens_map]
theorem pick_evens (its : List Value) (lo : Nat) (o : Option Int) (ho : (o = none ∧ lo = 0) ∨ o = some (lo : Int)) : slicePick its.toArray o none (some 2) = (evens (its.drop lo)).toArray := by
  have eb : sliceBounds o none (some 2) its.toArray.size = (((min lo its.length : Nat) : Int), (its.length : Int), 2) := by
    rw [List.size_toArray]
    unfold sliceBounds
    rcases ho with ⟨rfl, rfl⟩ | rfl
    · simp
    · simp only [Option.getD_some, show ((2 : Int) > 0) from by decide, if_true, show ¬ ((lo : Int) < 0) from by omega, if_false]
      congr 1
      omega
  unfold slicePick
  rw [eb]
  congr 1
  dsimp only
  have er : sliceRange ((min lo its.length : Nat) : Int) (its.length : Int) 2 = (List.range ((its.length - lo + 1) / 2)).map fun k => lo + 2 * k := by
    unfold sliceRange
    simp only [show ((2 : Int) > 0) from by decide, if_true]
    have ec : (if ((min lo its.length : Nat) : Int) < (its.length : Int) then ((its.length : Int) - ((min lo its.length : Nat) : Int) + 2 - 1) / 2 else 0).toNat = (its.length - lo + 1) / 2 := by
      split <;> omega
    rw [ec]
    refine List.map_congr_left fun k hk => ?_
    have := List.mem_range.mp hk
    omega
  rw [er, List.filterMap_map]
  have hl : (evens (its.drop lo)).length = (its.length - lo + 1) / 2 := by rw [evens_len, List.length_drop]
  have e := filterMap_take (evens (its.drop lo)) ((its.length - lo + 1) / 2)
  rw [List.take_of_length_le (by omega)] at e
  rw [← e]
  refine fm_congr fun k hk => ?_
  show its.toArray[lo + 2 * k]? = (evens (its.drop lo))[k]?
  rw [evens_get, List.getElem?_drop, List.getElem?_toArray]
theorem vals_evens : ∀ {xs : List V} {us : List Value}, Vals xs us → Vals (evens xs) (evens us)
  | _, _, .nil => .nil
  | _, _, .cons h .nil => .cons h .nil
  | _, _, .cons h (.cons _ r) => .cons h (vals_evens r)
def tEvL (K : PySem.W.Frag) (lo : Nat) (te : TE) : TE := fun σ H Q => te σ H fun x H1 => ∃ a xs, x = .ref a ∧ SqL K H1 a xs ∧ ∀ p, H1 p = none → Q (.ref p) (upd H1 p (.lst (evens (xs.drop lo))))
section
variable {X : Cx} {e : PySem.Expr} {te : TE} {p1 p2 p3 p4 p5 pos : Pos}
theorem ev_run {lo : Nat} {σ : L2.St} {pins : List (Addr × Obj)} {s : Shared} {H : Hp} {Q : VK} {a : Addr} {xs : List V} {u1 u2 u3 : Value} {o : Option Int} (I : L2.Inv X pins σ H s) (hS : SqL X.K H a xs) (ho : (o = none ∧ lo = 0) ∨ o = some (lo : Int)) (i1 : IsPart u1 o) (i2 : IsPart u2 none) (i3 : IsPart u3 (some 2)) (q : ∀ p, H p = none → Q (.ref p) (upd H p (.lst (evens (xs.drop lo)))))
    {value slice : PySem.Expr} (hs : subscripted slice false (.ref a) (.ref s.heap.objs.size) = operate [.ref a, .ref s.heap.objs.size] (getItem (.ref a) (.ref s.heap.objs.size))) :
    wpAny (model X.prog X.w) X.A (subscriptTail value slice (.ref a) (.ref s.heap.objs.size)) (EP X pins σ Q) X.xe { heap := s.heap.push { cls := Value.type "slice", data := Data.fields #[u1, u2, u3] }, gens := s.gens, drawn := s.drawn, toks := s.toks, os := s.os } := by
  have I5 : L2.Inv X pins σ H { heap := s.heap.push { cls := Value.type "slice", data := Data.fields #[u1, u2, u3] }, gens := s.gens, drawn := s.drawn, toks := s.toks, os := s.os } := I.kept fun b o hb => Heap.get?_push_of_some _ hb
  obtain ⟨its, hv, ht, hz⟩ := I5.list hS
  refine tail_any ht.isList.typeIs slot_list_getitem.lookup (wpAny_getItem_list_slice ht.isList (Heap.IsSliceOf.new _ _ _ _) i1 i2 i3 (by simp) ?_ (by rw [List.size_toArray, ← hv.length]; exact hz)) hs
  rw [pick_evens its lo o ho]
  refine ⟨.ref _, _, I5.laid (o := .lst (evens (xs.drop lo))) (fun b u hb => Heap.get?_push_of_some _ hb) (Nat.le_refl _) ?_, rfl, q _ (I5.hok.fresh (Nat.le_refl _))⟩
  exact ⟨by rw [evens_len, List.length_drop]; omega, evens (its.drop lo), 0, vals_evens (hv.drop lo), Heap.get?_push_size _ rfl⟩
theorem pe_ev0 {j2 : Nat} (he : PE X e te) :
    PE X (.Subscript e (.Slice none none (some (.Constant (.int 2) j2 p2)) p4) pos) (tEvL X.K 0 te) := by
  refine ⟨fun pins s σ H Q I h => ?_⟩
  refine Subscript_ ?_
  refine thn (he.run pins s σ H _ I h) fun o s1 hh => ?_
  obtain ⟨x, H1, I1, rx, a, xs, rfl, hS, q⟩ := hh
  obtain rfl := rx
  refine wpAny_Slice ?_
  refine thn ((po_none (X := X)).run pins s1 σ H1 (fun o G' => o = none ∧ G' = H1) I1 ⟨rfl, rfl⟩) ?_
  rintro u s2 ⟨o, G, I2, ip, rfl, rfl⟩
  refine thn ((po_none (X := X)).run pins s2 σ G (fun o G' => o = none ∧ G' = G) I2 ⟨rfl, rfl⟩) ?_
  rintro u2 s3 ⟨o, G, I3, ip2, rfl, rfl⟩
  refine thn ((po_some (X := X) (pe_int (i := 2) (j := j2) (pos := p2))).run pins s3 σ G (fun o G' => o = some 2 ∧ G' = G) I3 ⟨2, rfl, rfl, rfl⟩) ?_
  rintro u3 s4 ⟨o, G, I4, ip3, rfl, rfl⟩
  exact ev_run I4 hS (.inl ⟨rfl, rfl⟩) ip ip2 ip3 q rfl
theorem pe_ev1 {j1 j2 : Nat} (he : PE X e te) :
    PE X (.Subscript e (.Slice (some (.Constant (.int 1) j1 p1)) none (some (.Constant (.int 2) j2 p2)) p4) pos) (tEvL X.K 1 te) := by
  refine ⟨fun pins s σ H Q I h => ?_⟩
  refine Subscript_ ?_
  refine thn (he.run pins s σ H _ I h) fun o s1 hh => ?_
  obtain ⟨x, H1, I1, rx, a, xs, rfl, hS, q⟩ := hh
  obtain rfl := rx
  refine wpAny_Slice ?_
  refine thn ((po_some (X := X) (pe_int (i := 1) (j := j1) (pos := p1))).run pins s1 σ H1 (fun o G' => o = some 1 ∧ G' = H1) I1 ⟨1, rfl, rfl, rfl⟩) ?_
  rintro u s2 ⟨o, G, I2, ip, rfl, rfl⟩
  refine thn ((po_none (X := X)).run pins s2 σ G (fun o G' => o = none ∧ G' = G) I2 ⟨rfl, rfl⟩) ?_
  rintro u2 s3 ⟨o, G, I3, ip2, rfl, rfl⟩
  refine thn ((po_some (X := X) (pe_int (i := 2) (j := j2) (pos := p2))).run pins s3 σ G (fun o G' => o = some 2 ∧ G' = G) I3 ⟨2, rfl, rfl, rfl⟩) ?_
  rintro u3 s4 ⟨o, G, I4, ip3, rfl, rfl⟩
  exact ev_run I4 hS (.inr rfl) ip ip2 ip3 q rfl
end
theorem x_evL {K : PySem.W.Frag} {lo : Nat} {te : TE} {σ : L2.St} {H : Hp} {Q : VK} (q : te σ H fun x H1 => ∃ a xs, x = .ref a ∧ SqL K H1 a xs ∧ ∀ p, H1 p = none → Q (.ref p) (upd H1 p (.lst (evens (xs.drop lo))))) : tEvL K lo te σ H Q := q
section
variable {X : Cx} {d : Addr} {es : Array DictEntry} {n : Nat} {K : PySem.W.Frag} {w : World}
/-- d[key], d a written dict of the module -/
theorem ix_kd (D : KDict K w d es n) (hK : X.K = K := by rfl) (hw : X.w = w := by rfl) : IxR X (fun x y H Q => ∃ (z : Str) (u0 : Value) (v0 : V), x = .ref d ∧ y = .str z ∧ PySem.W.nsIn K d z = some (some u0) ∧ RelV v0 u0 ∧ Q v0 H) := by
  subst hK hw
  intro value slice pins s σ H x y v u Q I rx ry h hs
  obtain ⟨z, u0, v0, rfl, rfl, e, r, q⟩ := h
  cases rx
  obtain ⟨t, rfl⟩ := ry
  exact tail_any (kd_type D I) slot_dict_getitem.lookup (wpAny_getItem_of (PySem.strKind_is X.prog X.w z t) (PySem.W.mapOf_K (prog := X.prog) I.kIn D.at_ D.lit) (PySem.W.find_K D.at_ e) ⟨v0, H, I.tok _, r, q⟩) hs
theorem op_notInKd (D : KDict K w d es n) (hK : X.K = K := by rfl) (hw : X.w = w := by rfl) : OpR X (compareOp .NotIn) (fun x y H Q => ∃ (z : Str) (r : Option Value), x = .str z ∧ y = .ref d ∧ PySem.W.nsIn K d z = some r ∧ Q (.bl (!r.isSome)) H) := by
  subst hK hw
  exact op_notIn_kd D
end
end Gs
namespace L2
open PySem PySem.Spec PyProof.Rows
/-! ### a tuple taken any number of times -/
theorem tuple_mul0 (l : Addr) (items : Array Value) (n : Nat) (dd : Option Addr) (sl : Array (Option Value)) (x : Int) (u : Tok) (c0 : (decide (x < -(2 ^ 63)) || decide (x ≥ 2 ^ 63)) = false) (c1 : (items.isEmpty || x == 1) = false) (c2 : (decide (x ≤ 0) || items.isEmpty) = true) :
    Meets (Builtin.«tuple.__mul__» ⟨[.ref l, .int x u], []⟩) (fun _ R s => s.heap.get? l = some { cls := .type "tuple", dict := dd, data := .seq items n, slots := sl } ∧
      R (.ok (.ret (Value.ref s.heap.objs.size))) { s with heap := s.heap.push { cls := Value.type "tuple", data := Data.seq #[] }, toks := s.toks }) :=
  .of_wp fun prog w A R s h => by
    obtain ⟨hp, g, d, tk, os⟩ := s
    obtain ⟨hl, h⟩ := h
    have f1 := AutoSeq1.idx_int
    wp_walk using wpAny_loadPart' hl
    repeat (first
      | (refine wpAny_ite_false (decide_eq_false (by rw [c0]; exact Bool.false_ne_true)) ?_; wp_walk using wpAny_loadPart' hl)
      | (refine wpAny_ite_false (decide_eq_false (by rw [c1]; exact Bool.false_ne_true)) ?_; wp_walk using wpAny_loadPart' hl)
      | (refine wpAny_ite_true (decide_eq_true c2) ?_; wp_walk using wpAny_loadPart' hl))
    exact ⟨_, rfl, h⟩
theorem tuple_mul1 (l : Addr) (items : Array Value) (n : Nat) (dd : Option Addr) (sl : Array (Option Value)) (x : Int) (u : Tok) (c0 : (decide (x < -(2 ^ 63)) || decide (x ≥ 2 ^ 63)) = false) (c1 : (items.isEmpty || x == 1) = true) :
    Meets (Builtin.«tuple.__mul__» ⟨[.ref l, .int x u], []⟩) (fun _ R s => s.heap.get? l = some { cls := .type "tuple", dict := dd, data := .seq items n, slots := sl } ∧ R (.ok (.ret (Value.ref l))) s) :=
  .of_wp fun prog w A R s h => by
    obtain ⟨hp, g, d, tk, os⟩ := s
    obtain ⟨hl, h⟩ := h
    have f1 := AutoSeq1.idx_int
    wp_walk using wpAny_loadPart' hl
    repeat (first
      | (refine wpAny_ite_false (decide_eq_false (by rw [c0]; exact Bool.false_ne_true)) ?_; wp_walk using wpAny_loadPart' hl)
      | (refine wpAny_ite_true (decide_eq_true c1) ?_; wp_walk using wpAny_loadPart' hl))
    exact ⟨_, rfl, h⟩
def rRepA (K : PySem.W.Frag) : R2 := fun x y H Q => ∃ l k xs, x = .ref l ∧ y = .int k ∧ SqT K H l xs ∧ xs ≠ [] ∧ 0 ≤ k ∧ k ≤ 1000 ∧ xs.length ≤ 1000 ∧ (k = 1 → Q (.ref l) H) ∧ (k ≠ 1 → ∀ p, H p = none → Q (.ref p) (upd H p (.tup (List.replicate k.toNat xs).flatten)))
theorem op_repA {X : Cx} : OpR X (binaryOp .Mult) (rRepA X.K) := by
  intro pins s σ H x y v u Q I rx ry h
  obtain ⟨l, k, xs, rfl, rfl, hT, hne, h1, h2, hz, q1, q⟩ := h
  by_cases hk : 2 ≤ k
  · exact op_repT pins s σ H _ _ v u Q I rx ry ⟨l, k, xs, rfl, rfl, hT, hne, hk, h2, hz, q (by omega)⟩
  cases rx
  obtain ⟨t, rfl⟩ := ry
  obtain ⟨its, r, ⟨⟨cls, dd, data, sl⟩, ho, hc, n, hd⟩, hs⟩ := I.tuple hT
  simp only at hc hd
  subst hc hd
  have hle : its.length = xs.length := r.length.symm
  have hn : its ≠ [] := fun e => hne (by
    rw [e] at hle
    exact List.eq_nil_of_length_eq_zero hle.symm)
  have hi : its.toArray.isEmpty = false := by
    cases its with
    | nil => exact absurd rfl hn
    | cons a b => rfl
  have c0 : (decide (k < -(2 ^ 63)) || decide (k ≥ 2 ^ 63)) = false := by
    rw [decide_eq_false (by omega), decide_eq_false (by omega)] <;> rfl
  by_cases k1 : k = 1
  · have c1 : (its.toArray.isEmpty || k == 1) = true := by
      rw [hi, Bool.false_or]
      exact beq_iff_eq.mpr k1
    refine wpAny_binaryOp_repeat_ref (T := "tuple") (U := "int") (by decide) ⟨_, ho, rfl⟩ (fun s' => typeIs_int s' k t) noFill_tuple_mul F.fills_int_mul F.slot_int_rmul repeat_tuple F.slot_int_index.lookup
      (call_meets F.slot_int_rmul (typeIs_int s k t) F.entry_int_rmul (F.args_int_rmul_2 _ _) (int_rmul_tuple k t l its.toArray n dd sl)
        ⟨ho, rfl, ⟨_, ho, rfl⟩, call_meets F.slot_tuple_mul ⟨_, ho, rfl⟩ F.entry_tuple_mul (F.args_tuple_mul_2 _ _) (tuple_mul1 l its.toArray n dd sl k t c0 c1) ⟨ho, ?_⟩⟩)
    exact ⟨.ref l, H, I, rfl, q1 k1⟩
  · have k0 : k = 0 := by omega
    have c1 : (its.toArray.isEmpty || k == 1) = false := by
      rw [hi, Bool.false_or]
      exact beq_eq_false_iff_ne.mpr k1
    have c2 : (decide (k ≤ 0) || its.toArray.isEmpty) = true := by
      rw [decide_eq_true (show k ≤ 0 by omega), Bool.true_or]
    refine wpAny_binaryOp_repeat_ref (T := "tuple") (U := "int") (by decide) ⟨_, ho, rfl⟩ (fun s' => typeIs_int s' k t) noFill_tuple_mul F.fills_int_mul F.slot_int_rmul repeat_tuple F.slot_int_index.lookup
      (call_meets F.slot_int_rmul (typeIs_int s k t) F.entry_int_rmul (F.args_int_rmul_2 _ _) (int_rmul_tuple k t l its.toArray n dd sl)
        ⟨ho, rfl, ⟨_, ho, rfl⟩, call_meets F.slot_tuple_mul ⟨_, ho, rfl⟩ F.entry_tuple_mul (F.args_tuple_mul_2 _ _) (tuple_mul0 l its.toArray n dd sl k t c0 c1 c2) ⟨ho, ?_⟩⟩)
    have q := q k1
    rw [k0] at q
    refine ⟨.ref s.heap.objs.size, _, I.laid (t' := s.toks) (o := .tup (List.replicate (0 : Int).toNat xs).flatten) (fun b ob q => Heap.get?_push_of_some _ q) (Nat.le_refl _) ?_, rfl, q _ (I.hok.fresh (Nat.le_refl _))⟩
    exact ⟨by simp, [], .nil, IsTup.new _ _⟩
end L2
namespace Gs
open PySem PySem.Spec PyProof.Rows L2
/-! ### an exception out of a comprehension's element -/
/-- an exception that flies in a block -/
def XB (b : Cx) (W : XK) (u : Value) (s' : Shared) : Prop :=
  ∃ (a : Addr) (B : Heap) (sI : Shared) (pins : List (Addr × Obj)) (σ : L2.St) (H : Hp) (cls : Value) (d : Option Addr),
    u = .ref a ∧ Inv b pins σ H sI ∧ (∀ c o, sI.heap.get? c = some o → c ∉ frs b.stack → B.get? c = some o) ∧ sI.heap.UpToSlots s'.heap ∧
      HandSPX.FlyingZ B b.stack a (L2N.Zn cls d) s'.heap ∧ H a = none ∧ s'.os = sI.os ∧ AllBare s'.gens ∧ W cls d H
abbrev blkE (X : Cx) (s : Shared) (H : Hp) (scope : Scope) (cenv : Env) (fp : List Addr) (W : XK) : Cx := { X.blk s H scope cenv fp with xe := XB (X.blk s H scope cenv fp) W }
section
variable {X : Cx} {E : Value → Shared → Prop} {pins : List (Addr × Obj)} {σ : L2.St} {H : Hp} {s s' : Shared}
theorem inv_xe (I : Inv X pins σ H s) (E : Value → Shared → Prop) : Inv { X with xe := E } pins σ H s :=
  ⟨⟨I.ok.mod, I.ok.kind, I.ok.glob, I.ok.blt, I.ok.above, I.ok.inj, I.ok.has, I.ok.cab, I.ok.hd, I.ok.frames, I.ok.stk, I.ok.exf, I.ok.bs, I.ok.bsz, I.ok.noex, I.ok.exfs, I.ok.funs, I.ok.frf⟩, I.os, I.bare, I.base, I.loc, I.cell, I.free, I.freeC, I.pin, I.hok, I.len⟩
theorem inv_ex {b : Cx} {E : Value → Shared → Prop} (I : Inv { b with xe := E } pins σ H s) : Inv b pins σ H s :=
  ⟨⟨I.ok.mod, I.ok.kind, I.ok.glob, I.ok.blt, I.ok.above, I.ok.inj, I.ok.has, I.ok.cab, I.ok.hd, I.ok.frames, I.ok.stk, I.ok.exf, I.ok.bs, I.ok.bsz, I.ok.noex, I.ok.exfs, I.ok.funs, I.ok.frf⟩, I.os, I.bare, I.base, I.loc, I.cell, I.free, I.freeC, I.pin, I.hok, I.len⟩
/-- a call's exception flies in the block -/
theorem XB.of_call {W : XK} (I : Inv X pins σ H s) {u : Value} (c : L2N.CX X.prog X.w X.stack H s W u s') : XB X W u s' := by
  obtain ⟨a, B, H', cls, d, rfl, fl, hok, ub, na, os, ag, hE⟩ := c
  obtain ⟨G, g1, g2⟩ := restrict s'.heap fun b => (B.get? b).isSome || decide (b ∈ frs X.stack)
  have st : B.StaysIn s'.heap := fl.1
  have gB : ∀ b o, B.get? b = some o → G.get? b = some o := fun b o e => by
    rw [g1 b (by simp [e])]
    exact st b o e
  have gF : ∀ b, b ∈ frs X.stack → G.get? b = s'.heap.get? b := fun b hb => g1 b (by simp [hb])
  have og : ∀ b o, G.get? b = some o → s'.heap.get? b = some o ∧ ((B.get? b).isSome = true ∨ b ∈ frs X.stack) := fun b o e => by
    cases q : ((B.get? b).isSome || decide (b ∈ frs X.stack)) with
    | false => rw [g2 b q] at e; cases e
    | true =>
      rw [g1 b q] at e
      exact ⟨e, by simpa [Bool.or_eq_true] using q⟩
  refine ⟨a, B, { s with heap := G, gens := s'.gens, drawn := s'.drawn, toks := s'.toks }, pins, σ, H', cls, d, rfl, ?_, fun b o e hb => ?_, Heap.UpToSlots.of_keeps fun b o e => (og b o e).1, fl, na, os, ag, hE⟩
  · refine I.call (ch := []) ⟨fun b o e n hb _ => gB b o (ub.keep b o e n hb), fun b o e n hb _ => ?_, fun b o e n _ => ub.free b o e n, fun b o e _ => ?_, ub.tups, ub.frzs, ub.tbls⟩ (hok.kept gB) ag (fun _ z => nomatch z)
    · obtain ⟨sl, q⟩ := ub.slot b o e hb
      exact ⟨sl, by rw [gF b hb]; exact q⟩
    · by_cases hb : b ∈ frs X.stack
      · obtain ⟨sl, q⟩ := ub.slot b o e hb
        exact ⟨_, by rw [gF b hb]; exact q⟩
      · obtain ⟨o', q⟩ := ub.there b o e hb
        exact ⟨o', gB b o' q⟩
  · obtain ⟨e', h⟩ := og b o e
    rcases h with h | h
    · obtain ⟨o', q⟩ := Option.isSome_iff_exists.mp h
      have z := st b o' q
      rw [e'] at z; cases z
      exact q
    · exact absurd h hb
end
/-- a call of an own def that may raise, in a comprehension's element -/
theorem pe_callEB {X : Cx} {s : Shared} {H : Hp} {scope : Scope} {cenv : Env} {fp : List Addr} {x : Str} {p pos : Pos} {e : PySem.Expr} {es : List PySem.Expr} {t : TA} {k j : Nat} {ps : List Str} {sp : Sp} {W : XK} (C : HasEN X.prog X.w X.K X.mg X.base k x ps sp) (hr : Room j X.A)
    (ha : PA (blkE X s H scope cenv fp W) (e :: es) t) (hk : k ≤ j := by decide) (hg : Gl (blkE X s H scope cenv fp W) x := by rfl) (hdb : (x == ("__debug__" : Str)) = false := by decide)
    (he : starEach (e :: es) cenv = (false, eval e cenv) :: starEach es cenv := by rfl) (hpl : (backTo pos (starEach es cenv)).any (·.1) = false := by rfl) :
    PE (blkE X s H scope cenv fp W) (.Call (.Name x p) (e :: es) [] pos) (tCallS sp (fun _ => W) t) := by
  obtain ⟨f, fd, F, b, kp, m⟩ := C.ex
  exact pe_callS (X := blkE X s H scope cenv fp W) F (hr.mono hk) hg m kp b (fun _ _ _ _ _ _ I c => XB.of_call (inv_ex I) c) ha hdb he hpl
section
variable {M : Model} {A : Around} {B B' h h' : Heap} {l : List Env} {e C L : Addr} {Z : Obj → Prop} {fl : Value} {mc : Str → Option Value}
theorem traced_but (x : HandSPX.TracedZ h B e Z fl) (hb : ∀ b, B.get? b = none → B'.get? b = none) (hn : h.Ns C mc) (k : ∀ b, b ≠ C → h'.get? b = h.get? b) : HandSPX.TracedZ h' B' e Z fl := by
  obtain ⟨oe, vs, T, oT, ts, he, hc, hd, h1, hnT, hTe, hT, hdT, h3⟩ := x
  obtain ⟨oL, es, ep, hoL, hdL, _⟩ := hn
  have neE : e ≠ C := fun q => by
    rw [q, hoL] at he
    have z := Option.some.inj he
    rw [← z, hdL] at hd
    cases hd
  have neT : T ≠ C := fun q => by
    rw [q, hoL] at hT
    have z := Option.some.inj hT
    rw [← z, hdL] at hdT
    cases hdT
  exact ⟨oe, vs, T, oT, ts, (k e neE).trans he, hc, hd, h1, hb _ hnT, hTe, (k T neT).trans hT, hdT, h3⟩
end
section
variable {X : Cx}
theorem lc_coreE {pins : List (Addr × Obj)} {s : Shared} {σ : L2.St} {H : Hp} {Q : VK} {elt tg iter : PySem.Expr} {ifs : List PySem.Expr} {scope : Scope} {own : List (Str × Nat)} {pos pos' : Pos} {wi : TI} {g : TG} {tt : TT} {te : TE} {use : Option (Value → Sem Unit)} {Qf : Value → Shared → Prop} {W : XK}
    (hc : X.calm = true) (hN : X.N.Nodup) (hst : X.stack = X.env :: X.outer) (hfr : X.env.frame = some X.env.locals) (tk : L2N.Takes X (fun c d _ H => W c d H)) (I : Inv X pins σ H s) (hi : PI X tg iter wi) (ok : BlkOk X.N X.env.scope scope own)
    (hg : ∀ (s : Shared) (H : Hp) (C : Addr) (cl : List (Str × Addr)) (fp : List Addr), PG (blkE X s H scope (compEnvC scope cl C X.env) fp W) tg g) (ht : ∀ (s : Shared) (H : Hp) (C : Addr) (cl : List (Str × Addr)) (fp : List Addr), PTs (blkE X s H scope (compEnvC scope cl C X.env) fp W) ifs tt)
    (he : ∀ (s : Shared) (H : Hp) (C : Addr) (cl : List (Str × Addr)) (fp : List Addr), PE (blkE X s H scope (compEnvC scope cl C X.env) fp W) elt te) (hs : ∀ x, foldedSetIterable iter X.env x = pure x)
    (h : tLc wi g tt te (own.map (·.2)) σ H Q)
    (hRR : ∀ (D : Addr) (ce : Env) s' m H', Inv X pins σ H' s' → Q (.ref D) H' → s'.heap.Ns ce.locals m → FpOk X pins H' ce.locals → compEnds (model X.prog X.w) X.A X.xe use Qf (.ref D) ce (.ok .next) s') :
    wpAny (model X.prog X.w) X.A (comprehension (.ListComp elt [⟨tg, iter, ifs, 0⟩] scope pos) scope X.env pos' (newList []) false (eval iter X.env) use) Qf X.xe s := by
  have hfree : ∀ y ∈ scope.names, y.2 = .free → ∃ c, X.env.cells.lookup y.1 = some c := fun y hy e => by
    rcases ok.free y hy e with k | k
    · exact I.ok.has _ (.inl k)
    · exact I.ok.has _ (.inr k)
  refine comprehension_at (use := use) rfl hs (closure_ok hfree) ok.kind (fun y hy e => by rw [ok.uniq y hy, e])
    (thn (hi.run pins s σ H _ I h) fun xv s1 hx => thn hx fun itv s2 h2 => ?_)
  obtain ⟨it, fp, tn, J, H2, e, I2, T, st2, f2, q⟩ := h2
  subst e
  refine wpAny_newObj_type (newEnv_comp ?_) (by show 0 ≤ sizeLine; decide)
  generalize hD : s2.heap.objs.size = D
  have hDn : H2 D = none := I2.hok.fresh (Nat.le_of_eq hD)
  obtain ⟨Wt, ⟨m0, w0⟩, turn⟩ := q D hDn
  generalize hs3 : ({ s2 with heap := s2.heap.push { cls := .type "list", data := .seq ([] : List Value).toArray } } : Shared) = s3
  have I3 : Inv X pins σ (upd H2 D (.lst [])) s3 := by
    rw [← hs3]
    refine I2.laid (t' := s2.toks) (fun b o e => Heap.get?_push_of_some _ e) (Nat.le_of_eq hD) ⟨Nat.zero_le _, [], 0, .nil, ?_⟩
    rw [← hD]
    exact Heap.get?_push_size _ rfl
  have h3 : s3.heap = s2.heap.push { cls := .type "list", data := .seq ([] : List Value).toArray } := by rw [← hs3]
  have sz : ∀ b ∈ fp, b < s2.heap.objs.size := fun b hb => by
    obtain ⟨o, e, _⟩ := T.obj _ _ st2 b hb
    exact Heap.lt_size e
  have f3 : ∀ b ∈ fp, FpOk X pins (upd H2 D (.lst [])) b ∧ b < s3.heap.objs.size := fun b hb => by
    have hlt := sz b hb
    refine ⟨⟨?_, (f2 b hb).2⟩, by rw [h3, Heap.size_push]; exact Nat.lt_succ_of_lt hlt⟩
    rw [upd_ne (by rw [← hD]; exact Nat.ne_of_lt hlt)]
    exact (f2 b hb).1
  have st3 : tn 0 s3.heap := T.keep _ _ _ st2 fun b _ o e => by rw [h3]; exact Heap.get?_push_of_some _ e
  have I4 := inv_xe (block_start I3 ok hN f3) (XB (X.blk s3 (upd H2 D (.lst [])) scope (compEnvC scope (cellsFrom (s3.heap.objs.size + 1) scope.names (cloFrom X.env.cells scope.names [])) s3.heap.objs.size X.env) fp) W)
  have pg := hg s3 (upd H2 D (.lst [])) s3.heap.objs.size (cellsFrom (s3.heap.objs.size + 1) scope.names (cloFrom X.env.cells scope.names [])) fp
  have pt := ht s3 (upd H2 D (.lst [])) s3.heap.objs.size (cellsFrom (s3.heap.objs.size + 1) scope.names (cloFrom X.env.cells scope.names [])) fp
  have pe := he s3 (upd H2 D (.lst [])) s3.heap.objs.size (cellsFrom (s3.heap.objs.size + 1) scope.names (cloFrom X.env.cells scope.names [])) fp
  show codeAny _ _ (.compStart (.ListComp elt [⟨tg, iter, ifs, 0⟩] scope pos) 0 (.ref it) (.ref D) (compEnvC scope (cellsFrom (s3.heap.objs.size + 1) scope.names (cloFrom X.env.cells scope.names [])) s3.heap.objs.size X.env)) (compEnds (model X.prog X.w) X.A X.xe use Qf (.ref D) (compEnvC scope (cellsFrom (s3.heap.objs.size + 1) scope.names (cloFrom X.env.cells scope.names [])) s3.heap.objs.size X.env)) { s3 with heap := pushCells (s3.heap.push { cls := .type "dict", data := .dict #[] }) scope.names }
  have nfp : ∀ b ∈ fp, (upd H2 D (.lst [])) b = none := fun b hb => (f3 b hb).1.1
  generalize hce : compEnvC scope (cellsFrom (s3.heap.objs.size + 1) scope.names (cloFrom X.env.cells scope.names [])) s3.heap.objs.size X.env = ce at I4 pg pt pe ⊢
  have cL : ce.locals = s3.heap.objs.size := by subst hce; rfl
  have cF : ce.frame = X.env.frame := by subst hce; rfl
  generalize hH3 : upd H2 D (.lst []) = H3 at I3 I4 pg pt pe w0 nfp f3
  generalize hs4 : ({ s3 with heap := pushCells (s3.heap.push { cls := .type "dict", data := .dict #[] }) scope.names } : Shared) = s4 at I4 ⊢
  have st4 : tn 0 s4.heap := T.keep _ _ _ st3 fun b _ o e => by rw [← hs4]; exact pushCells_keeps _ _ _ _ (Heap.get?_push_of_some _ e)
  have stat : ∀ {σ' : L2.St} {H' : Hp} {s' : Shared}, Inv (blkE X s3 H3 scope ce fp W) [] σ' H' s' → (∀ b ∈ fp, H' b = none) → ∀ b ∈ fp, FpOk (blkE X s3 H3 scope ce fp W) [] H' b := fun {σ' H' s'} I' hn b hb =>
    ⟨hn b hb, (I'.ok.exf b hb).1, I'.ok.exfs b hb, .inl hb, fun x c e => (I'.ok.exf b hb).2 x c e, fun p hp => absurd (show p ∈ ([] : List (Addr × Obj)) ++ [] from hp) (by simp)⟩
  -- back in the def's context
  have back : ∀ {pins' : List (Addr × Obj)} {σ' : L2.St} {H' : Hp} {s' : Shared}, Inv (X.blk s3 H3 scope ce fp) pins' σ' H' s' → Inv X pins σ H' s' ∧ FpOk X pins H' ce.locals ∧ ∃ m, s'.heap.Ns ce.locals m := fun {pins' σ' H' s'} I' => by
    have I7 : Inv X pins σ H' s' := I3.call' (ch := fp) I'.os I'.base I'.hok I'.bare fun b hb => ⟨(f3 b hb).1.2.2.2.1, (f3 b hb).1.2.1, (f3 b hb).1.2.2.2.2.1, (f3 b hb).1.2.2.2.2.2⟩
    have nC : H' ce.locals = none := I'.free
    obtain ⟨m, hn, _⟩ := I'.loc
    rw [cL] at nC
    exact ⟨I7, by rw [cL]; exact I3.fpOk (Nat.le_refl _) nC, m, hn⟩
  have hand : ∀ u s', XB (X.blk s3 H3 scope ce fp) W u s' → notedBy (model X.prog X.w) X.A ce (fun e s' => compEnds (model X.prog X.w) X.A X.xe use Qf (.ref D) ce (.error e) s') u s' := by
    rintro u s' ⟨a, B, sI, pins', σ', H', cls, d, rfl, Ib, nb, up, fl, na, os, ag, wW⟩
    obtain ⟨IX, fC, mI, hnI⟩ := back Ib
    have hA : X.A.frames = some (X.env :: X.outer) := by rw [I3.ok.frames, hst]
    have fl : HandSPX.FlyingZ B (X.env :: X.outer) a (L2N.Zn cls d) s'.heap := by rw [← hst]; exact fl
    show wpAny _ _ (noteFrame (.ref a) ce) _ _ _
    rw [noteFrame_env _ cF]
    refine PXN.looks_onZ L2N.Zn.steady hA hfr fl fun h1 hH up1 => ?_
    have fails : CompFails (model X.prog X.w) X.A X.xe ce (.ref a) { s' with heap := h1 } := by
      have hn1 : h1.Ns ce.locals mI := up1.ns (up.ns hnI)
      refine ⟨mI, hn1, fun h2 m2 hn2 sb => ?_⟩
      obtain ⟨b1, b0, b2, b3⟩ := hH
      have nstk : ce.locals ∉ frs X.stack := fun hm => by
        obtain ⟨_, o₀, e₀, _⟩ := Ib.ok.funs.mem hm
        have := Heap.lt_size e₀
        have h := Ib.ok.above
        exact absurd (Nat.lt_of_lt_of_le this h) (Nat.lt_irrefl _)
      obtain ⟨G, g1, g2⟩ : ∃ G : Heap, (∀ b o, b ≠ ce.locals → sI.heap.get? b = some o → G.get? b = some o) ∧ ∀ b o, G.get? b = some o → b ≠ ce.locals ∧ sI.heap.get? b = some o :=
        ⟨PySem.W.hideAll sI.heap [ce.locals], fun b o n e => PySem.W.hideAll_get _ e (by simpa using n), fun b o e => ⟨fun z => (by
          rw [z, PySem.W.hideAll_none _ (List.mem_singleton.mpr rfl)] at e
          exact absurd e (by simp)), PySem.W.of_hideAll _ e⟩⟩
      obtain ⟨B', c1, c2⟩ : ∃ B' : Heap, (∀ b o, b ≠ ce.locals → B.get? b = some o → B'.get? b = some o) ∧ ∀ b o, B'.get? b = some o → b ≠ ce.locals ∧ B.get? b = some o :=
        ⟨PySem.W.hideAll B [ce.locals], fun b o n e => PySem.W.hideAll_get _ e (by simpa using n), fun b o e => ⟨fun z => (by
          rw [z, PySem.W.hideAll_none _ (List.mem_singleton.mpr rfl)] at e
          exact absurd e (by simp)), PySem.W.of_hideAll _ e⟩⟩
      have c3 : ∀ b, B.get? b = none → B'.get? b = none := fun b e => by
        cases q : B'.get? b with
        | none => rfl
        | some o =>
          rw [(c2 b o q).2] at e
          cases e
      obtain ⟨f0, f1, f2', f4, f5, f6⟩ := fC
      have IX' : Inv X pins σ H' { sI with heap := G } := IX.turned (t' := sI.toks) (fun b o hb e => g1 b o hb e) f0 f1 f4 f5 f6
      have held : HandSPX.HeldZ B' (X.env :: X.outer) a (L2N.Zn cls d) X.env.locals h2 := by
        refine ⟨fun b o e => (sb.2 b (c2 b o e).1).trans (b1 b o (c2 b o e).2), c3 a b0, ?_, traced_but b3 c3 hn1 sb.2⟩
        refine funFrames_none (Heap.FunFrames.sameBut sb hn2 b2) fun L hL => c3 L ?_
        exact (b2.mem hL).1
      have upG : G.UpToSlots h2 := fun b o e nf => by
        obtain ⟨n, e2⟩ := g2 b o e
        obtain ⟨sl, e3⟩ := (up.trans up1) b o e2 nf
        exact ⟨sl, (sb.2 b n).trans e3⟩
      have h1' : ∃ oe vs, h2.get? a = some oe ∧ oe.data = .fields vs ∧ ∃ T, vs[1]? = some (.ref T) := by
        obtain ⟨_, _, _, oe, vs, T, _, _, q1, _, q3, q4, _⟩ := held
        exact ⟨oe, vs, q1, q3, T, q4⟩
      obtain ⟨oe, vs, q1, q2, T', q3⟩ := h1'
      unfold PySem.passOn
      refine wpAny_bind (wpAny_field q1 q2 q3 ?_)
      rw [if_neg (show ¬ ((Value.ref T' == Value.none) = true) from by simp)]
      refine wpAny_bind ?_
      rw [cF, hfr]
      refine HandSPX.setFlight_onZ (s := { { s' with heap := h1 } with heap := h2 }) held fun h3' hh up3 => ?_
      refine wpAny_throw ?_
      refine tk _ _ ⟨a, B', { sI with heap := G }, pins, σ, H', cls, d, rfl, IX', fun b o e hb => ?_, upG.trans up3, .inr (.inr ?_), na, os, ag, wW⟩
      · obtain ⟨n, e2⟩ := g2 b o e
        exact c1 b o n (nb b o e2 hb)
      · rw [hst]
        exact hh
    cases use <;> exact fails
  have thnB : ∀ {α : Type} {t : Sem α} {Q Q' : α → Shared → Prop} {s : Shared}, wpAny (model X.prog X.w) X.A t Q (XB (X.blk s3 H3 scope ce fp) W) s → (∀ a s, Q a s → Q' a s) → wpAny (model X.prog X.w) X.A t Q' (notedBy (model X.prog X.w) X.A ce fun e s' => compEnds (model X.prog X.w) X.A X.xe use Qf (.ref D) ce (.error e) s') s := fun h hQ => wpAny_mono h hQ hand
  have loop : codeAny (model X.prog X.w) X.A (.compLoop (.ListComp elt [⟨tg, iter, ifs, 0⟩] scope pos) 0 (.ref it) (.ref D) ce) (compEnds (model X.prog X.w) X.A X.xe use Qf (.ref D) ce) s4 := by
    refine compLoop_any (fun n s' => ∃ i H', Inv (blkE X s3 H3 scope ce fp W) [] (wipe σ (own.map (·.2))) H' s' ∧ tn i s'.heap ∧ (∀ b ∈ fp, H' b = none) ∧ Wt i n H') ?_ m0 ⟨0, H3, I4, st4, nfp, w0⟩
    rintro n s5 ⟨i, H5, I5, st5, n5, w5⟩
    rcases turn i n H5 w5 with ⟨stop, qq⟩ | ⟨go, Nx, hNx, step⟩
    · have td := T.done (blkE X s3 H3 scope ce fp W) rfl rfl rfl hc i [] s5 _ H5 (fun _ _ => False) I5 (stat I5 n5) st5 stop
      refine thnF td fun r s6 ⟨hr, I6⟩ => ?_
      subst hr
      obtain ⟨I7, fC, m, hn⟩ := back (inv_ex I6)
      exact hRR D ce s6 m H5 I7 qq hn fC
    · have ti := T.item (blkE X s3 H3 scope ce fp W) rfl rfl rfl hc i [] s5 _ H5 (fun _ _ => False) I5 (stat I5 n5) st5 go
      refine thnF ti fun r s6 ⟨u, hr, h6⟩ => ?_
      subst hr
      refine thnF h6 fun _ s7 ⟨x, H7, I7, r7, y7, st7, n7⟩ => ?_
      have I7' := I7.pinned (stat I7 n7) (T.obj _ _ st7)
      refine thnB (pg.run _ s7 _ H7 x u _ I7' r7 (step x H7 y7)) fun _ s8 ⟨σ8, H8, I8, hw8, q8⟩ => ?_
      refine thnB (pt.run _ s8 σ8 H8 _ I8 q8) fun b s9 ⟨H9, I9, q9⟩ => ?_
      have fin : ∀ {s' : Shared} {H' : Hp}, Inv (blkE X s3 H3 scope ce fp W) ([] ++ pinsAt fp s7.heap) σ8 H' s' → Nx H' → ∃ m, m < n ∧ ∃ i H', Inv (blkE X s3 H3 scope ce fp W) [] (wipe σ (own.map (·.2))) H' s' ∧ tn i s'.heap ∧ (∀ b ∈ fp, H' b = none) ∧ Wt i m H' := fun {s' H'} I' nx => by
        obtain ⟨m', hm, w'⟩ := hNx H' nx
        have pin' : ∀ b ∈ fp, ∀ o, s7.heap.get? b = some o → s'.heap.get? b = some o ∧ H' b = none := fun b hb o e =>
          let z := I'.pin (b, o) (List.mem_append_right _ (List.mem_append_right _ (mem_pinsAt hb e)))
          ⟨z.1, z.2.1⟩
        have hl : (wipe σ (own.map (·.2))).length = σ8.length := by rw [← hw8, wipe_length]
        refine ⟨m', hm, i + 1, H', (I'.unpinned (pins := [])).weak hl (fun j v e => ?_), T.keep _ _ _ st7 fun b hb o e => (pin' b hb o e).1, fun b hb => ?_, w'⟩
        · rw [← hw8] at e
          exact (wipe_some e).1
        · obtain ⟨o, e, _⟩ := T.obj _ _ st7 b hb
          exact (pin' b hb o e).2
      cases b with
      | false =>
        simp only [Bool.false_eq_true, if_false] at q9 ⊢
        exact fin I9 q9
      | true =>
        simp only [if_true] at q9 ⊢
        refine thnB (pe.run _ s9 σ8 H9 _ I9 q9) fun z s10 ⟨yv, H10, I10, r10, acc, hD10, hz10, nx⟩ => ?_
        exact app_ok (X := blkE X s3 H3 scope ce fp W) I10 hD10 hz10 r10 fun s11 I11 => fin I11 nx
  exact codeAny_compStart_list loop (T.self X.A 0 _ _ _ st4 loop)
/-- name = [..] on one line, the name a local, the element may raise -/
theorem ps_setLcE {i : Nat} {y : Str} {py : Pos} {elt tg iter : PySem.Expr} {ifs : List PySem.Expr} {scope : Scope} {own : List (Str × Nat)} {pos spos : Pos} {wi : TI} {g : TG} {tt : TT} {te : TE} {W : XK} (hc : X.calm = true) (hN : X.N.Nodup) (hst : X.stack = X.env :: X.outer) (hfr : X.env.frame = some X.env.locals) (tk : L2N.Takes X (fun c d _ H => W c d H)) (hy : X.N[i]? = some y) (hyl : X.env.scope.names.lookup y = some .local)
    (hsw : swapsWith (.ListComp elt [⟨tg, iter, ifs, 0⟩] scope pos) (some (.Name y py)) spos.line X.env = pure true) (hi : PI X tg iter wi) (ok : BlkOk X.N X.env.scope scope own)
    (hg : ∀ (s : Shared) (H : Hp) (C : Addr) (cl : List (Str × Addr)) (fp : List Addr), PG (blkE X s H scope (compEnvC scope cl C X.env) fp W) tg g) (ht : ∀ (s : Shared) (H : Hp) (C : Addr) (cl : List (Str × Addr)) (fp : List Addr), PTs (blkE X s H scope (compEnvC scope cl C X.env) fp W) ifs tt)
    (he : ∀ (s : Shared) (H : Hp) (C : Addr) (cl : List (Str × Addr)) (fp : List Addr), PE (blkE X s H scope (compEnvC scope cl C X.env) fp W) elt te) (hs : ∀ x, foldedSetIterable iter X.env x = pure x := by intro _; rfl) :
    PS X (.Assign [.Name y py] (.ListComp elt [⟨tg, iter, ifs, 0⟩] scope pos) spos) (tAsg (tLc wi g tt te (own.map (·.2))) (gName i)) := by
  refine ⟨fun pins s σ H D I h => ?_⟩
  rw [exec_Assign_Name_used _ _ _ _ hsw]
  refine wpAny_bind (wpAny_standAt (wpAny_bind ?_))
  show wpAny _ X.A (do let _ ← comprehension (.ListComp elt [⟨tg, iter, ifs, 0⟩] scope pos) scope X.env (firstIterPos [⟨tg, iter, ifs, 0⟩] pos) (newList []) false (eval iter X.env) (some (assign (.Name y py) X.env))) _ _ s
  have h : tLc wi g tt te (own.map (·.2)) σ H (fun x H1 => gName i x σ H1 D.nx) := h
  refine wpAny_bind (thn (lc_coreE (Qf := fun _ s' => SP X pins D .next s') hc hN hst hfr tk I hi ok hg ht he hs h fun L ce s' m H' I' q hn f => ?_) fun _ s' hq => wpAny_pure (wpAny_pure hq))
  show wpAny _ _ (assign (.Name y py) X.env (.ref L)) _ _ _
  refine wpAny_assign_Name (store_ok2 (v := V.ref L) I' hN hy (.inl hyl) rfl (fun s2 I2 ⟨a, sb, ha⟩ => ?_) (.inr hyl))
  obtain ⟨f0, f1, f2, f3, f4, f5⟩ := f
  have haC : ce.locals ≠ a := by
    rcases ha with z | z
    · rw [z]; exact f1
    · exact fun e => f4 y a z e.symm
  refine ⟨m, hn.sameBut sb haC, fun h3 sb3 => ?_⟩
  exact ⟨_, H', I2.turned (t' := s2.toks) (fun b o hb e => (sb3.2 b hb).trans e) f0 f1 f3 f4 f5, q⟩
end
end Gs
namespace Gs
open PySem PySem.Spec PyProof.Rows L2
abbrev s_law_pool : Stmt := PySem.Challenge.pw_goalstead_k21_sizes_as_read.main.body.getD 90 (.Pass ⟨0, 0, 0, 0⟩)
theorem sc_law_pool : FnScope ["script", "k"] ["script", "k"] (defScope s_law_pool) := ⟨rfl, rfl, rfl, by decide +kernel, rfl, by decide +kernel, by decide +kernel⟩
abbrev s_law_mixed : Stmt := PySem.Challenge.pw_goalstead_k21_sizes_as_read.main.body.getD 91 (.Pass ⟨0, 0, 0, 0⟩)
theorem sc_law_mixed : FnScope ["pool", "turn", "number"] ["pool", "turn"] (defScope s_law_mixed) := ⟨rfl, rfl, rfl, by decide +kernel, rfl, by decide +kernel, by decide +kernel⟩
abbrev s_law_take : Stmt := PySem.Challenge.pw_goalstead_k21_sizes_as_read.main.body.getD 92 (.Pass ⟨0, 0, 0, 0⟩)
theorem sc_law_take : FnScope ["pool", "many", "digit", "number", "turn"] ["pool", "many"] (defScope s_law_take) := ⟨rfl, rfl, rfl, by decide +kernel, rfl, by decide +kernel, by decide +kernel⟩
structure Txt (mg : Str → Option Value) : Prop where
  z_all : mg "all" = none
  z_bool : mg "bool" = none
  z_enumerate : mg "enumerate" = none
  z_int : mg "int" = none
  z_isinstance : mg "isinstance" = none
  z_len : mg "len" = none
  z_list : mg "list" = none
  z_max : mg "max" = none
  z_min : mg "min" = none
  z_range : mg "range" = none
  z_set : mg "set" = none
  z_str : mg "str" = none
  z_sum : mg "sum" = none
  z_tuple : mg "tuple" = none
  c_BRACKETS : ∃ t, mg "BRACKETS" = some (.int 12 t)
  c_CAPITALS : ∃ t, mg "CAPITALS" = some (.str "ABCDEFGHIJKLMNOPQRSTUVWXYZ" t)
  c_DEEP : ∃ t, mg "DEEP" = some (.int 12 t)
  c_DIGITS : ∃ t, mg "DIGITS" = some (.str "0123456789" t)
  c_FIGURES : ∃ t, mg "FIGURES" = some (.int 60 t)
  c_GOALS : ∃ t, mg "GOALS" = some (.int 6 t)
  c_LEVELS : ∃ t, mg "LEVELS" = some (.int 9 t)
  c_MARKS : ∃ t, mg "MARKS" = some (.str "+-*/<>=&!?^@#:|.$" t)
  c_MARK_SIGNS : ∃ t, mg "MARK_SIGNS" = some (.int 3 t)
  c_OPERATORS : ∃ t, mg "OPERATORS" = some (.int 12 t)
  c_PARTS : ∃ t, mg "PARTS" = some (.int 4 t)
  c_PIECES : ∃ t, mg "PIECES" = some (.int 200 t)
  c_RANGES : ∃ t, mg "RANGES" = some (.int 3 t)
  c_SIZE : ∃ t, mg "SIZE" = some (.int 60 t)
  c_SMALLS : ∃ t, mg "SMALLS" = some (.str "abcdefghijklmnopqrstuvwxyz" t)
  c_TESTS : ∃ t, mg "TESTS" = some (.int 4 t)
  c_WORD_SIGNS : ∃ t, mg "WORD_SIGNS" = some (.int 12 t)
section
variable {P : Program} {w : World} {K : PySem.W.Frag} {mg : Str → Option Value} {base : Heap} {f : Addr} {fd : FuncData}
theorem ok_law_mixed (F : Fun K "_law_mixed" "_law_mixed" s_law_mixed f fd) : FnOk P w K mg base CX0 1 f fd ["pool", "turn"] (spMixed K) := by
  refine F.ok sc_law_mixed (fun vs H Q E h => ?_) (fun cdv A outer s H vs Q E hr h => ?_)
  · obtain ⟨p, l, c, t, rfl, _⟩ := h
    rfl
  obtain ⟨p, l, c, t, rfl, ⟨a, n, s, ns, hp, hl, h1, h2, h3, h4, h5, h6⟩, hc, ht, ht2, q⟩ := h
  have hS : SqL K H p [.ref l, .int a, .int n, .int s] := .of hp
  refine ⟨_, (pss_cons (ps_set (i := 2) sc_law_mixed.nd rfl (Or.inl rfl) (pe_op op_modN (pe_op op_pow (pe_op op_add (pe_op op_add (pe_ix (ix_listK (K := K)) (pv 0) pe_int (fun _ _ => rfl)) (pe_op op_mulW pe_int (pe_op op_add (pe_op op_mulW pe_int (pe_ix (ix_listK (K := K)) (pv 0) pe_int (fun _ _ => rfl))) (pv 1)))) pe_int) pe_int) pe_int))
    (pss_one (ps_ret (pe_op op_fdivW (pe_op op_modN (pe_op op_mulW (pe_op op_add (pv 2) (pe_ix (ix_listK (K := K)) (pv 0) pe_int (fun _ _ => rfl))) pe_int) pe_int) pe_int)))), ?_⟩
  walk_at "sx"
  exact q _ (by omega) (by omega)
def HasMixed (P : Program) (w : World) (K : PySem.W.Frag) (mg : Str → Option Value) (base : Heap) : Prop := Has P w K mg base 1 "_law_mixed" ["pool", "turn"] (spMixed K)
theorem ok_law_take (F : Fun K "_law_take" "_law_take" s_law_take f fd) (T : Txt mg) (C_law_mixed : HasMixed P w K mg base) : FnOk P w K mg base CX0 2 f fd ["pool", "many"] (spTake K) := by
  refine F.ok sc_law_take (fun vs H Q E h => ?_) (fun cdv A outer s H vs Q E hr h => ?_)
  · obtain ⟨p, l, c, m, rfl, _⟩ := h
    rfl
  obtain ⟨p, l, c, m, rfl, P0, hc, hm, hm2, q⟩ := h
  have hpl := P0.ne
  obtain ⟨a, n, s, ns, hp, hl, h1, h2, h3, h4, h5, h6⟩ := P0.ex
  have hS : SqL K H p [.ref l, .int a, .int n, .int s] := .of hp
  refine ⟨_, (pss_cons (ps_asg (pe_op op_add (pe_ix (ix_listK (K := K)) (pv 0) pe_int (fun _ _ => rfl)) pe_int) (pg_sub (pv 0) pe_int set_list))
    (Evl.pss_cut (ps_if (PW.pt (pw_and (pt_cmpR op_eq (pe_ix (ix_listK (K := K)) (pv 0) pe_int (fun _ _ => rfl)) pe_int (nomark _)) (pw_and1 (pt_cmpR (op_neDK (K := K) hr.units) (pe_ix (ix_listK (K := K)) (pv 0) pe_int (fun _ _ => rfl)) (pe_lst pa_nil) (nomark _)))))
      (pss_cons (ps_asg (pe_bm PySem.F.plainAttrs_list PySem.F.slot_list_pop PySem.F.type_list_pop mt_popAt (pe_ix (ix_listK (K := K)) (pv 0) pe_int (fun _ _ => rfl)) (pa_cons pe_int pa_nil)) (pg_sub (pv 0) pe_int set_list))
    (pss_one (ps_if (pt_cmpR op_lt (pe_ix (ix_listK (K := K)) (pv 0) pe_int (fun _ _ => rfl)) (pe_op op_pow pe_int pe_int) (nomark _))
      (pss_cons (ps_asg (pe_op op_modN (pe_op op_add (pe_op op_mulW (pe_ix (ix_listK (K := K)) (pv 0) pe_int (fun _ _ => rfl)) pe_int) (pe_ix (ix_listK (K := K)) (pv 0) pe_int (fun _ _ => rfl))) pe_int) (pg_sub (pv 0) pe_int set_list))
    (pss_one (ps_asg pe_int (pg_sub (pv 0) pe_int set_list))))
      pss_nil)))
      pss_nil)
    (pss_cons (ps_if (pt_cmpR op_gt (pe_ix (ix_listK (K := K)) (pv 0) pe_int (fun _ _ => rfl)) pe_int (nomark _))
      (pss_cons (ps_set (i := 2) sc_law_take.nd rfl (Or.inl rfl) (pe_op op_modN (pe_ix (ix_listK (K := K)) (pv 0) pe_int (fun _ _ => rfl)) (pv 1)))
    (pss_cons (ps_asg (pe_op op_fdivW (pe_ix (ix_listK (K := K)) (pv 0) pe_int (fun _ _ => rfl)) (pv 1)) (pg_sub (pv 0) pe_int set_list))
    (pss_one (ps_ret (pv 2)))))
      pss_nil)
    (pss_cons (ps_set (i := 3) sc_law_take.nd rfl (Or.inl rfl) (pe_callH C_law_mixed hr (pa_cons (pv 0) (pa_cons pe_int pa_nil))))
    (Evl.pss_cut (ps_if (pt_cmpR op_gt (pv 1) (pe_op op_pow pe_int pe_int) (nomark _))
      (pss_one (ps_for PassesOwn.never rfl (pi_range2 (by rfl) T.z_range (pa_cons pe_int (pa_cons pe_int pa_nil))) (pg_name (i := 4) sc_law_take.nd rfl (.inl rfl))
      (pss_one (ps_set (i := 3) sc_law_take.nd rfl (Or.inl rfl) (pe_op op_add (pe_op op_mulW (pv 3) pe_int) (pe_callH C_law_mixed hr (pa_cons (pv 0) (pa_cons (pv 4) pa_nil))))))))
      pss_nil)
    (pss_one (ps_ret (pe_op op_modN (pv 3) (pv 1))))))))), ?_⟩
  walk_at "sx"
  refine x_cut (M := fun σ' H' => σ' = [some (.ref p), some (.int m), none, none, none] ∧ Kx p l H H' ∧ ∃ (a s : Int) (ns : List Int), H' p = some (.lst [.ref l, .int a, .int (n + 1), .int s]) ∧ H' l = some (.lst (ns.map V.int)) ∧ 0 ≤ a ∧ 0 ≤ s ∧ s < 2147483647 ∧ ns.length ≤ 1000) ?_ ?_
  · walk_at "sx"
    have kp : ∀ o, Kx p l H (upd H p o) := fun o b u e e1 _ => by
      rw [upd_ne e1]
      exact e
    refine x_ite (fun ca => ?_) (fun ca => ?_)
    · have ha : a = 0 := V.int.inj ca
      walk_at "sx"
      rename_i q hq
      have nlp : l ≠ p := Ne.symm hpl
      have nq1 : p ≠ q := ne_of_none (o := _) upd_same hq
      have nq2 : l ≠ q := ne_of_none (by walk_at "hx") hq
      refine x_neNil (ns := ns) (by walk_at "sq") (by walk_at "sq") ?_
      walk_at "sx"
      refine x_iteN (fun cn => ?_) (fun cn => ?_)
      · walk_at "sx"
        obtain ⟨x, r, rfl⟩ : ∃ x r, ns = x :: r := by
          cases ns with
          | nil => exact absurd rfl cn
          | cons x r => exact ⟨x, r, rfl⟩
        refine ⟨l, _, 0, 0, _, rfl, rfl, by walk_at "hx", by decide, by decide, seqIx0 (by simp), rfl, ?_⟩
        have kq : ∀ (G : Hp), Kx p l H G → Kx p l H G := fun G h => h
        walk_at "sx"
        refine x_ite (fun cx => ?_) (fun cx => ?_)
        · walk_at "sx"
          refine ⟨rfl, by walk_at "kx", 0, _, r, by walk_at "hx", by walk_at "hx", by omega, by assumption, by assumption, ?_⟩
          rw [List.length_cons] at h6
          omega
        · walk_at "sx"
          have cx' : ¬ x < 10 ^ 18 := cx
          refine ⟨rfl, by walk_at "kx", x, s, r, by walk_at "hx", by walk_at "hx", by omega, h4, h5, ?_⟩
          rw [List.length_cons] at h6
          omega
      · walk_at "sx"
        exact ⟨rfl, by walk_at "kx", a, s, ns, by walk_at "hx", by walk_at "hx", h1, h4, h5, h6⟩
    · walk_at "sx"
      exact ⟨rfl, by walk_at "kx", a, s, ns, upd_same, by walk_at "hx", h1, h4, h5, h6⟩
  · rintro σ' H' ⟨rfl, k1, a, s, ns, hp, hl, h1, h4, h5, h6⟩
    have dm : CDivW a m := wide_div (b := 300) hm (by omega) (by decide) (by decide)
    have nlp : l ≠ p := Ne.symm hpl
    have P1 : ∀ G : Hp, G p = some (.lst [.ref l, .int a, .int (n + 1), .int s]) → G l = some (.lst (ns.map V.int)) → PoolAt G p l (c + 1) := fun G g1 g2 => ⟨a, n + 1, s, ns, g1, g2, h1, by omega, by omega, h4, h5, h6⟩
    walk_at "sx"
    refine x_ite (fun ca => ?_) (fun ca => ?_)
    · walk_at "sx"
      rename_i r1 _ _ _ r2 _ hr2
      refine q _ _ (by assumption) (by assumption) ⟨r2, n + 1, s, ns, by walk_at "hx", by walk_at "hx", (hr2 h1).1, by omega, by omega, h4, h5, h6⟩ ?_
      exact k1.trans (by walk_at "kx")
    · walk_at "sx"
      refine ⟨p, l, c + 1, 0, rfl, P1 _ hp hl, hc, by omega, by omega, fun z hz1 hz2 => ?_⟩
      walk_at "sx"
      refine x_cut (M := fun σ' G => ∃ (y : Int) (t : Option V), σ' = [some (.ref p), some (.int m), none, some (.int y), t] ∧ G = H') ?_ ?_
      · walk_at "sx"
        refine x_ite (fun cm => ?_) (fun cm => ?_)
        · walk_at "sx"
          refine x_forR2 (lo := 1) (hi := 8) (fun i σ' G => ∃ (y : Int) (t : Option V), σ' = [some (.ref p), some (.int m), none, some (.int y), t] ∧ G = H' ∧ 0 ≤ y ∧ y < 4294967296 ^ (i + 1)) (by omega) ⟨z, none, rfl, rfl, hz1, by rw [show (4294967296 : Int) ^ (0 + 1) = 4294967296 from rfl]; omega⟩ ?_ ?_
          · rintro i σ' G hi ⟨y, t, rfl, rfl, hy1, hy2⟩
            have hB : (4294967296 : Int) ^ (i + 1) ≤ 4294967296 ^ 7 := by
              rcases (show i = 0 ∨ i = 1 ∨ i = 2 ∨ i = 3 ∨ i = 4 ∨ i = 5 ∨ i = 6 by omega) with rfl | rfl | rfl | rfl | rfl | rfl | rfl <;> decide
            have dy : CMulW y 268435453 := wide_mul (a := 300) (b := 30) (by omega) (by decide) (by decide) (by decide) (by decide)
            walk_at "sx"
            refine ⟨p, l, c + 1, 1 + (i : Int), rfl, P1 _ hp hl, hc, by omega, by omega, fun z' hz1' hz2' => ?_⟩
            walk_at "sx"
            refine ⟨_, _, rfl, rfl, by omega, ?_⟩
            rw [Int.pow_succ]
            generalize (4294967296 : Int) ^ (i + 1) = B at hy2 hB ⊢
            omega
          · rintro σ' G ⟨y, t, rfl, rfl, _⟩
            exact ⟨y, t, rfl, rfl⟩
        · walk_at "sx"
          exact ⟨z, none, rfl, rfl⟩
      · rintro σ' G ⟨y, t, rfl, rfl⟩
        walk_at "sx"
        exact q _ _ (by assumption) (by assumption) (P1 _ hp hl) k1
theorem ok_law_pool (F : Fun K "_law_pool" "_law_pool" s_law_pool f fd) (T : Txt mg) : FnOk P w K mg base CX0 1 f fd ["script", "k"] (spPool K) := by
  refine F.ok sc_law_pool (fun vs H Q E h => ?_) (fun cdv A outer s H vs Q E hr h => ?_)
  · obtain ⟨a, ns, k, rfl, _⟩ := h
    rfl
  obtain ⟨a, ns, k, rfl, hS, hl, hk0, hk1, q⟩ := h
  refine ⟨_, (pss_one (ps_ret (pe_lst (pa_cons (pe_op op_cat (pe_slice (sl_listK (K := K)) (pv 0) (po_some (pv 1)) po_none) (pe_slice (sl_listK (K := K)) (pv 0) po_none (po_some (pv 1)))) (pa_cons pe_int (pa_cons pe_int (pa_cons (pe_op op_mulW pe_int (pv 1)) pa_nil))))))), ?_⟩
  walk_at "sx"
  refine x_slL hS fun p1 n1 => ?_
  walk_at "sx"
  have s1 := same_upd (o := .lst (cutV (ns.map V.int) (some k) none)) n1
  refine x_slL (s1.seq hS) fun p2 n2 => ?_
  have n12 : p1 ≠ p2 := ne_of_none upd_same n2
  have s2 := same_upd (o := .lst (cutV (ns.map V.int) none (some k))) n2
  have L1 := cutV_length (ns.map V.int) (some k) none
  have L2 := cutV_length (ns.map V.int) none (some k)
  rw [List.length_map] at L1 L2
  refine ⟨p1, p2, _, _, rfl, rfl, by walk_at "hx", by walk_at "hx", sz (by omega), fun p3 n3 => ?_⟩
  have s3 := same_upd (o := .lst (cutV (ns.map V.int) (some k) none ++ cutV (ns.map V.int) none (some k))) n3
  walk_at "sx"
  rename_i p4 n4
  have s4 := same_upd (o := .lst [.ref p3, .int 0, .int 0, .int (104729 * k)]) n4
  obtain ⟨m1, e1, l1⟩ := cutV_map ns (some k) none
  obtain ⟨m2, e2, l2⟩ := cutV_map ns none (some k)
  have n34 : p3 ≠ p4 := ne_of_none upd_same n4
  have sall := s1.trans (s2.trans (s3.trans s4))
  refine q p4 p3 _ (s1.free (s2.free (s3.free n4))) (s1.free (s2.free n3)) sall ?_
  · refine ⟨0, 0, 104729 * k, m1 ++ m2, by walk_at "hx", ?_, by omega, by omega, by omega, by omega, by omega, ?_⟩
    · rw [List.map_append, ← e1, ← e2]
      walk_at "hx"
    · rw [List.length_append]
      omega
end
end Gs
namespace Gs
open PySem PySem.Spec PyProof.Rows L2 TL
def spLaw (K : PySem.W.Frag) : Sp := fun vs H Q _ => ∃ (a : Addr) (ns : List Int), vs = [.ref a] ∧ SqL K H a (ns.map V.int) ∧ ns.length ≤ 63 ∧ ∀ H', Q (.bl true) H'
end Gs
namespace Gs
open PySem PySem.Spec PyProof.Rows L2 TL
abbrev s_law_name : Stmt := PySem.Challenge.pw_goalstead_k21_sizes_as_read.main.body.getD 93 (.Pass ⟨0, 0, 0, 0⟩)
theorem sc_law_name : FnScope ["pool", "way", "some", "size", "head", "text", "turn"] ["pool", "way"] (defScope s_law_name) := ⟨rfl, rfl, rfl, by decide +kernel, rfl, by decide +kernel, by decide +kernel⟩
/-- a law's word, unknown, mark -/
def NameOk (way : Int) (l : List Nat) : Prop := ∃ c t, l = c :: t ∧ ((way = 0 ∧ c ∈ sS ∧ (∀ x ∈ t, x ∈ sS ++ sD) ∧ t.length + 1 ≤ 12) ∨ (way = 1 ∧ c ∈ sC ∧ (∀ x ∈ t, x ∈ sS ++ sD) ∧ t.length + 1 ≤ 12) ∨ (way = 2 ∧ c ∈ sM ∧ (∀ x ∈ t, x ∈ sM) ∧ t.length + 1 ≤ 3))
theorem NameOk.bit {way : Int} {l : List Nat} (h : NameOk way l) : OkBit l := by
  obtain ⟨c, t, rfl, h⟩ := h
  rcases h with ⟨_, hc, ht, hl⟩ | ⟨_, hc, ht, hl⟩ | ⟨_, hc, ht, hl⟩
  · exact ok_word (.inl hc) ht hl
  · exact ok_word (.inr hc) ht hl
  · exact ok_mark hc ht hl
def spName (K : PySem.W.Frag) : Sp := fun vs H Q _ => ∃ (p l : Addr) (c way : Int), vs = [.ref p, .int way] ∧ PoolAt H p l c ∧ c + 20 ≤ 1000000000000 ∧ 0 ≤ way ∧ way ≤ 2 ∧
  ∀ (z : Str) (H' : Hp), NameOk way (tl z) → PoolAt H' p l (c + 20) → Kx p l H H' → Q (.str z) H'
section
variable {P : Program} {w : World} {K : PySem.W.Frag} {mg : Str → Option Value} {base : Heap} {f : Addr} {fd : FuncData}
def HasTake (P : Program) (w : World) (K : PySem.W.Frag) (mg : Str → Option Value) (base : Heap) : Prop := Has P w K mg base 2 "_law_take" ["pool", "many"] (spTake K)
def HeadOk (way : Int) (c : Nat) : Prop := (way = 0 ∧ c ∈ sS) ∨ (way = 1 ∧ c ∈ sC) ∨ (way = 2 ∧ c ∈ sM)
def TailOk (way : Int) (c : Nat) : Prop := if way = 2 then c ∈ sM else c ∈ sS ++ sD
theorem nameOk {way : Int} {l t chars : List Nat} {c : Nat} {n : Int} (e : l = (c :: (t ++ chars)).take 12) (h : HeadOk way c) (ht : ∀ x ∈ t, TailOk way x) (hc : ∀ x ∈ chars, TailOk way x) (h2 : way = 2 → t = [] ∧ chars.length ≤ 2) : NameOk way l := by
  have et : (c :: (t ++ chars)).take 12 = c :: (t ++ chars).take 11 := rfl
  rw [et] at e
  have hl : ((t ++ chars).take 11).length ≤ 11 := by rw [List.length_take]; omega
  have hx : ∀ x ∈ (t ++ chars).take 11, TailOk way x := fun x hx => by
    rcases List.mem_append.mp (List.mem_of_mem_take hx) with h | h
    · exact ht x h
    · exact hc x h
  refine ⟨c, _, e, ?_⟩
  rcases h with ⟨rfl, h⟩ | ⟨rfl, h⟩ | ⟨rfl, h⟩
  · exact .inl ⟨rfl, h, hx, by omega⟩
  · exact .inr (.inl ⟨rfl, h, hx, by omega⟩)
  · refine .inr (.inr ⟨rfl, h, hx, ?_⟩)
    obtain ⟨h3, h4⟩ := h2 rfl
    rw [List.length_take, List.length_append, h3, List.length_nil]
    omega
theorem tl_SD : tl ("abcdefghijklmnopqrstuvwxyz0123456789" : Str) = sS ++ sD := by decide +kernel
theorem tl_len (z : Str) : (tl z).length = z.length := by show z.cps.toList.length = z.cps.size; rw [Array.length_toList]
def resW : List Str := ["op", "mode", "table", "not", "is", "in", "such", "and", "mod"]
theorem resW_ok : ∀ z ∈ resW, ∃ c t, tl z = c :: t ∧ c ∈ sS ∧ (∀ x ∈ t, x ∈ sS ++ sD) ∧ t.length ≤ 4 ∧ z.length ≤ 5 := by
  have h : (resW.all fun z => match tl z with | [] => false | c :: t => decide (c ∈ sS ∧ (∀ x ∈ t, x ∈ sS ++ sD) ∧ t.length ≤ 4 ∧ z.length ≤ 5)) = true := by decide +kernel
  intro z hz
  have h2 := List.all_eq_true.mp h z hz
  cases e : tl z with
  | nil =>
    rw [e] at h2
    cases h2
  | cons c t =>
    rw [e] at h2
    exact ⟨c, t, rfl, of_decide_eq_true h2⟩
theorem joinNil : ∀ xs : List (List Nat), joinL [] xs = xs.flatten
  | [] => rfl
  | [p] => by simp [joinL]
  | p :: q :: r => by
    show p ++ ([] ++ joinL [] (q :: r)) = p ++ (q :: r).flatten
    rw [joinNil (q :: r), List.nil_append]
theorem tl_joined (ys : List Str) : tl (Txt.join ("" : Str) ys) = (ys.map tl).flatten := by
  rw [join_eq, tl_join, show tl ("" : Str) = [] from by decide +kernel, joinNil]
theorem signs_of {P : Nat → Prop} : ∀ {ys : List Str}, (∀ y ∈ ys, ∃ c, tl y = [c] ∧ P c) → (ys.map tl).flatten.length = ys.length ∧ (∀ x ∈ (ys.map tl).flatten, P x) ∧ (ys.map (·.length)).sum = ys.length
  | [], _ => ⟨rfl, (fun x hx => by cases hx), rfl⟩
  | y :: r, h => by
    obtain ⟨c, e, hc⟩ := h y (List.mem_cons_self ..)
    obtain ⟨h1, h2, h3⟩ := signs_of (ys := r) fun z hz => h z (List.mem_cons_of_mem _ hz)
    refine ⟨?_, fun x hx => ?_, ?_⟩
    · rw [List.map_cons, List.flatten_cons, List.length_append, h1, e, List.length_cons, List.length_cons, List.length_nil]
      omega
    · rw [List.map_cons, List.flatten_cons, e] at hx
      rcases List.mem_append.mp hx with hx | hx
      · rw [List.mem_singleton.mp hx]
        exact hc
      · exact h2 x hx
    · rw [List.map_cons, List.sum_cons, h3, ← tl_len y, e, List.length_cons, List.length_cons, List.length_nil]
      omega
theorem cut_to (z : Str) (n : Nat) : tl (cutS z none (some (n : Int))) = (tl z).take n := by
  show (((tl z).drop (HT.sIx z.length 0 none)).take (HT.sIx z.length z.length (some (n : Int)) - HT.sIx z.length 0 none)) = (tl z).take n
  rw [HT.sIx_none, HT.sIx_nat, List.drop_zero, Nat.sub_zero, ← tl_len, ← List.take_eq_take_min]
theorem ok_law_name (F : Fun K "_law_name" "_law_name" s_law_name f fd) (T : Txt mg) (C_law_take : HasTake P w K mg base) : FnOk P w K mg base CX0 3 f fd ["pool", "way"] (spName K) := by
  refine F.ok sc_law_name (fun vs H Q E h => ?_) (fun cdv A outer s H vs Q E hr h => ?_)
  · obtain ⟨p, l, c, way, rfl, _⟩ := h
    rfl
  obtain ⟨p, l, c, way, rfl, P0, hc, hw0, hw2, q⟩ := h
  refine ⟨_, (Evl.pss_cut (ps_set (i := 2) sc_law_name.nd rfl (Or.inr rfl) (pe_ix (ix_listK (K := K)) (pe_lst (pa_cons pe_str (pa_cons pe_str (pa_cons pe_str pa_nil)))) (pv 1) (fun _ _ => rfl)))
    (pss_cons (ps_set (i := 3) sc_law_name.nd rfl (Or.inl rfl) (pe_callH C_law_take hr (pa_cons (pv 0) (pa_cons (pe_ix (ix_listK (K := K)) (pe_lst (pa_cons pe_int (pa_cons pe_int (pa_cons pe_int (pa_cons pe_int pa_nil))))) (pe_callH C_law_take hr (pa_cons (pv 0) (pa_cons pe_int pa_nil))) (fun _ _ => rfl)) pa_nil))))
    (pss_cons (ps_set (i := 4) sc_law_name.nd rfl (Or.inl rfl) (pe_callH C_law_take hr (pa_cons (pv 0) (pa_cons pe_int pa_nil))))
    (pss_cons (ps_set (i := 5) sc_law_name.nd rfl (Or.inl rfl) (pe_ix ix_str (pv 2) (pe_callH C_law_take hr (pa_cons (pv 0) (pa_cons (pe_callB call_len_str (by rfl) T.z_len (by decide +kernel) (pa_cons (pv 2) pa_nil)) pa_nil))) (fun _ _ => rfl)))
    (Evl.pss_cut (ps_if (PW.pt (pw_and (pt_cmpR op_eq (pv 1) pe_int (nomark _)) (pw_and1 (pt_cmpR op_lt (pv 4) pe_int (nomark _)))))
      (pss_one (ps_set (i := 5) sc_law_name.nd rfl (Or.inl rfl) (pe_ix (ix_listK (K := K)) (pe_lst (pa_cons pe_str (pa_cons pe_str (pa_cons pe_str (pa_cons pe_str (pa_cons pe_str (pa_cons pe_str (pa_cons pe_str (pa_cons pe_str (pa_cons pe_str pa_nil)))))))))) (pv 4) (fun _ _ => rfl))))
      pss_nil)
    (Evl.pss_cut (ps_if (PW.pt (pw_and (pt_cmpR op_eq (pv 1) pe_int (nomark _)) (pw_and1 (pt_cmpR op_lt (pv 4) pe_int (nomark _)))))
      (pss_one (ps_ret (pe_ix ix_str pe_str (pe_op op_modN (pv 4) pe_int) (fun _ _ => rfl))))
      pss_nil)
    (Evl.pss_cut (ps_if (pt_cmpR op_eq (pv 1) pe_int (nomark _))
      (pss_one (ps_set (i := 3) sc_law_name.nd rfl (Or.inl rfl) (pe_op op_modN (pv 3) pe_int)))
      (pss_one (ps_set (i := 2) sc_law_name.nd rfl (Or.inr rfl) pe_str)))
    (pss_one (ps_ret (pe_slice sl_str (pe_op op_add_str (pv 5) (pe_join pe_str (pe_lc (own := [("turn", 6)]) (g := gName 6) (tt := tYes) rfl sc_law_name.nd (pi_range1 (by rfl) T.z_range (pa_cons (pv 3) pa_nil)) (blkOk_by (own := [("turn", 6)]) (N := ["pool", "way", "some", "size", "head", "text", "turn"]) (sc := defScope s_law_name) (by decide +kernel)) (fun _ _ _ _ _ => pg_name (i := 6) sc_law_name.nd rfl (Or.inl rfl)) (fun _ _ _ _ _ => pts_nil) (fun _ _ _ _ _ => (pe_ix ix_str (pv 2) (pe_callH C_law_take hr (pa_cons (pv 0) (pa_cons (pe_callB call_len_str (by rfl) T.z_len (by decide +kernel) (pa_cons (pv 2) pa_nil)) pa_nil))) (fun _ _ => rfl)))))) po_none (po_some pe_int))))))))))), ?_⟩
  refine x_cut (M := fun σ' G => ∃ lit : Str, σ' = [some (.ref p), some (.int way), some (.str lit), none, none, none, none] ∧ 0 < lit.length ∧ lit.length ≤ 26 ∧ (∀ x ∈ tl lit, HeadOk way x) ∧ PoolAt G p l c ∧ Kx p l H G) ?_ ?_
  · walk_at "sx"
    rcases (show way = 0 ∨ way = 1 ∨ way = 2 by omega) with rfl | rfl | rfl
    · walk_at "sx"
      refine ⟨_, rfl, by decide +kernel, by decide +kernel, fun x hx => .inl ⟨rfl, ?_⟩, by walk_at "pl", by walk_at "kx"⟩
      rwa [tl_S] at hx
    · walk_at "sx"
      refine ⟨_, rfl, by decide +kernel, by decide +kernel, fun x hx => .inr (.inl ⟨rfl, ?_⟩), by walk_at "pl", by walk_at "kx"⟩
      rwa [tl_C] at hx
    · walk_at "sx"
      refine ⟨_, rfl, by decide +kernel, by decide +kernel, fun x hx => .inr (.inr ⟨rfl, ?_⟩), by walk_at "pl", by walk_at "kx"⟩
      rwa [tl_M] at hx
  rintro σ' G ⟨lit, rfl, lit0, lit1, hlit, PG, kG⟩
  walk_at "sx"
  refine ⟨p, l, c, 4, rfl, by walk_at "pl", by omega, by decide, by decide, fun n2 H2 n20 n21 P2 k2 => ?_⟩
  have hA := kxl PG (by assumption) k2
  have kA : Kx p l H H2 := by walk_at "kx"
  walk_at "sx"
  obtain ⟨sz4, hs4, hat4⟩ := atL (xs := [V.int 4, V.int 4, V.int 4, V.int 12]) n20 n21
  refine x_ixL (.of hA) hat4 ?_
  obtain ⟨m4, rfl, m40, m41⟩ : ∃ m : Int, sz4 = .int m ∧ 0 < m ∧ m ≤ 12 := by
    simp only [List.mem_cons, List.not_mem_nil, or_false] at hs4
    rcases hs4 with e | e | e | e <;> exact ⟨_, e, by decide, by decide⟩
  walk_at "sx"
  refine ⟨p, l, c + 1, m4, rfl, P2, by omega, m40, by omega, fun size H3 n30 n31 P3 k3 => ?_⟩
  walk_at "sx"
  refine ⟨p, l, c + 1 + 1, 24, rfl, P3, by omega, by decide, by decide, fun head H4 n40 n41 P4 k4 => ?_⟩
  walk_at "sx"
  refine x_lenS (sz (by omega)) ?_
  walk_at "sx"
  refine ⟨p, l, c + 1 + 1 + 1, _, rfl, P4, by omega, by omega, by omega, fun n5 H5 n50 n51 P5 k5 => ?_⟩
  obtain ⟨ch, hch, hat5⟩ := atL (xs := tl lit) n50 (by rw [tl_len]; exact n51)
  walk_at "sx"
  refine x_ixS (sz (by omega)) hat5 ?_
  have kB : Kx p l H H5 := by walk_at "kx"
  walk_at "sx"
  have hch' : HeadOk way ch := hlit ch hch
  refine x_cut (M := fun σ' G => ∃ (txt : Str) (cc : Nat) (tt : List Nat), σ' = [some (.ref p), some (.int way), some (.str lit), some (.int size), some (.int head), some (.str txt), none] ∧ tl txt = cc :: tt ∧ HeadOk way cc ∧ (∀ x ∈ tt, TailOk way x) ∧ tt.length ≤ 4 ∧ txt.length ≤ 5 ∧ (way = 2 → tt = []) ∧ PoolAt G p l (c + 4) ∧ Kx p l H G) ?_ ?_
  · have P6 := P5.mono (show c + 1 + 1 + 1 + 1 ≤ c + 4 by omega)
    walk_at "sx"
    refine x_ite (fun cw => ?_) (fun cw => ?_)
    · have hw : way = 0 := V.int.inj cw
      subst hw
      walk_at "sx"
      refine x_ite (fun c9 => ?_) (fun c9 => ?_)
      · walk_at "sx"
        obtain ⟨zv, hzv, hat9⟩ := atL (xs := resW.map V.str) n40 (by show head < (resW.map V.str).length; exact c9)
        refine x_ixL (xs := resW.map V.str) (.of upd_same) hat9 ?_
        obtain ⟨z, hz, rfl⟩ := List.mem_map.mp hzv
        obtain ⟨cc, tt, e1, e2, e3, e4, e5⟩ := resW_ok z hz
        walk_at "sx"
        exact ⟨z, cc, tt, rfl, e1, .inl ⟨rfl, e2⟩, (fun x hx => by unfold TailOk; rw [if_neg (by decide)]; exact e3 x hx), e4, e5, (fun h => by cases h), by walk_at "pl", by walk_at "kx"⟩
      · walk_at "sx"
        exact ⟨_, ch, [], rfl, rfl, hch', (fun x hx => by cases hx), by simp, by show 1 ≤ 5; decide, (fun _ => rfl), P6, kB⟩
    · walk_at "sx"
      exact ⟨_, ch, [], rfl, rfl, hch', (fun x hx => by cases hx), by simp, by show 1 ≤ 5; decide, (fun _ => rfl), P6, kB⟩
  rintro σ' G ⟨txt, cc, tt, rfl, et, hcc, htt, l4, l5, h2, PG, kG⟩
  have last : ∀ (Z : Str) (G' : Hp) (chars : List Nat), tl Z = (cc :: (tt ++ chars)).take 12 → (∀ x ∈ chars, TailOk way x) → (way = 2 → chars.length ≤ 2) → PoolAt G' p l (c + 20) → Kx p l H G' → Q (.str Z) G' := fun Z G' chars eZ hcs h3 PG' kG' =>
    q Z G' (nameOk (n := 0) eZ hcc htt hcs fun hw => ⟨h2 hw, h3 hw⟩) PG' kG'
  refine x_cut (M := fun σ' G' => σ' = [some (.ref p), some (.int way), some (.str lit), some (.int size), some (.int head), some (.str txt), none] ∧ G' = G) ?_ ?_
  · walk_at "sx"
    refine x_ite (fun cw => ?_) (fun cw => ?_)
    · have hw : way = 1 := V.int.inj cw
      subst hw
      walk_at "sx"
      refine x_ite (fun c12 => ?_) (fun c12 => ?_)
      · walk_at "sx"
        rename_i r r0 r1 _
        have e3 : tl ("XYZ" : Str) = [88, 89, 90] := by decide +kernel
        obtain ⟨ch3, hm3, hat3⟩ := atL (xs := tl ("XYZ" : Str)) r0 (by rw [e3]; exact r1)
        refine x_ixS (by decide +kernel) hat3 ?_
        refine q _ _ ⟨ch3, [], rfl, .inr (.inl ⟨rfl, ?_, (fun x hx => by cases hx), by decide⟩)⟩ (PG.mono (by omega)) kG
        rw [e3] at hm3
        rw [sC_iff]
        simp only [List.mem_cons, List.not_mem_nil, or_false] at hm3
        omega
      · walk_at "sx"
        exact ⟨rfl, rfl⟩
    · walk_at "sx"
      exact ⟨rfl, rfl⟩
  rintro σ' G' ⟨rfl, rfl⟩
  refine x_cut (M := fun σ' G => ∃ (some' : Str) (size' : Int), σ' = [some (.ref p), some (.int way), some (.str some'), some (.int size'), some (.int head), some (.str txt), none] ∧ (∀ x ∈ tl some', TailOk way x) ∧ 0 < some'.length ∧ some'.length ≤ 36 ∧ 0 ≤ size' ∧ size' ≤ 11 ∧ (way = 2 → size' ≤ 2) ∧ G = G') ?_ ?_
  · walk_at "sx"
    refine x_ite (fun cw => ?_) (fun cw => ?_)
    · have hw : way = 2 := V.int.inj cw
      subst hw
      walk_at "sx"
      rename_i r r0 r1 _
      refine ⟨lit, r, rfl, fun x hx => ?_, lit0, by omega, r0, by omega, fun _ => by omega, rfl⟩
      unfold TailOk
      rw [if_pos rfl]
      rcases hlit x hx with ⟨h, _⟩ | ⟨h, _⟩ | ⟨_, h⟩
      · cases h
      · cases h
      · exact h
    · walk_at "sx"
      refine ⟨_, size, rfl, fun x hx => ?_, by decide +kernel, by decide +kernel, n30, by omega, fun h => absurd (congrArg V.int h) cw, rfl⟩
      unfold TailOk
      rw [if_neg (fun h => cw (congrArg V.int h))]
      rwa [tl_SD] at hx
  rintro σ' G ⟨some', size', rfl, hs, s0, s36, z0, z11, zw, rfl⟩
  walk_at "sx"
  refine x_lcR1 (n := size') (fun D i H' => ∃ (ys : List Str), H' D = some (.lst (ys.map V.str)) ∧ ys.length = i ∧ (∀ y ∈ ys, ∃ c, tl y = [c] ∧ TailOk way c) ∧ PoolAt H' p l (c + 4 + i) ∧ Kx p l H H') (by omega) (by omega) ?_ ?_ ?_
  · intro D hD
    exact ⟨[], upd_same, rfl, (fun y hy => by cases hy), by (have := PG.mono (show c + 4 ≤ c + 4 + (0 : Nat) by omega); walk_at "pl"), by walk_at "kx"⟩
  · rintro D hD i H' hi ⟨ys, hD', hl, hys, PH, kH⟩
    walk_at "sx"
    refine ⟨rfl, ?_⟩
    walk_at "sx"
    refine x_lenS (sz (by omega)) ?_
    walk_at "sx"
    refine ⟨p, l, c + 4 + i, _, rfl, PH, by omega, by omega, by omega, fun n6 H6 n60 n61 P6 k6 => ?_⟩
    obtain ⟨c6, hc6, hat6⟩ := atL (xs := tl some') n60 (by rw [tl_len]; exact n61)
    walk_at "sx"
    refine x_ixS (sz (by omega)) hat6 ?_
    obtain ⟨dp, dl⟩ := PG.fresh hD
    have eD := k6 D _ hD' dp dl
    have nD := kG.none hD dp dl
    refine ⟨_, eD, szl (by rw [List.length_map]; omega), ys ++ [⟨#[c6]⟩], ?_, by rw [List.length_append]; simp; omega, fun y hy => ?_, (P6.mono (by omega)).updo dp dl, Kx.updf nD (kH.trans k6)⟩
    · rw [upd_same, List.map_append]
      rfl
    · rcases List.mem_append.mp hy with hy | hy
      · exact hys y hy
      · rw [List.mem_singleton.mp hy]
        exact ⟨c6, rfl, hs c6 hc6⟩
  · rintro D hD H' ⟨ys, hD', hl, hys, PH, kH⟩
    obtain ⟨s1, s2, s3⟩ := signs_of hys
    walk_at "sx"
    have ltx : txt.length = (tl txt).length := (tl_len txt).symm
    refine x_join (.of hD') (by rw [s3, hl]; show _ + _ * 0 ≤ _; omega) ?_
    have lj : (Txt.join ("" : Str) ys).length = ys.length := by rw [← tl_len, tl_joined, s1]
    refine x_addS (sz (by rw [lj]; omega)) ?_
    walk_at "sx"
    refine x_slS (sz ?_) ?_
    · rw [← tl_len, tl_append, List.length_append, tl_len, tl_len, lj]
      omega
    · refine last _ H' ((ys.map tl).flatten) ?_ s2 (fun hw => by rw [s1, hl]; have := zw hw; omega) (PH.mono (by omega)) kH
      rw [show (12 : Int) = ((12 : Nat) : Int) from rfl, cut_to, tl_append, tl_joined, et]
      rfl
end
end Gs
namespace Gs
open PySem PySem.Spec PyProof.Rows L2 TL
abbrev s_is_kept : Stmt := PySem.Challenge.pw_goalstead_k21_sizes_as_read.main.body.getD 29 (.Pass ⟨0, 0, 0, 0⟩)
theorem sc_is_kept : FnScope ["part"] ["part"] (defScope s_is_kept) := ⟨rfl, rfl, rfl, by decide +kernel, rfl, by decide +kernel, by decide +kernel⟩
abbrev s_own : Stmt := PySem.Challenge.pw_goalstead_k21_sizes_as_read.main.body.getD 33 (.Pass ⟨0, 0, 0, 0⟩)
theorem sc_own : FnScope [] [] (defScope s_own) := ⟨rfl, rfl, rfl, by decide +kernel, rfl, by decide +kernel, by decide +kernel⟩
abbrev s_law_kept : Stmt := PySem.Challenge.pw_goalstead_k21_sizes_as_read.main.body.getD 94 (.Pass ⟨0, 0, 0, 0⟩)
theorem sc_law_kept : FnScope ["words"] [] (defScope s_law_kept) := ⟨rfl, rfl, rfl, by decide +kernel, rfl, by decide +kernel, by decide +kernel⟩
/-- what the text's constants hold -/
structure TxR (K : PySem.W.Frag) (mg : Str → Option Value) : Prop where
  kept : ∃ p, mg "KEPT" = some (.ref p) ∧ ∀ H, SqT K H p (keptL.map V.str)
  own : ∃ p vs, mg "OWN" = some (.ref p) ∧ (∀ H, SqT K H p vs) ∧ ∀ H, RowsAt K H vs ownL
def spIsKept (K : PySem.W.Frag) : Sp := fun vs H Q _ => ∃ z : Str, vs = [.str z] ∧ Q (.bl (decide (z ∈ keptL))) H
def spOwn (K : PySem.W.Frag) : Sp := fun vs H Q _ => vs = [] ∧ ∀ (p : Addr) (ws : List V) (H' : Hp), H p = none → H' p = some (.lst ws) → Same H H' → RowsAt K H' ws ownL → Q (.ref p) H'
def spKept (K : PySem.W.Frag) : Sp := fun vs H Q _ => vs = [] ∧ ∀ (p : Addr) (H' : Hp), H p = none → H' p = some (.lst (keptL.map V.str)) → Same H H' → Q (.ref p) H'
def spAlike (K : PySem.W.Frag) (k : Nat) : Sp := fun vs H Q _ => ∃ (x y : V) (u : Tv), vs = [x, y] ∧ TvAt K H k x u ∧ TvAt K H k y u ∧ ∀ H', Same H H' → Q (.bl true) H'
section
variable {P : Program} {w : World} {K : PySem.W.Frag} {mg : Str → Option Value} {base : Heap} {f : Addr} {fd : FuncData}
def HasIsKept (P : Program) (w : World) (K : PySem.W.Frag) (mg : Str → Option Value) (base : Heap) : Prop := Has P w K mg base 1 "is_kept" ["part"] (spIsKept K)
def HasOwn (P : Program) (w : World) (K : PySem.W.Frag) (mg : Str → Option Value) (base : Heap) : Prop := Has P w K mg base 1 "own" [] (spOwn K)
def HasKept (P : Program) (w : World) (K : PySem.W.Frag) (mg : Str → Option Value) (base : Heap) : Prop := Has P w K mg base 1 "_law_kept" [] (spKept K)
def HasAlike (k : Nat) (P : Program) (w : World) (K : PySem.W.Frag) (mg : Str → Option Value) (base : Heap) : Prop := Has P w K mg base k "_law_alike" ["found", "due"] (spAlike K k)
theorem ok_is_kept (F : Fun K "is_kept" "is_kept" s_is_kept f fd) (TR : TxR K mg) : FnOk P w K mg base CX0 1 f fd ["part"] (spIsKept K) := by
  refine F.ok sc_is_kept (fun vs H Q E h => ?_) (fun cdv A outer s H vs Q E hr h => ?_)
  · obtain ⟨z, rfl, _⟩ := h
    rfl
  obtain ⟨z, rfl, q⟩ := h
  obtain ⟨pK, m_KEPT, sK⟩ := TR.kept
  refine ⟨_, (pss_one (ps_ret (pe_cmpR (op_inK (K := K)) (pv 0) (pe_glob (v := .ref _) rfl m_KEPT rfl) (by first | exact nomark _ | rfl)))), ?_⟩
  walk_at "sx"
  refine ⟨pK, _, rfl, .inr (sK H), rfl, by decide, ?_⟩
  rw [if_neg (by decide), inV_strs]
  exact q
theorem ok_own (F : Fun K "own" "own" s_own f fd) (T : Txt mg) (TR : TxR K mg) : FnOk P w K mg base CX0 1 f fd [] (spOwn K) := by
  refine F.ok sc_own (fun vs H Q E h => ?_) (fun cdv A outer s H vs Q E hr h => ?_)
  · obtain ⟨rfl, _⟩ := h
    rfl
  obtain ⟨rfl, q⟩ := h
  obtain ⟨pO, vO, m_OWN, sO, rO⟩ := TR.own
  refine ⟨_, (pss_one (ps_ret (pe_callTy call_list_of (by rfl) T.z_list (by decide +kernel) (pa_cons (pe_glob (v := .ref _) rfl m_OWN rfl) pa_nil)))), ?_⟩
  walk_at "sx"
  exact ⟨pO, vO, rfl, .inr (sO H), fun l hl => q l vO _ hl upd_same (same_upd hl) (rO _)⟩
theorem ok_law_kept (F : Fun K "_law_kept" "_law_kept" s_law_kept f fd) : FnOk P w K mg base CX0 1 f fd [] (spKept K) := by
  refine F.ok sc_law_kept (fun vs H Q E h => ?_) (fun cdv A outer s H vs Q E hr h => ?_)
  · obtain ⟨rfl, _⟩ := h
    rfl
  obtain ⟨rfl, q⟩ := h
  refine ⟨_, (pss_cons (ps_set (i := 0) sc_law_kept.nd rfl (Or.inl rfl) (pe_lst (pa_cons pe_str (pa_cons pe_str (pa_cons pe_str (pa_cons pe_str (pa_cons pe_str (pa_cons pe_str (pa_cons pe_str (pa_cons pe_str pa_nil))))))))))
    (pss_one (ps_ret (pe_op op_cat (pv 0) (pe_lst (pa_cons pe_str (pa_cons pe_str (pa_cons pe_str (pa_cons pe_str (pa_cons pe_str (pa_cons pe_str (pa_cons pe_str pa_nil)))))))))))), ?_⟩
  walk_at "sx"
  rename_i a na c nc b nb
  exact q b _ ((same_upd na).free ((same_upd nc).free nb)) upd_same ((same_upd na).trans ((same_upd nc).trans (same_upd nb)))
end
end Gs
namespace Gs
open PySem PySem.Spec PyProof.Rows L2 TL
abbrev s_run : Stmt := PySem.Challenge.pw_goalstead_k21_sizes_as_read.main.body.getD 40 (.Pass ⟨0, 0, 0, 0⟩)
theorem sc_run : FnScope ["line", "at", "signs"] ["line", "at", "signs"] (defScope s_run) := ⟨rfl, rfl, rfl, by decide +kernel, rfl, by decide +kernel, by decide +kernel⟩
abbrev s_end_of_piece : Stmt := PySem.Challenge.pw_goalstead_k21_sizes_as_read.main.body.getD 41 (.Pass ⟨0, 0, 0, 0⟩)
theorem sc_end_of_piece : FnScope ["line", "at", "sign"] ["line", "at"] (defScope s_end_of_piece) := ⟨rfl, rfl, rfl, by decide +kernel, rfl, by decide +kernel, by decide +kernel⟩
abbrev s_is_piece : Stmt := PySem.Challenge.pw_goalstead_k21_sizes_as_read.main.body.getD 42 (.Pass ⟨0, 0, 0, 0⟩)
theorem sc_is_piece : FnScope ["text", "sign"] ["text"] (defScope s_is_piece) := ⟨rfl, rfl, rfl, by decide +kernel, rfl, by decide +kernel, by decide +kernel⟩
abbrev s_most_open : Stmt := PySem.Challenge.pw_goalstead_k21_sizes_as_read.main.body.getD 43 (.Pass ⟨0, 0, 0, 0⟩)
theorem sc_most_open : FnScope ["pieces", "most", "now", "piece"] ["pieces"] (defScope s_most_open) := ⟨rfl, rfl, rfl, by decide +kernel, rfl, by decide +kernel, by decide +kernel⟩
/-! ### what the program's own defs say of a line -/
def runL (S L : List Nat) (k : Nat) : Nat := ((L.drop k).takeWhile fun x => decide (x ∈ S)).length
theorem runL_yes {S L : List Nat} {k c : Nat} (h : L[k]? = some c) (hc : c ∈ S) : runL S L k = runL S L (k + 1) + 1 := by
  obtain ⟨hk, e⟩ := List.getElem?_eq_some_iff.mp h
  unfold runL
  rw [List.drop_eq_getElem_cons hk, e, List.takeWhile_cons_of_pos (by simpa using hc), List.length_cons]
theorem runL_no {S L : List Nat} {k c : Nat} (h : L[k]? = some c) (hc : c ∉ S) : runL S L k = 0 := by
  obtain ⟨hk, e⟩ := List.getElem?_eq_some_iff.mp h
  unfold runL
  rw [List.drop_eq_getElem_cons hk, e, List.takeWhile_cons_of_neg (by simpa using hc)]
  rfl
theorem runL_end {S L : List Nat} {k : Nat} (h : L.length ≤ k) : runL S L k = 0 := by
  unfold runL
  rw [List.drop_eq_nil_of_le h]
  rfl
theorem takeWhile_len (p : Nat → Bool) : ∀ l : List Nat, (l.takeWhile p).length ≤ l.length
  | [] => Nat.le_refl _
  | x :: r => by
    rw [List.takeWhile_cons]
    split
    · rw [List.length_cons, List.length_cons]
      exact Nat.succ_le_succ (takeWhile_len p r)
    · exact Nat.zero_le _
theorem runL_le (S L : List Nat) (k : Nat) (h : k ≤ L.length) : k + runL S L k ≤ L.length := by
  have h1 := takeWhile_len (fun x => decide (x ∈ S)) (L.drop k)
  rw [List.length_drop] at h1
  unfold runL
  omega
theorem one_eq {c : Nat} {z : Str} : (V.str ⟨#[c]⟩ = V.str z) ↔ tl z = [c] := by
  constructor
  · intro h
    rw [← V.str.inj h]
  · intro h
    rw [ext_tl (x := ⟨#[c]⟩) (y := z) h.symm]
def mo (s : Int × Int) (z : Str) : Int × Int := let n := if z = "(" then s.2 + 1 else if z = ")" then s.2 - 1 else s.2; (if n > s.1 then n else s.1, n)
def mostOpen (zs : List Str) : Int := (zs.foldl mo (0, 0)).1
def spRun (K : PySem.W.Frag) : Sp := fun vs H Q _ => ∃ (line signs : Str) (k : Nat), vs = [.str line, .int (k : Int), .str signs] ∧ k ≤ line.length ∧ line.length ≤ 100000 ∧ Q (.int ((k + runL (tl signs) (tl line) k : Nat) : Int)) H
def spEnd (K : PySem.W.Frag) : Sp := fun vs H Q _ => ∃ (line : Str) (k c : Nat), vs = [.str line, .int (k : Int)] ∧ line.length ≤ 100000 ∧ (tl line)[k]? = some c ∧ Q (.int ((k + 1 + runL (cls c) (tl line) (k + 1) : Nat) : Int)) H
def spIsPiece (K : PySem.W.Frag) : Sp := fun vs H Q _ => ∃ (z : Str), vs = [.str z] ∧ 0 < z.length ∧ z.length ≤ 100000 ∧ Q (.bl (isPc (tl z))) H
def spMostOpen (K : PySem.W.Frag) : Sp := fun vs H Q _ => ∃ (a : Addr) (zs : List Str), vs = [.ref a] ∧ SqL K H a (zs.map V.str) ∧ Q (.int (mostOpen zs)) H
section
variable {P : Program} {w : World} {K : PySem.W.Frag} {mg : Str → Option Value} {base : Heap} {f : Addr} {fd : FuncData}
theorem ok_run (F : Fun K "_run" "_run" s_run f fd) (T : Txt mg) : FnOk P w K mg base CX0 1 f fd ["line", "at", "signs"] (spRun K) := by
  refine F.ok sc_run (fun vs H Q E h => ?_) (fun cdv A outer s H vs Q E hr h => ?_)
  · obtain ⟨line, signs, k, rfl, _⟩ := h
    rfl
  obtain ⟨line, signs, k, rfl, hk, hl, q⟩ := h
  refine ⟨_, (pss_cons (ps_while PassesOwn.never (PW.pt (pw_and (pt_cmpR op_lt (pv 1) (pe_callB call_len_str (by rfl) T.z_len (by decide +kernel) (pa_cons (pv 0) pa_nil)) (nomark _)) (pw_and1 (pt_cmpR op_in_sign (pe_ix ix_str (pv 0) (pv 1) (fun _ _ => rfl)) (pv 2) (by rfl)))))
      (pss_one (ps_aug (i := 1) sc_run.nd rfl (.inl rfl) pe_int ip_add)))
    (pss_one (ps_ret (pv 1)))), ?_⟩
  walk_at "sx"
  refine x_while (fun m σ' H' => ∃ j : Nat, σ' = [some (.str line), some (.int (j : Int)), some (.str signs)] ∧ H' = H ∧ m = line.length - j ∧ j ≤ line.length ∧ j + runL (tl signs) (tl line) j = k + runL (tl signs) (tl line) k) _ ⟨k, rfl, rfl, rfl, hk, rfl⟩ ?_
  rintro m σ' H' ⟨j, rfl, rfl, rfl, hj, ej⟩
  walk_at "sx"
  refine x_lenS (sz hl) ?_
  walk_at "sx"
  refine x_ite (fun c => ?_) (fun c => ?_)
  · have hj2 : j < (tl line).length := by rw [tl_len]; omega
    have e1 : (tl line)[j]? = some (tl line)[j] := List.getElem?_eq_getElem hj2
    walk_at "sx"
    refine x_ixS (sz hl) (atI_nat e1) ?_
    walk_at "sx"
    refine x_ite (fun cs => ?_) (fun cs => ?_)
    · refine ⟨fun σ' H'' => σ' = [some (.str line), some (.int ((j + 1 : Nat) : Int)), some (.str signs)] ∧ H'' = H', fun σ2 H2 h => ?_, ?_⟩
      · obtain ⟨rfl, rfl⟩ := h
        rw [tl_len] at hj2
        have r := runL_yes (S := tl signs) e1 cs
        exact ⟨line.length - (j + 1), by omega, j + 1, rfl, rfl, rfl, by omega, by omega⟩
      · walk_at "sx"
        exact ⟨rfl, rfl⟩
    · walk_at "sx"
      rw [runL_no e1 cs] at ej
      rw [← ej] at q
      exact q
  · walk_at "sx"
    rw [runL_end (by rw [tl_len]; omega)] at ej
    rw [← ej] at q
    exact q
def HasRun (P : Program) (w : World) (K : PySem.W.Frag) (mg : Str → Option Value) (base : Heap) : Prop := Has P w K mg base 1 "_run" ["line", "at", "signs"] (spRun K)
theorem ok_end (F : Fun K "_end_of_piece" "_end_of_piece" s_end_of_piece f fd) (T : Txt mg) (C_run : HasRun P w K mg base) : FnOk P w K mg base CX0 2 f fd ["line", "at"] (spEnd K) := by
  refine F.ok sc_end_of_piece (fun vs H Q E h => ?_) (fun cdv A outer s H vs Q E hr h => ?_)
  · obtain ⟨line, k, c, rfl, _⟩ := h
    rfl
  obtain ⟨line, k, c, rfl, hl, hk, q⟩ := h
  have hk2 : k < line.length := by rw [← tl_len]; exact (List.getElem?_eq_some_iff.mp hk).1
  refine ⟨_, (pss_cons (ps_set (i := 2) sc_end_of_piece.nd rfl (Or.inl rfl) (pe_ix ix_str (pv 0) (pv 1) (fun _ _ => rfl)))
    (pss_cons (ps_if (PW.pt (pw_or (pt_cmpR op_in_sign (pv 2) (pe_globS rfl T.c_DIGITS) (by rfl)) (pw_or1 (pt_cmpR op_eq (pv 2) pe_str (nomark _)))))
      (pss_one (ps_ret (pe_callH C_run hr (pa_cons (pv 0) (pa_cons (pe_op op_add (pv 1) pe_int) (pa_cons (pe_globS rfl T.c_DIGITS) pa_nil))))))
      pss_nil)
    (pss_cons (ps_if (PW.pt (pw_or (pt_cmpR op_in_sign (pv 2) (pe_globS rfl T.c_SMALLS) (by rfl)) (pw_or1 (pt_cmpR op_in_sign (pv 2) (pe_globS rfl T.c_CAPITALS) (by rfl)))))
      (pss_one (ps_ret (pe_callH C_run hr (pa_cons (pv 0) (pa_cons (pe_op op_add (pv 1) pe_int) (pa_cons (pe_op op_add_str (pe_globS rfl T.c_SMALLS) (pe_globS rfl T.c_DIGITS)) pa_nil))))))
      pss_nil)
    (pss_cons (ps_if (pt_cmpR op_in_sign (pv 2) (pe_globS rfl T.c_MARKS) (by rfl))
      (pss_one (ps_ret (pe_callH C_run hr (pa_cons (pv 0) (pa_cons (pe_op op_add (pv 1) pe_int) (pa_cons (pe_globS rfl T.c_MARKS) pa_nil))))))
      pss_nil)
    (pss_one (ps_ret (pe_op op_add (pv 1) pe_int))))))), ?_⟩
  walk_at "sx"
  refine x_ixS (sz hl) (atI_nat hk) ?_
  walk_at "sx"
  have qq : ∀ (S : List Nat) (v : Int), cls c = S → v = ((k + 1 + runL S (tl line) (k + 1) : Nat) : Int) → Q (.int v) H := fun S v e1 e2 => by
    rw [e2, ← e1]
    exact q
  refine x_ite (fun cd => ?_) (fun cd => ?_)
  · rw [show ("0123456789" : Str).cps.toList = sD from tl_D] at cd
    walk_at "sx"
    exact ⟨line, _, k + 1, rfl, by omega, hl, qq _ _ (by rw [tl_D]; exact cls_D (.inl cd)) rfl⟩
  rw [show ("0123456789" : Str).cps.toList = sD from tl_D] at cd
  walk_at "sx"
  refine x_ite (fun ct => ?_) (fun ct => ?_)
  · have ct' : c = 126 := by
      have h := one_eq.mp ct
      rw [show tl ("~" : Str) = [126] from by decide +kernel] at h
      exact (List.cons.inj h).1.symm
    walk_at "sx"
    exact ⟨line, _, k + 1, rfl, by omega, hl, qq _ _ (by rw [tl_D]; exact cls_D (.inr ct')) rfl⟩
  have ct' : c ≠ 126 := fun h => ct (one_eq.mpr (by rw [h]; decide +kernel))
  walk_at "sx"
  refine x_ite (fun cs => ?_) (fun cs => ?_)
  · rw [show ("abcdefghijklmnopqrstuvwxyz" : Str).cps.toList = sS from tl_S] at cs
    walk_at "sx"
    refine x_addS (by decide +kernel) ?_
    walk_at "sx"
    exact ⟨line, _, k + 1, rfl, by omega, hl, qq _ _ (by rw [tl_append, tl_S, tl_D]; exact cls_W (.inl cs)) rfl⟩
  rw [show ("abcdefghijklmnopqrstuvwxyz" : Str).cps.toList = sS from tl_S] at cs
  walk_at "sx"
  refine x_ite (fun cc => ?_) (fun cc => ?_)
  · rw [show ("ABCDEFGHIJKLMNOPQRSTUVWXYZ" : Str).cps.toList = sC from tl_C] at cc
    walk_at "sx"
    refine x_addS (by decide +kernel) ?_
    walk_at "sx"
    exact ⟨line, _, k + 1, rfl, by omega, hl, qq _ _ (by rw [tl_append, tl_S, tl_D]; exact cls_W (.inr cc)) rfl⟩
  rw [show ("ABCDEFGHIJKLMNOPQRSTUVWXYZ" : Str).cps.toList = sC from tl_C] at cc
  walk_at "sx"
  refine x_ite (fun cm => ?_) (fun cm => ?_)
  · rw [show ("+-*/<>=&!?^@#:|.$" : Str).cps.toList = sM from tl_M] at cm
    walk_at "sx"
    exact ⟨line, _, k + 1, rfl, by omega, hl, qq _ _ (by rw [tl_M]; exact cls_M cm) rfl⟩
  rw [show ("+-*/<>=&!?^@#:|.$" : Str).cps.toList = sM from tl_M] at cm
  walk_at "sx"
  refine qq [] _ (cls_N cd ct' cs cc cm) ?_
  have e0 : ∀ l : List Nat, l.takeWhile (fun x => decide (x ∈ ([] : List Nat))) = [] := fun l => by
    cases l with
    | nil => rfl
    | cons x r => rw [List.takeWhile_cons_of_neg (by simp)]
  have e1 : runL [] (tl line) (k + 1) = 0 := by
    unfold runL
    rw [e0]
    rfl
  rw [e1]
  rfl
theorem ok_is_piece (F : Fun K "_is_piece" "_is_piece" s_is_piece f fd) (T : Txt mg) : FnOk P w K mg base CX0 1 f fd ["text"] (spIsPiece K) := by
  refine F.ok sc_is_piece (fun vs H Q E h => ?_) (fun cdv A outer s H vs Q E hr h => ?_)
  · obtain ⟨z, rfl, _⟩ := h
    rfl
  obtain ⟨z, rfl, h0, hl, q⟩ := h
  obtain ⟨c, t, e⟩ : ∃ c t, tl z = c :: t := by
    cases e : tl z with
    | nil =>
      rw [← tl_len, e] at h0
      cases h0
    | cons c t => exact ⟨c, t, rfl⟩
  have lz : z.length = t.length + 1 := by rw [← tl_len, e, List.length_cons]
  have e' : z.cps.toList = c :: t := e
  rw [e, isPc_cons] at q
  refine ⟨_, (pss_cons (ps_set (i := 1) sc_is_piece.nd rfl (Or.inl rfl) (pe_ix ix_str (pv 0) pe_int (fun _ _ => rfl)))
    (pss_cons (ps_if (pt_cmpR op_eq (pv 1) pe_str (nomark _))
      (pss_one (ps_ret (pe_and (pe_chain op_le op_le pe_int (pe_op op_sub (pe_callB call_len_str (by rfl) T.z_len (by decide +kernel) (pa_cons (pv 0) pa_nil)) pe_int) (pe_globI rfl T.c_FIGURES)) (pe_one (pe_cmpR op_ne (pe_ix ix_str (pv 0) pe_int (fun _ _ => rfl)) pe_str (nomark _))))))
      pss_nil)
    (pss_cons (ps_if (pt_cmpR op_in_sign (pv 1) (pe_globS rfl T.c_DIGITS) (by rfl))
      (pss_one (ps_ret (pe_and (pe_cmpR op_le (pe_callB call_len_str (by rfl) T.z_len (by decide +kernel) (pa_cons (pv 0) pa_nil)) (pe_globI rfl T.c_FIGURES) (nomark _)) (pe_one (pe_or (pe_cmpR op_ne (pv 1) pe_str (nomark _)) (pe_one (pe_cmpR op_eq (pe_callB call_len_str (by rfl) T.z_len (by decide +kernel) (pa_cons (pv 0) pa_nil)) pe_int (nomark _))))))))
      pss_nil)
    (pss_cons (ps_if (PW.pt (pw_or (pt_cmpR op_in_sign (pv 1) (pe_globS rfl T.c_SMALLS) (by rfl)) (pw_or1 (pt_cmpR op_in_sign (pv 1) (pe_globS rfl T.c_CAPITALS) (by rfl)))))
      (pss_one (ps_ret (pe_cmpR op_le (pe_callB call_len_str (by rfl) T.z_len (by decide +kernel) (pa_cons (pv 0) pa_nil)) (pe_globI rfl T.c_WORD_SIGNS) (nomark _))))
      pss_nil)
    (pss_cons (ps_if (pt_cmpR op_in_sign (pv 1) (pe_globS rfl T.c_MARKS) (by rfl))
      (pss_one (ps_ret (pe_cmpR op_le (pe_callB call_len_str (by rfl) T.z_len (by decide +kernel) (pa_cons (pv 0) pa_nil)) (pe_globI rfl T.c_MARK_SIGNS) (nomark _))))
      pss_nil)
    (pss_one (ps_ret (pe_cmpR op_in_sign (pv 1) pe_str (by rfl))))))))), ?_⟩
  walk_at "sx"
  refine x_ixS (c := c) (sz hl) (at0 (by rw [e']; rfl)) ?_
  walk_at "sx"
  refine x_ite (fun ct => ?_) (fun ct => ?_)
  · have ct' : c = 126 := by
      have h := one_eq.mp ct
      rw [show tl ("~" : Str) = [126] from by decide +kernel] at h
      exact (List.cons.inj h).1.symm
    rw [if_pos ct'] at q
    have qb : ∀ b : Bool, (b = true ↔ (1 ≤ t.length ∧ t.length ≤ 60 ∧ t.head? ≠ some 48)) → Q (.bl b) H := fun b hb => by
      rw [show b = decide (1 ≤ t.length ∧ t.length ≤ 60 ∧ t.head? ≠ some 48) by rw [Bool.eq_iff_iff, hb, decide_eq_true_iff]]
      exact q
    walk_at "sx"
    refine x_lenS (sz hl) ?_
    rw [lz]
    walk_at "sx"
    refine x_ite (fun c1 => ?_) (fun c1 => ?_)
    · walk_at "sx"
      refine x_ite (fun c2 => ?_) (fun c2 => ?_)
      · walk_at "sx"
        obtain ⟨d, r, rfl⟩ : ∃ d r, t = d :: r := by
          cases t with
          | nil =>
            rw [List.length_nil] at c1
            omega
          | cons d r => exact ⟨d, r, rfl⟩
        refine x_ixS (c := d) (sz hl) (at1 (by rw [e']; rfl)) ?_
        walk_at "sx"
        refine qb _ ?_
        rw [Bool.not_eq_true', decide_eq_false_iff_not, one_eq, show tl ("0" : Str) = [48] from by decide +kernel]
        constructor
        · intro h
          exact ⟨by omega, by omega, fun h2 => h (by rw [show d = 48 from Option.some.inj h2])⟩
        · intro h h2
          exact h.2.2 (by rw [(List.cons.inj h2).1]; rfl)
      · walk_at "sx"
        exact qb false ⟨(fun h => by cases h), (fun h => by omega)⟩
    · walk_at "sx"
      exact qb false ⟨(fun h => by cases h), (fun h => by omega)⟩
  have ct' : c ≠ 126 := fun h => ct (one_eq.mpr (by rw [h]; decide +kernel))
  rw [if_neg ct'] at q
  walk_at "sx"
  refine x_ite (fun cd => ?_) (fun cd => ?_)
  · rw [show ("0123456789" : Str).cps.toList = sD from tl_D] at cd
    rw [if_pos cd] at q
    have qb : ∀ b : Bool, (b = true ↔ (t.length + 1 ≤ 60 ∧ (c ≠ 48 ∨ t = []))) → Q (.bl b) H := fun b hb => by
      rw [show b = decide (t.length + 1 ≤ 60 ∧ (c ≠ 48 ∨ t = [])) by rw [Bool.eq_iff_iff, hb, decide_eq_true_iff]]
      exact q
    have e48 : (V.str ⟨#[c]⟩ = V.str ("0" : Str)) ↔ c = 48 := by
      rw [one_eq, show tl ("0" : Str) = [48] from by decide +kernel]
      exact ⟨fun h => (List.cons.inj h).1.symm, fun h => by rw [h]⟩
    walk_at "sx"
    refine x_lenS (sz hl) ?_
    rw [lz]
    walk_at "sx"
    refine x_ite (fun c1 => ?_) (fun c1 => ?_)
    · walk_at "sx"
      refine x_iteN (fun c2 => ?_) (fun c2 => ?_)
      · rw [e48] at c2
        exact qb true ⟨fun _ => ⟨by omega, .inl c2⟩, fun _ => rfl⟩
      · rw [e48] at c2
        walk_at "sx"
        refine x_lenS (sz hl) ?_
        rw [lz]
        walk_at "sx"
        refine qb _ ?_
        rw [decide_eq_true_iff]
        constructor
        · intro h
          have h' := V.int.inj h
          refine ⟨by omega, .inr ?_⟩
          cases t with
          | nil => rfl
          | cons d r =>
            rw [List.length_cons] at h'
            omega
        · intro h
          rcases h.2 with h2 | h2
          · exact absurd c2 h2
          · rw [h2]
            rfl
    · walk_at "sx"
      exact qb false ⟨(fun h => by cases h), (fun h => by omega)⟩
  rw [show ("0123456789" : Str).cps.toList = sD from tl_D] at cd
  rw [if_neg cd] at q
  walk_at "sx"
  have word : (c ∈ sS ∨ c ∈ sC) → Q (.bl (decide (((t.length + 1 : Nat) : Int) ≤ 12))) H := fun h => by
    rw [if_pos h] at q
    rw [show decide (((t.length + 1 : Nat) : Int) ≤ 12) = decide (t.length + 1 ≤ 12) by rw [decide_eq_decide]; omega]
    exact q
  refine x_ite (fun cs => ?_) (fun cs => ?_)
  · rw [show ("abcdefghijklmnopqrstuvwxyz" : Str).cps.toList = sS from tl_S] at cs
    walk_at "sx"
    refine x_lenS (sz hl) ?_
    rw [lz]
    walk_at "sx"
    exact word (.inl cs)
  rw [show ("abcdefghijklmnopqrstuvwxyz" : Str).cps.toList = sS from tl_S] at cs
  walk_at "sx"
  refine x_ite (fun cc => ?_) (fun cc => ?_)
  · rw [show ("ABCDEFGHIJKLMNOPQRSTUVWXYZ" : Str).cps.toList = sC from tl_C] at cc
    walk_at "sx"
    refine x_lenS (sz hl) ?_
    rw [lz]
    walk_at "sx"
    exact word (.inr cc)
  rw [show ("ABCDEFGHIJKLMNOPQRSTUVWXYZ" : Str).cps.toList = sC from tl_C] at cc
  rw [if_neg (by simp [cs, cc])] at q
  walk_at "sx"
  refine x_ite (fun cm => ?_) (fun cm => ?_)
  · rw [show ("+-*/<>=&!?^@#:|.$" : Str).cps.toList = sM from tl_M] at cm
    rw [if_pos cm] at q
    walk_at "sx"
    refine x_lenS (sz hl) ?_
    rw [lz]
    walk_at "sx"
    rw [show decide (((t.length + 1 : Nat) : Int) ≤ 3) = decide (t.length + 1 ≤ 3) by rw [decide_eq_decide]; omega]
    exact q
  rw [show ("+-*/<>=&!?^@#:|.$" : Str).cps.toList = sM from tl_M] at cm
  rw [if_neg cm] at q
  walk_at "sx"
  rw [show ("()," : Str).cps.toList = [40, 41, 44] from by decide +kernel]
  exact q
theorem ok_most_open (F : Fun K "_most_open" "_most_open" s_most_open f fd) (T : Txt mg) : FnOk P w K mg base CX0 1 f fd ["pieces"] (spMostOpen K) := by
  refine F.ok sc_most_open (fun vs H Q E h => ?_) (fun cdv A outer s H vs Q E hr h => ?_)
  · obtain ⟨a, zs, rfl, _⟩ := h
    rfl
  obtain ⟨a, zs, rfl, hS, q⟩ := h
  refine ⟨_, (pss_cons (ps_set (i := 1) sc_most_open.nd rfl (Or.inl rfl) pe_int)
    (pss_cons (ps_set (i := 2) sc_most_open.nd rfl (Or.inl rfl) pe_int)
    (pss_cons (ps_for PassesOwn.never rfl (pi_list (pv 0)) (pg_name (i := 3) sc_most_open.nd rfl (.inl rfl))
      (pss_cons (ps_if (pt_cmpR op_eq (pv 3) pe_str (nomark _))
      (pss_one (ps_aug (i := 2) sc_most_open.nd rfl (.inl rfl) pe_int ip_add))
      (pss_one (ps_if (pt_cmpR op_eq (pv 3) pe_str (nomark _))
      (pss_one (ps_aug (i := 2) sc_most_open.nd rfl (.inl rfl) pe_int ip_sub))
      pss_nil)))
    (pss_one (ps_set (i := 1) sc_most_open.nd rfl (Or.inl rfl) (pe_callB (call_max2 rfl) (by rfl) T.z_max (by decide +kernel) (pa_cons (pv 1) (pa_cons (pv 2) pa_nil)))))))
    (pss_one (ps_ret (pv 1)))))), ?_⟩
  walk_at "sx"
  refine x_forL (a := a) (xs := zs.map V.str) (fun i σ' H' => ∃ x, σ' = [some (.ref a), some (.int ((zs.take i).foldl mo (0, 0)).1), some (.int ((zs.take i).foldl mo (0, 0)).2), x] ∧ H' = H) ⟨none, rfl, rfl⟩ (fun i σ' H' _ h => ?_) (fun i x σ' H' hx h => ?_) (fun σ' H' h => ?_) hS
  · obtain ⟨x, _, rfl⟩ := h
    exact hS
  · obtain ⟨x0, rfl, rfl⟩ := h
    obtain ⟨z, hz, rfl⟩ : ∃ z, zs[i]? = some z ∧ x = .str z := by
      rw [List.getElem?_map] at hx
      cases e : zs[i]? with
      | none =>
        rw [e] at hx
        cases hx
      | some z =>
        rw [e] at hx
        exact ⟨z, rfl, (Option.some.inj hx).symm⟩
    have st : (zs.take (i + 1)).foldl mo (0, 0) = mo ((zs.take i).foldl mo (0, 0)) z := by
      rw [List.take_add_one, hz, List.foldl_append]
      rfl
    rw [st]
    generalize (zs.take i).foldl mo (0, 0) = s
    have ez : ∀ u : Str, (V.str z = V.str u) ↔ z = u := fun u => ⟨V.str.inj, congrArg V.str⟩
    walk_at "sx"
    refine x_ite (fun c1 => ?_) (fun c1 => ?_)
    · rw [ez] at c1
      walk_at "sx"
      refine x_ii ?_
      walk_at "sx"
      refine ⟨some (.str z), ?_, rfl⟩
      unfold mo
      rw [if_pos c1]
      rfl
    · rw [ez] at c1
      walk_at "sx"
      refine x_ite (fun c2 => ?_) (fun c2 => ?_)
      · rw [ez] at c2
        walk_at "sx"
        refine x_ii ?_
        walk_at "sx"
        refine ⟨some (.str z), ?_, rfl⟩
        unfold mo
        rw [if_neg c1, if_pos c2]
        rfl
      · rw [ez] at c2
        walk_at "sx"
        refine x_ii ?_
        walk_at "sx"
        refine ⟨some (.str z), ?_, rfl⟩
        unfold mo
        rw [if_neg c1, if_neg c2]
        rfl
  · obtain ⟨x, rfl, rfl⟩ := h
    rw [List.length_map, List.take_length] at *
    walk_at "sx"
    exact q
end
end Gs
namespace Gs
open PySem PySem.Spec PyProof.Rows L2 TL
abbrev s_pieces_of : Stmt := PySem.Challenge.pw_goalstead_k21_sizes_as_read.main.body.getD 38 (.Pass ⟨0, 0, 0, 0⟩)
theorem sc_pieces_of : FnScope ["line", "most", "pieces", "at", "end"] ["line", "most"] (defScope s_pieces_of) := ⟨rfl, rfl, rfl, by decide +kernel, rfl, by decide +kernel, by decide +kernel⟩
theorem drop_tw (p : Nat → Bool) : ∀ l : List Nat, l.drop (l.takeWhile p).length = l.dropWhile p
  | [] => rfl
  | x :: r => by
    rw [List.takeWhile_cons, List.dropWhile_cons]
    split
    · rw [List.length_cons, List.drop_succ_cons]
      exact drop_tw p r
    · rfl
theorem cut_mid {z : Str} {i j : Nat} (h1 : i ≤ j) (h2 : j ≤ z.length) : tl (cutS z (some (i : Int)) (some (j : Int))) = ((tl z).drop i).take (j - i) := by
  show (((tl z).drop (HT.sIx z.length 0 (some (i : Int)))).take (HT.sIx z.length z.length (some (j : Int)) - HT.sIx z.length 0 (some (i : Int)))) = _
  rw [HT.sIx_nat, HT.sIx_nat, Nat.min_eq_left h2, Nat.min_eq_left (Nat.le_trans h1 h2)]
theorem run_blanks {L : List Nat} {k : Nat} {ts : List (List Nat)} (h : Cut (L.drop k) ts) : Cut (L.drop (k + runL [32] L k)) ts ∧ ∀ r, L.drop (k + runL [32] L k) ≠ 32 :: r := by
  have e : L.drop (k + runL [32] L k) = (L.drop k).dropWhile fun x => decide (x ∈ [32]) := by
    rw [← List.drop_drop]
    exact drop_tw _ _
  rw [e]
  refine ⟨h.drop, fun r hr => ?_⟩
  have : ∀ l : List Nat, l.dropWhile (fun x => decide (x ∈ [32])) ≠ 32 :: r := by
    intro l
    induction l with
    | nil => exact fun z => by cases z
    | cons y l ih =>
      by_cases hy : y = 32
      · rw [List.dropWhile_cons_of_pos (by simp [hy])]
        exact ih
      · rw [List.dropWhile_cons_of_neg (by simp [hy])]
        exact fun z => hy (List.cons.inj z).1
  exact this _ hr
/-- the promise of pieces_of where it refuses nothing -/
def spPieces (K : PySem.W.Frag) : Sp := fun vs H Q _ => ∃ (line : Str) (most : Int) (zs : List Str), vs = [.str line, .int most] ∧ line.length ≤ 100000 ∧ Cut (tl line) (zs.map tl) ∧ (∀ z ∈ zs, isPc (tl z) = true) ∧ (zs.length : Int) ≤ most ∧ mostOpen zs ≤ 12 ∧
  ∀ (p : Addr) (H' : Hp), H p = none → Same H H' → H' p = some (.lst (zs.map V.str)) → Q (.ref p) H'
theorem Cut.len {l : List Nat} {ts : List (List Nat)} (h : Cut l ts) : ts.length ≤ l.length := by
  induction h with
  | nil => exact Nat.le_refl _
  | blank h ih => rw [List.length_cons]; omega
  | piece _ _ _ h ih => rw [List.length_cons, List.length_cons, List.length_append]; omega
section
variable {P : Program} {w : World} {K : PySem.W.Frag} {mg : Str → Option Value} {base : Heap} {f : Addr} {fd : FuncData}
def HasEnd (P : Program) (w : World) (K : PySem.W.Frag) (mg : Str → Option Value) (base : Heap) : Prop := Has P w K mg base 2 "_end_of_piece" ["line", "at"] (spEnd K)
def HasIsPiece (P : Program) (w : World) (K : PySem.W.Frag) (mg : Str → Option Value) (base : Heap) : Prop := Has P w K mg base 1 "_is_piece" ["text"] (spIsPiece K)
def HasMostOpen (P : Program) (w : World) (K : PySem.W.Frag) (mg : Str → Option Value) (base : Heap) : Prop := Has P w K mg base 1 "_most_open" ["pieces"] (spMostOpen K)
theorem ok_pieces_of {kws : List (Str × V)} (F : FunD K "pieces_of" "pieces_of" (defArgs s_pieces_of) (defBody s_pieces_of) (defScope s_pieces_of) [] kws f fd) (T : Txt mg) (C_run : HasRun P w K mg base) (C_end_of_piece : HasEnd P w K mg base)
    (C_is_piece : HasIsPiece P w K mg base) (C_most_open : HasMostOpen P w K mg base) : FnOk P w K mg base CX0 3 f fd ["line", "most"] (spPieces K) := by
  refine F.ok sc_pieces_of (fun vs H Q E h => ?_) (fun cdv A outer s H vs Q E hr h => ?_)
  · obtain ⟨line, most, zs, rfl, _⟩ := h
    rfl
  obtain ⟨line, most, zs, rfl, hl, hcut, hpc, hm, ho, q⟩ := h
  refine ⟨_, PSs.nox (pss_cons (ps_set (i := 2) sc_pieces_of.nd rfl (Or.inl rfl) (pe_lst pa_nil))
    (pss_cons (ps_set (i := 3) sc_pieces_of.nd rfl (Or.inl rfl) (pe_callH C_run hr (pa_cons (pv 0) (pa_cons pe_int (pa_cons pe_str pa_nil)))))
    (pss_cons (ps_while PassesOwn.never (pt_cmpR op_lt (pv 3) (pe_callB call_len_str (by rfl) T.z_len (by decide +kernel) (pa_cons (pv 0) pa_nil)) (nomark _))
      (pss_cons (ps_set (i := 4) sc_pieces_of.nd rfl (Or.inl rfl) (pe_callH C_end_of_piece hr (pa_cons (pv 0) (pa_cons (pv 3) pa_nil))))
    (pss_cons (ps_if (pt_not (pt_val (pe_callH C_is_piece hr (pa_cons (pe_slice sl_str (pv 0) (po_some (pv 3)) (po_some (pv 4))) pa_nil))))
      (pss_one ps_never)
      pss_nil)
    (pss_cons (ps_expr (pe_bm PySem.F.plainAttrs_list PySem.F.slot_list_append PySem.F.type_list_append mt_append (pv 2) (pa_cons (pe_slice sl_str (pv 0) (po_some (pv 3)) (po_some (pv 4))) pa_nil)))
    (pss_one (ps_set (i := 3) sc_pieces_of.nd rfl (Or.inl rfl) (pe_callH C_run hr (pa_cons (pv 0) (pa_cons (pv 4) (pa_cons pe_str pa_nil))))))))))
    (pss_cons (ps_if (PW.pt (pw_or (pt_cmpR op_gt (pe_callB (call_lenK (K := K)) (by rfl) T.z_len (by decide +kernel) (pa_cons (pv 2) pa_nil)) (pv 1) (nomark _)) (pw_or1 (pt_cmpR op_gt (pe_callH C_most_open hr (pa_cons (pv 2) pa_nil)) (pe_globI rfl T.c_BRACKETS) (nomark _)))))
      (pss_one ps_never)
      pss_nil)
    (pss_one (ps_ret (pv 2))))))), ?_⟩
  walk_at "sx"
  rename_i a na
  have sa := same_upd (o := .lst []) na
  have e32 : tl (" " : Str) = [32] := by decide +kernel
  have hk0 : runL [32] (tl line) 0 ≤ line.length := by
    have := runL_le [32] (tl line) 0 (Nat.zero_le _)
    rw [tl_len] at this
    omega
  refine ⟨line, _, 0, rfl, Nat.zero_le _, hl, ?_⟩
  rw [e32]
  walk_at "sx"
  refine x_while (fun m σ' H' => ∃ (k : Nat) (done todo : List Str) (y : Option V), σ' = [some (.str line), some (.int most), some (.ref a), some (.int (k : Int)), y] ∧ Same H H' ∧ H' a = some (.lst (done.map V.str)) ∧ zs = done ++ todo ∧ Cut ((tl line).drop k) (todo.map tl) ∧
    (∀ r, (tl line).drop k ≠ 32 :: r) ∧ k ≤ line.length ∧ m = line.length - k) _ ⟨_, [], zs, none, rfl, sa, upd_same, rfl, ?_, ?_, ?_, rfl⟩ ?_
  · exact (run_blanks (k := 0) hcut).1
  · exact (run_blanks (k := 0) hcut).2
  · rw [Nat.zero_add]
    exact hk0
  rintro m σ' H' ⟨k, done, todo, y, rfl, sH, eH, ez, hc, hb, hk, rfl⟩
  walk_at "sx"
  refine x_lenS (sz hl) ?_
  walk_at "sx"
  refine x_ite (fun c => ?_) (fun c => ?_)
  · have hkl : k < (tl line).length := by rw [tl_len]; omega
    obtain ⟨cd, hcd⟩ : ∃ cd, (tl line)[k]? = some cd := ⟨_, List.getElem?_eq_getElem hkl⟩
    have ed : (tl line).drop k = cd :: (tl line).drop (k + 1) := by
      obtain ⟨h1, h2⟩ := List.getElem?_eq_some_iff.mp hcd
      rw [List.drop_eq_getElem_cons h1, h2]
    rw [ed] at hc hb
    have hc32 : cd ≠ 32 := fun z => hb _ (by rw [z])
    obtain ⟨t, l, z, todo', el, et, eo, ht, hs, hcut'⟩ : ∃ t l z todo', (tl line).drop (k + 1) = t ++ l ∧ tl z = cd :: t ∧ todo = z :: todo' ∧ (∀ x ∈ t, x ∈ cls cd) ∧ Stop cd l ∧ Cut l (todo'.map tl) := by
      generalize hL : cd :: (tl line).drop (k + 1) = L0 at hc
      generalize hT : todo.map tl = T0 at hc
      cases hc with
      | nil => cases hL
      | blank h => exact absurd (List.cons.inj hL).1 hc32
      | @piece c' t l ts h1 h2 h3 h4 =>
        obtain ⟨e1, e2⟩ := List.cons.inj hL
        subst e1
        cases todo with
        | nil => cases hT
        | cons z todo' =>
          obtain ⟨e3, e4⟩ := List.cons.inj hT
          subst e4
          exact ⟨t, l, z, todo', e2, e3, rfl, h2, h3, h4⟩
    subst eo
    have er : runL (cls cd) (tl line) (k + 1) = t.length := by
      unfold runL
      rw [el, run_stop ht (stop_of hs)]
    have elen : (tl line).length = k + 1 + t.length + l.length := by
      have := congrArg List.length el
      rw [List.length_drop, List.length_append] at this
      omega
    have edl : (tl line).drop (k + 1 + t.length) = l := by
      rw [← List.drop_drop, el, List.drop_left]
    rw [tl_len] at elen
    have hkz : isPc (tl z) = true := hpc z (by rw [ez]; simp)
    have ecut : cutS line (some (k : Int)) (some ((k + 1 + t.length : Nat) : Int)) = z := by
      refine ext_tl ?_
      rw [cut_mid (by omega) (by omega), et, ed, el, show k + 1 + t.length - k = t.length + 1 by omega, List.take_succ_cons, List.take_left]
    have zl : z.length = t.length + 1 := by rw [← tl_len, et, List.length_cons]
    refine ⟨fun σ2 H2 => ∃ (k2 : Nat) (y : Option V), σ2 = [some (.str line), some (.int most), some (.ref a), some (.int (k2 : Int)), y] ∧ Same H H2 ∧ H2 a = some (.lst ((done ++ [z]).map V.str)) ∧ k2 = k + 1 + t.length + runL [32] (tl line) (k + 1 + t.length), fun σ2 H2 h => ?_, ?_⟩
    · obtain ⟨k2, y2, rfl, s2, e2, rfl⟩ := h
      have rb := run_blanks (L := tl line) (k := k + 1 + t.length) (ts := todo'.map tl) (by rw [edl]; exact hcut')
      have rle := runL_le [32] (tl line) (k + 1 + t.length) (by rw [tl_len]; omega)
      rw [tl_len] at rle
      exact ⟨_, by omega, _, done ++ [z], todo', y2, rfl, s2, e2, by rw [ez, List.append_assoc]; rfl, rb.1, rb.2, rle, rfl⟩
    · walk_at "sx"
      refine ⟨line, k, cd, rfl, hl, hcd, ?_⟩
      rw [er]
      walk_at "sx"
      refine x_slS (sz hl) ?_
      rw [ecut]
      walk_at "sx"
      refine ⟨z, rfl, by omega, by omega, ?_⟩
      rw [hkz]
      walk_at "sx"
      refine x_slS (sz hl) ?_
      rw [ecut]
      walk_at "sx"
      have hdl : done.length < 100000 := by
        have h1 := hcut.len
        rw [ez, List.length_map, List.length_append, List.length_cons, tl_len] at h1
        omega
      refine x_app eH (szl (by rw [List.length_map]; exact hdl)) ?_
      walk_at "sx"
      refine ⟨line, _, k + 1 + t.length, rfl, by omega, hl, ?_⟩
      rw [e32]
      walk_at "sx"
      refine ⟨_, _, rfl, fun b o hb2 => ?_, ?_, rfl⟩
      · rw [upd_ne (ne_of_none hb2 na)]
        exact sH b o hb2
      · rw [upd_same, List.map_append]
        rfl
  · have ek : (tl line).drop k = [] := List.drop_eq_nil_of_le (by rw [tl_len]; omega)
    rw [ek] at hc
    have et : todo = [] := by
      generalize hT : todo.map tl = T0 at hc
      cases hc
      cases todo with
      | nil => rfl
      | cons z r => cases hT
    subst et
    rw [List.append_nil] at ez
    subst ez
    walk_at "sx"
    rw [List.length_map]
    refine x_ite (fun cm => ?_) (fun cm => ?_)
    · omega
    walk_at "sx"
    refine ⟨a, zs, rfl, .of eH, ?_⟩
    walk_at "sx"
    refine x_ite (fun c12 => ?_) (fun c12 => ?_)
    · omega
    walk_at "sx"
    exact q a H' na sH eH
end
end Gs
namespace Gs
open PySem PySem.Spec PyProof.Rows L2 TL
def keyOf (o : Op) : Str × Bool := (o.n, decide (o.s = ("ahead" : Str)))
/-- a text of a word, an unknown, a mark -/
def NmOk (z : Str) : Prop := ∃ way, NameOk way (tl z)
def side4 : List Str := ["left", "right", "none", "ahead"]
/-- operators as a law draws them -/
structure OpsOk (ops : List Op) : Prop where
  len : ops.length ≤ 8
  lv : ∀ o ∈ ops, 1 ≤ o.l ∧ o.l ≤ 9
  nm : ∀ o ∈ ops, NmOk o.n
  nd : ((ownL ++ ops).map keyOf).Nodup
  sd : ∀ o ∈ ops, o.s ∈ side4
  sid : SideOk (ownL ++ ops)
  lc : ∀ o ∈ ops, ∀ c t, tl o.n = c :: t → c ∉ sC
  nk : ∀ o ∈ ops, o.n ∉ keptL
theorem own_lv : ∀ o ∈ ownL, 1 ≤ o.l ∧ o.l ≤ 9 := by decide +kernel
theorem own_nd : (ownL.map keyOf).Nodup := by decide +kernel
theorem own_side : SideOk ownL := by
  unfold SideOk
  decide +kernel
theorem OpsOk.nil : OpsOk [] := ⟨by simp, (fun o h => by cases h), (fun o h => by cases h), by rw [List.append_nil]; exact own_nd, (fun o h => by cases h), by rw [List.append_nil]; exact own_side, (fun o h => by cases h), (fun o h => by cases h)⟩
section
variable {P : Program} {w : World} {K : PySem.W.Frag} {mg : Str → Option Value} {base : Heap} {f : Addr} {fd : FuncData}
def HasName (P : Program) (w : World) (K : PySem.W.Frag) (mg : Str → Option Value) (base : Heap) : Prop := Has P w K mg base 3 "_law_name" ["pool", "way"] (spName K)
end
end Gs
namespace Gs
open PySem PySem.Spec PyProof.Rows L2 TL SrtK
abbrev s_law_figure : Stmt := PySem.Challenge.pw_goalstead_k21_sizes_as_read.main.body.getD 97 (.Pass ⟨0, 0, 0, 0⟩)
theorem sc_law_figure : FnScope ["thing"] ["thing"] (defScope s_law_figure) := ⟨rfl, rfl, rfl, by decide +kernel, rfl, by decide +kernel, by decide +kernel⟩
abbrev s_law_weight : Stmt := PySem.Challenge.pw_goalstead_k21_sizes_as_read.main.body.getD 96 (.Pass ⟨0, 0, 0, 0⟩)
theorem sc_law_weight : FnScope ["thing", "parts", "part", "one"] ["thing"] (defScope s_law_weight) := ⟨rfl, rfl, rfl, by decide +kernel, rfl, by decide +kernel, by decide +kernel⟩
abbrev s_law_alike : Stmt := PySem.Challenge.pw_goalstead_k21_sizes_as_read.main.body.getD 98 (.Pass ⟨0, 0, 0, 0⟩)
theorem sc_law_alike : FnScope ["found", "due", "k"] ["found", "due"] (defScope s_law_alike) := ⟨rfl, rfl, rfl, by decide +kernel, rfl, by decide +kernel, by decide +kernel⟩
theorem strLog20 {i : Int} (h : i.natAbs < 10 ^ 60) : i.natAbs.log2 < 1920 := Nat.lt_trans (log_of (a := 200) (by omega) (by decide)) (by decide)
theorem tl_neg20 {n : Int} (h : n < 0) : tl (("~" : Str) ++ toString (0 - n)) = 126 :: numL (0 - n).toNat := by
  rw [tl_append, show tl ("~" : Str) = [126] from by decide +kernel]
  have e : (0 - n) = (((0 - n).toNat : Nat) : Int) := by omega
  show 126 :: tl (Str.ofString (toString (0 - n))) = _
  rw [e, tl_num]
  rfl
theorem tl_pos20 {n : Int} (h : ¬ n < 0) : tl (Str.ofString (toString n)) = numL n.toNat := by
  have e : n = ((n.toNat : Nat) : Int) := by omega
  rw [e, tl_num, Int.toNat_natCast]
def Len12 (z : Str) : Prop := z.length ≤ 12
theorem NmOk.len {z : Str} (h : NmOk z) : Len12 z := by
  obtain ⟨way, c, t, e, h⟩ := h
  have el : z.length = t.length + 1 := by rw [← tl_lenP, e, List.length_cons]
  unfold Len12
  rcases h with ⟨_, _, _, h⟩ | ⟨_, _, _, h⟩ | ⟨_, _, _, h⟩ <;> omega
mutual
theorem okT_imp {T N T' N' : Str → Prop} (h1 : ∀ z, T z → T' z) (h2 : ∀ z, N z → N' z) : ∀ {p : Pt}, okT T N p → okT T' N' p
  | .i _, h => h
  | .s _, h => by
    rw [okT] at h ⊢
    exact h1 _ h
  | .t _ _, h => by
    rw [okT] at h ⊢
    exact ⟨h2 _ h.1, h.2.1, h.2.2.1, okL_imp h1 h2 h.2.2.2⟩
theorem okL_imp {T N T' N' : Str → Prop} (h1 : ∀ z, T z → T' z) (h2 : ∀ z, N z → N' z) : ∀ {ps : List Pt}, okL T N ps → okL T' N' ps
  | [], _ => by simp [okL]
  | _ :: _, h => by
    rw [okL] at h ⊢
    exact ⟨okT_imp h1 h2 h.1, okL_imp h1 h2 h.2⟩
end
def leafAt (x : V) (u : Pt) : Prop := (∃ n, x = .int n ∧ u = .i n ∧ n.natAbs < 10 ^ 60) ∨ ∃ z, x = .str z ∧ u = .s z
def spFig (K : PySem.W.Frag) : Sp := fun vs H Q _ => ∃ (x : V) (u : Pt), vs = [x] ∧ leafAt x u ∧ ∀ z : Str, tl z = figT u → Q (.str z) H
def Two (K : PySem.W.Frag) (H : Hp) (v : V) : Prop := ∃ a b, TvAt K H 3 v (twoI a b)
def spWt (K : PySem.W.Frag) (k : Nat) : Sp := fun vs H Q _ => ∃ (x : V) (u : Pt), vs = [x] ∧ PtAt K H k x u ∧ okT NmOk NmOk u ∧ ∀ v H', Same H H' → TvAt K H' 3 v (twoI (szT u : Int) (dpT u : Int)) → Q v H'
theorem two_ex {K : PySem.W.Frag} {H : Hp} {t : Addr} {a b : Int} (h : SqT K H t [.int a, .int b]) : TvAt K H 3 (.ref t) (twoI a b) := by
  refine ⟨t, _, rfl, h, by simp, rfl, fun i y u h1 h2 => ?_⟩
  match i with
  | 0 =>
    cases h1
    cases h2
    rfl
  | 1 =>
    cases h1
    cases h2
    rfl
  | i + 2 => cases h1
theorem two_inv {K : PySem.W.Frag} {H : Hp} {v : V} {a b : Int} (h : TvAt K H 3 v (twoI a b)) : ∃ t, v = .ref t ∧ SqT K H t [.int a, .int b] := by
  obtain ⟨t, vs, rfl, s, _, hl, f⟩ := h
  match vs, hl with
  | [x, y], _ =>
    have e1 : x = .int a := f 0 x (.i a) rfl rfl
    have e2 : y = .int b := f 1 y (.i b) rfl rfl
    subst e1 e2
    exact ⟨t, rfl, s⟩
theorem Two.mono {K : PySem.W.Frag} {H H' : Hp} {v : V} (g : ∀ a xs, SqT K H a xs → SqT K H' a xs) : Two K H v → Two K H' v := fun ⟨a, b, h⟩ => ⟨a, b, h.mono g⟩
theorem stb_two {K : PySem.W.Frag} : Stb2 K (fun H v (p : Pt) => TvAt K H 3 v (twoI (szT p : Int) (dpT p : Int))) := fun _ _ _ _ g h => h.mono g
theorem ints_ex {vs : List V} {ns : List Int} (h : AllAt (fun v (n : Int) => v = .int n) vs ns) : vs = ns.map V.int := by
  refine List.ext_getElem? fun i => ?_
  rw [List.getElem?_map]
  cases e : vs[i]? with
  | none =>
    have h1 := List.getElem?_eq_none_iff.mp e
    rw [List.getElem?_eq_none (by have := h.1; omega)]
    rfl
  | some v =>
    have hi := (List.getElem?_eq_some_iff.mp e).1
    have h2 : ns[i]? = some (ns[i]'(by have := h.1; omega)) := List.getElem?_eq_getElem _
    rw [h2, h.2 i v _ e h2]
    rfl
theorem sum_sz : ∀ ps : List Pt, (ps.map fun p => (szT p : Int)).sum = (szL ps : Int)
  | [] => rfl
  | x :: r => by
    rw [List.map_cons, List.sum_cons, sum_sz r, szL]
    omega
theorem max_dp {ps : List Pt} {mx : Int} (h1 : mx ∈ ps.map fun p => (dpT p : Int)) (h2 : ∀ y, y ∈ (ps.map fun p => (dpT p : Int)) → y ≤ mx) : mx = (dpL ps : Int) := by
  obtain ⟨p, hp, rfl⟩ := List.mem_map.mp h1
  have a := dpL_mem hp
  have b := dpL_le (ps := ps) (k := dpT p) fun q hq => by
    have := h2 _ (List.mem_map.mpr ⟨q, hq, rfl⟩)
    omega
  omega
section
variable {P : Program} {w : World} {K : PySem.W.Frag} {mg : Str → Option Value} {base : Heap} {f : Addr} {fd : FuncData}
def HasFig (P : Program) (w : World) (K : PySem.W.Frag) (mg : Str → Option Value) (base : Heap) : Prop := Has P w K mg base 1 "_law_figure" ["thing"] (spFig K)
def HasWt (k : Nat) (P : Program) (w : World) (K : PySem.W.Frag) (mg : Str → Option Value) (base : Heap) : Prop := Has P w K mg base k "_law_weight" ["thing"] (spWt K k)
theorem ok_law_figure20 (F : Fun K "_law_figure" "_law_figure" s_law_figure f fd) (T : Txt mg) : FnOk P w K mg base CX0 1 f fd ["thing"] (spFig K) := by
  refine F.ok sc_law_figure (fun vs H Q E h => ?_) (fun cdv A outer s H vs Q E hr h => ?_)
  · obtain ⟨x, u, rfl, _⟩ := h
    rfl
  obtain ⟨x, u, rfl, hx, q⟩ := h
  refine ⟨_, (pss_cons (ps_if (pt_val (pe_callB (call_isiKK (K := K)) (by rfl) T.z_isinstance (by decide +kernel) (pa_cons (pv 0) (pa_cons (pe_bltn (v := .ty "str") (by rfl) T.z_str (by decide +kernel) rfl) pa_nil))))
      (pss_one (ps_ret (pv 0)))
      pss_nil)
    (pss_cons (ps_if (pt_cmpR op_lt (pv 0) pe_int (nomark _))
      (pss_one (ps_ret (pe_op op_add_str pe_str (pe_callTy call_str_int (by rfl) T.z_str (by decide +kernel) (pa_cons (pe_op op_sub pe_int (pv 0)) pa_nil)))))
      pss_nil)
    (pss_one (ps_ret (pe_callTy call_str_int (by rfl) T.z_str (by decide +kernel) (pa_cons (pv 0) pa_nil)))))), ?_⟩
  walk_at "sx"
  rcases hx with ⟨n, rfl, rfl, hn⟩ | ⟨z, rfl, rfl⟩
  · refine x_isT (t := .type "int") (c := false) (.base (.int n)) (kit_ty (by decide +kernel)) ?_
    walk_at "sx"
    refine x_ite (fun c => ?_) (fun c => ?_)
    · walk_at "sx"
      have hl := congrArg List.length (tl_neg20 c)
      have h60 := numL_len (k := 60) (n := (0 - n).toNat) (by decide) (by omega)
      rw [tl_append, List.length_append, tl_lenP, tl_lenP, List.length_cons] at hl
      refine x_strI (strLog20 (by omega)) ?_
      refine x_addS (sz (by
        show _ + (Str.ofString (toString (0 - n))).length ≤ _
        have : (toString (0 - n) : String) = toString (0 - n) := rfl
        omega)) (q _ ?_)
      rw [figT, if_pos c]
      exact tl_neg20 c
    · walk_at "sx"
      refine x_strI (strLog20 hn) (q _ ?_)
      rw [figT, if_neg c]
      exact tl_pos20 c
  · refine x_isT (t := .type "str") (c := true) (.base (.str z)) (kit_ty (by decide +kernel)) ?_
    walk_at "sx"
    exact q z rfl
theorem ok_law_weight (F : Fun K "_law_weight" "_law_weight" s_law_weight f fd) (T : Txt mg) (b : Binds K fd ["thing"] []) (kp : PySem.W.keepIn K (.ref f) = true) (m : mg "_law_weight" = some (.ref f)) : ∀ k, FnOk P w K mg base CX0 k f fd ["thing"] (spWt K k)
  | 0 => ⟨fun vs H Q E h => by
      obtain ⟨v, p, _, h, _⟩ := h
      exact h.elim, fun A outer s H args us vs Q E _ _ _ _ h => by
      obtain ⟨v, p, _, h, _⟩ := h
      exact h.elim⟩
  | k + 1 => by
    have C_law_weight : HasWt k P w K mg base := ⟨f, fd, ok_law_weight F T b kp m k, b, kp, m⟩
    refine F.ok sc_law_weight (fun vs H Q E h => ?_) (fun cdv A outer s H vs Q E hr h => ?_)
    · obtain ⟨v, p, rfl, _⟩ := h
      rfl
    obtain ⟨v, p, rfl, hp, ok, q⟩ := h
    refine ⟨_, (pss_cons (ps_if (pt_not (pt_val (pe_callB (call_isiKK (K := K)) (by rfl) T.z_isinstance (by decide +kernel) (pa_cons (pv 0) (pa_cons (pe_bltn (v := .ty "tuple") (by rfl) T.z_tuple (by decide +kernel) rfl) pa_nil)))))
      (pss_one (ps_ret (pe_tup (pa_cons pe_int (pa_cons pe_int pa_nil)))))
      pss_nil)
    (pss_cons (ps_setLc (i := 1) (own := [("part", 2)]) (g := gName 2) (tt := tYes) rfl sc_law_weight.nd rfl rfl (sw_true rfl rfl rfl (by decide +kernel)) (pi_tup (pe_slice (sl_tupAK (K := K)) (pv 0) (po_some pe_int) po_none)) (blkOk_by (own := [("part", 2)]) (N := ["thing", "parts", "part", "one"]) (sc := defScope s_law_weight) (by decide +kernel)) (fun _ _ _ _ _ => pg_name (i := 2) sc_law_weight.nd rfl (Or.inl rfl)) (fun _ _ _ _ _ => pts_nil) (fun _ _ _ _ _ => (pe_callH C_law_weight hr (pa_cons (pv 2) pa_nil) (hk := Nat.le_refl _))))
    (pss_one (ps_ret (pe_tup (pa_cons (pe_op op_add pe_int (pe_callB (cr_sum rfl) (by rfl) T.z_sum (by decide +kernel) (pa_cons (pe_lc (own := [("one", 3)]) (g := gName 3) (tt := tYes) rfl sc_law_weight.nd (pi_list (pv 1)) (blkOk_by (own := [("one", 3)]) (N := ["thing", "parts", "part", "one"]) (sc := defScope s_law_weight) (by decide +kernel)) (fun _ _ _ _ _ => pg_name (i := 3) sc_law_weight.nd rfl (Or.inl rfl)) (fun _ _ _ _ _ => pts_nil) (fun _ _ _ _ _ => (pe_ix (ix_tupK (K := K)) (pv 3) pe_int (fun _ _ => rfl)))) pa_nil))) (pa_cons (pe_op op_add pe_int (pe_callB (cr_maxKK (K := K) rfl) (by rfl) T.z_max (by decide +kernel) (pa_cons (pe_lc (own := [("one", 3)]) (g := gName 3) (tt := tYes) rfl sc_law_weight.nd (pi_list (pv 1)) (blkOk_by (own := [("one", 3)]) (N := ["thing", "parts", "part", "one"]) (sc := defScope s_law_weight) (by decide +kernel)) (fun _ _ _ _ _ => pg_name (i := 3) sc_law_weight.nd rfl (Or.inl rfl)) (fun _ _ _ _ _ => pts_nil) (fun _ _ _ _ _ => (pe_ix (ix_tupK (K := K)) (pv 3) pe_int (fun _ _ => rfl)))) pa_nil))) pa_nil))))))), ?_⟩
    walk_at "sx"
    rcases hp.three with ⟨n, rfl, rfl⟩ | ⟨z, rfl, rfl⟩ | ⟨j, nm, ps, a, ys, ej, rfl, rfl, sa, pq⟩
    · refine x_isT (t := .type "int") (c := false) (.base (.int n)) (kit_ty (by decide +kernel)) ?_
      walk_at "sx"
      rename_i t nt
      exact q _ _ (same_upd nt) (two_ex (.of upd_same))
    · refine x_isT (t := .type "str") (c := false) (.base (.str z)) (kit_ty (by decide +kernel)) ?_
      walk_at "sx"
      rename_i t nt
      exact q _ _ (same_upd nt) (two_ex (.of upd_same))
    · have ej' : j = k := by omega
      subst ej'
      rw [okT] at ok
      obtain ⟨_, l0, l4, okl⟩ := ok
      refine x_isT (t := .type "tuple") (c := true) (ty_tup sa) (kit_ty (by decide +kernel)) ?_
      walk_at "sx"
      refine x_slA sa fun r H1 k1 sr => ?_
      rw [cut_tail] at sr
      have pq1 := pq.same k1
      refine x_lcMT (R := fun H v p => PtAt K H j v p) (S := fun H v (p : Pt) => TvAt K H 3 v (twoI (szT p : Int) (dpT p : Int))) id sr ⟨pq1.1, pq1.2⟩ (fun s h => h.same s) stb_two (by omega) (fun G v x kG hx hv Q' P' q' => ?_) (fun D G us' hD kG eD hu => ?_)
      · walk_at "sx"
        refine ⟨rfl, ?_⟩
        walk_at "sx"
        exact ⟨v, x, rfl, hv, okL_mem.mp okl x hx, fun v' H' k' tv => q' _ _ k' tv⟩
      · rw [List.map_id] at hu
        walk_at "sx"
        refine x_lcML (R := fun H v (p : Pt) => TvAt K H 3 v (twoI (szT p : Int) (dpT p : Int))) (S := fun H v (n : Int) => v = .int n) (fun p => (szT p : Int)) (.of eD) (fun G' k' => .of (k' _ _ eD)) hu (fun s h => h.mono fun _ _ z => Same.sqT s z) (fun _ _ _ _ _ h => h) (by omega) (fun G2 v x kG2 hx hv Q' P' q' => ?_) (fun D2 G2 us2 hD2 kG2 eD2 hu2 => ?_)
        · obtain ⟨t, rfl, st⟩ := two_inv hv
          walk_at "sx"
          refine ⟨rfl, ?_⟩
          walk_at "sx"
          exact q' _ _ (same_refl _) rfl
        · obtain rfl := ints_ex hu2
          walk_at "sx"
          refine ⟨D2, ps.map fun p => (szT p : Int), rfl, .of eD2, ?_⟩
          walk_at "sx"
          refine x_lcML (R := fun H v (p : Pt) => TvAt K H 3 v (twoI (szT p : Int) (dpT p : Int))) (S := fun H v (n : Int) => v = .int n) (fun p => (dpT p : Int)) (.of (kG2 _ _ eD)) (fun G' k' => .of (k' _ _ (kG2 _ _ eD))) (hu.mono fun v b h => h.mono fun _ _ z => Same.sqT kG2 z) (fun s h => h.mono fun _ _ z => Same.sqT s z) (fun _ _ _ _ _ h => h) (by omega) (fun G3 v x kG3 hx hv Q' P' q' => ?_) (fun D3 G3 us3 hD3 kG3 eD3 hu3 => ?_)
          · obtain ⟨t, rfl, st⟩ := two_inv hv
            walk_at "sx"
            refine ⟨rfl, ?_⟩
            walk_at "sx"
            exact q' _ _ (same_refl _) rfl
          · obtain rfl := ints_ex hu3
            walk_at "sx"
            refine x_max (.of eD3) (by rw [List.length_map]; omega) fun mx hm1 hm2 => ?_
            walk_at "sx"
            rename_i t nt
            have e1 : (1 : Int) + (ps.map fun p => (szT p : Int)).sum = ((szT (.t nm ps) : Nat) : Int) := by
              rw [szT, sum_sz]
              omega
            have e2 : (1 : Int) + mx = ((dpT (.t nm ps) : Nat) : Int) := by
              rw [dpT, max_dp hm1 hm2]
              omega
            rw [← e1, ← e2] at q
            exact q _ _ ((((k1.trans kG).trans kG2).trans kG3).trans (same_upd nt)) (two_ex (.of upd_same))
end
end Gs
namespace Gs
open PySem PySem.Spec PyProof.Rows L2 TL
theorem rows_lv {ops : List Op} (h : OpsOk ops) : ∀ o ∈ ownL ++ ops, 1 ≤ o.l ∧ o.l ≤ 9 := fun o ho => by
  rcases List.mem_append.mp ho with ho | ho
  · exact own_lv o ho
  · exact h.lv o ho
theorem tl_op : tl ("(" : Str) = [40] := by decide +kernel
theorem tl_cl : tl (")" : Str) = [41] := by decide +kernel
end Gs
namespace Gs
open PySem PySem.Spec PyProof.Rows L2 TL
/-! ### the pieces of a written text: how it is cut, how it is read, how many there are -/
theorem figS_tl (n : Int) : tl (figS n) = figT (.i n) := by
  unfold figS
  rw [figT]
  split
  · rename_i h
    rw [tl_append, show tl ("~" : Str) = [126] from by decide +kernel]
    have e : (0 - n) = (((0 - n).toNat : Nat) : Int) := by omega
    show 126 :: tl (Str.ofString (toString (0 - n))) = _
    rw [e, tl_num]
    rfl
  · rename_i h
    have e : n = ((n.toNat : Nat) : Int) := by omega
    show tl (Str.ofString (toString n)) = _
    rw [e, tl_num, Int.toNat_natCast]
theorem tokL_map (R : List Op) : ∀ ps : List Pt, tokL R ps = ps.map (tokT R 9)
  | [] => rfl
  | x :: r => by rw [tokL, List.map_cons, tokL_map R r]
theorem tokT_none {R : List Op} {nm : Str} {ps : List Pt} (h : rowOf R nm ps.length = none) (top : Int) : tokT R top (.t nm ps) = nm :: ("(" : Str) :: commas (ps.map (tokT R 9)) := by
  rw [tokT]
  simp only [h, tokL_map]
theorem tokT_one {R : List Op} {nm : Str} {x : Pt} {o : Op} (h : rowOf R nm 1 = some o) (top : Int) : tokT R top (.t nm [x]) = parS (decide (o.l > top)) (nm :: tokT R (o.l - 1) x) := by
  have h' : rowOf R nm [x].length = some o := h
  rw [tokT]
  simp only [h']
theorem tokT_two {R : List Op} {nm : Str} {x y : Pt} {o : Op} (h : rowOf R nm 2 = some o) (top : Int) : tokT R top (.t nm [x, y]) = parS (decide (o.l > top)) (tokT R (lbO o) x ++ nm :: tokT R (rbO o) y) := by
  have h' : rowOf R nm [x, y].length = some o := h
  rw [tokT]
  simp only [h']
/-- what may follow a piece that stands at the end of a part -/
def Edge (l : List Nat) : Prop := ∀ c t, l = c :: t → c = 32 ∨ c = 41 ∨ c = 44
def PcOk (z : Str) : Prop := (∃ c t, tl z = c :: t ∧ c ≠ 32 ∧ (∀ x ∈ t, x ∈ cls c) ∧ ∀ e, e = 32 ∨ e = 40 ∨ e = 41 ∨ e = 44 → e ∉ cls c) ∧ isPc (tl z) = true
theorem Edge.stop {c : Nat} {l : List Nat} (h : Edge l) (k : ∀ e, e = 32 ∨ e = 40 ∨ e = 41 ∨ e = 44 → e ∉ cls c) : Stop c l := by
  cases l with
  | nil => trivial
  | cons x r =>
    have := h x r rfl
    exact k x (by omega)
theorem cut_pc {z : Str} (hz : PcOk z) {l : List Nat} {ts : List (List Nat)} (hl : Edge l ∨ ∃ r, l = 40 :: r) (h : Cut l ts) : Cut (tl z ++ l) (tl z :: ts) := by
  obtain ⟨⟨c, t, e, h1, h2, h3⟩, _⟩ := hz
  rw [e, List.cons_append]
  refine .piece h1 h2 ?_ h
  rcases hl with hl | ⟨r, rfl⟩
  · exact hl.stop h3
  · exact h3 40 (by omega)
theorem cls_sign {c : Nat} (h : c = 40 ∨ c = 41 ∨ c = 44) : cls c = [] := by
  rcases h with rfl | rfl | rfl <;> decide
theorem cut_sign {c : Nat} (h : c = 40 ∨ c = 41 ∨ c = 44) {l : List Nat} {ts : List (List Nat)} (k : Cut l ts) : Cut (c :: l) ([c] :: ts) := by
  have := Cut.piece (c := c) (t := []) (l := l) (ts := ts) (by omega) (fun x hx => by cases hx) (by
    unfold Stop
    split
    · trivial
    · rw [cls_sign h]
      simp) k
  exact this
mutual
/-- the text of a pattern is cut into its pieces -/
theorem cut_form {R : List Op} : ∀ (p : Pt) (top : Int) (l : List Nat) (ts : List (List Nat)), okT PcOk PcOk p → (∀ n : Int, n.natAbs < 10 ^ 60 → PcOk (figS n)) → Edge l → Cut l ts → Cut (formT R top p ++ l) ((tokT R top p).map tl ++ ts)
  | .i n, top, l, ts, ok, fg, hl, k => by
    rw [formT, tokT, ← figS_tl]
    exact cut_pc (fg n ok) (.inl hl) k
  | .s z, top, l, ts, ok, fg, hl, k => by
    rw [formT, tokT, figT]
    exact cut_pc ok (.inl hl) k
  | .t nm ps, top, l, ts, ok, fg, hl, k => by
    rw [okT] at ok
    obtain ⟨on, l0, l4, okl⟩ := ok
    cases e : rowOf R nm ps.length with
    | none =>
      rw [formT_none e, tokT_none e]
      have h1 := cut_list (R := R) ps l ts l0 okl fg k
      have h2 := cut_pc on (.inr ⟨_, rfl⟩) (cut_sign (.inl rfl) h1)
      simpa [List.append_assoc, tl_op] using h2
    | some o =>
      obtain ⟨_, _, hm⟩ := rowOf_some e
      match ps, e, hm, okl with
      | [], _, hm, _ => exact absurd hm (by split <;> simp)
      | [x], e, _, okl =>
        rw [okL] at okl
        rw [formT_one e, tokT_one e]
        have inner : ∀ (l : List Nat) (ts : List (List Nat)), Edge l → Cut l ts → Cut ((tl nm ++ 32 :: formT R (o.l - 1) x) ++ l) ((nm :: tokT R (o.l - 1) x).map tl ++ ts) := fun l ts hl k => by
          have h1 := cut_form (R := R) x (o.l - 1) l ts okl.1 fg hl k
          have h2 := cut_pc on (.inl (fun c t e => by cases e; exact .inl rfl)) (.blank h1)
          simpa [List.append_assoc] using h2
        unfold par parS
        by_cases c : decide (o.l > top) = true
        · rw [if_pos c, if_pos c]
          have h3 := cut_sign (.inl rfl) (inner (41 :: l) ([41] :: ts) (fun c t e => by cases e; exact .inr (.inl rfl)) (cut_sign (.inr (.inl rfl)) k))
          simpa [List.append_assoc, tl_op, tl_cl] using h3
        · rw [if_neg c, if_neg c]
          exact inner l ts hl k
      | [x, y], e, _, okl =>
        rw [okL, okL] at okl
        rw [formT_two e, tokT_two e]
        have inner : ∀ (l : List Nat) (ts : List (List Nat)), Edge l → Cut l ts → Cut ((formT R (lbO o) x ++ 32 :: (tl nm ++ 32 :: formT R (rbO o) y)) ++ l) ((tokT R (lbO o) x ++ nm :: tokT R (rbO o) y).map tl ++ ts) := fun l ts hl k => by
          have h1 := cut_form (R := R) y (rbO o) l ts okl.2.1 fg hl k
          have h2 := cut_pc on (.inl (fun c t e => by cases e; exact .inl rfl)) (.blank h1)
          have h3 := cut_form (R := R) x (lbO o) (32 :: (tl nm ++ 32 :: (formT R (rbO o) y ++ l))) _ okl.1 fg (fun c t e => by cases e; exact .inl rfl) (.blank h2)
          simpa [List.append_assoc] using h3
        show Cut (par (decide (o.l > top)) (formT R (lbO o) x ++ 32 :: (tl nm ++ 32 :: formT R (rbO o) y)) ++ l) _
        unfold par parS
        by_cases c : decide (o.l > top) = true
        · rw [if_pos c, if_pos c]
          have h3 := cut_sign (.inl rfl) (inner (41 :: l) ([41] :: ts) (fun c t e => by cases e; exact .inr (.inl rfl)) (cut_sign (.inr (.inl rfl)) k))
          simpa [List.append_assoc, tl_op, tl_cl] using h3
        · rw [if_neg c, if_neg c]
          exact inner l ts hl k
      | _ :: _ :: _ :: _, _, hm, _ => exact absurd hm (by split <;> simp)
theorem cut_list {R : List Op} : ∀ (ps : List Pt) (l : List Nat) (ts : List (List Nat)), 0 < ps.length → okL PcOk PcOk ps → (∀ n : Int, n.natAbs < 10 ^ 60 → PcOk (figS n)) → Cut l ts → Cut (joinL [44, 32] (ps.map (formT R 9)) ++ ([41] ++ l)) ((commas (ps.map (tokT R 9))).map tl ++ ts)
  | [], _, _, h, _, _, _ => absurd h (by simp)
  | [x], l, ts, _, ok, fg, k => by
    rw [okL] at ok
    have h1 := cut_form (R := R) x 9 (41 :: l) ([41] :: ts) ok.1 fg (fun c t e => by cases e; exact .inr (.inl rfl)) (cut_sign (.inr (.inl rfl)) k)
    simpa [joinL, commas, tl_cl] using h1
  | x :: y :: r, l, ts, _, ok, fg, k => by
    rw [okL] at ok
    have h1 := cut_list (R := R) (y :: r) l ts (by simp) ok.2 fg k
    have h2 := cut_sign (.inr (.inr rfl)) (.blank h1)
    have h3 := cut_form (R := R) x 9 _ _ ok.1 fg (fun c t e => by cases e; exact .inr (.inr rfl)) h2
    have e : tl ("," : Str) = [44] := by decide +kernel
    simpa [joinL, commas, e, List.append_assoc] using h3
end
end Gs
namespace Gs
open PySem PySem.Spec PyProof.Rows L2 TL
abbrev s_OperatorTable_init : Stmt := (clsBody (PySem.Challenge.pw_goalstead_k21_sizes_as_read.main.body.getD 36 (.Pass ⟨0, 0, 0, 0⟩))).getD 0 (.Pass ⟨0, 0, 0, 0⟩)
theorem sc_OperatorTable_init : FnScope ["self", "operators", "level", "side", "name"] ["self", "operators"] (defScope s_OperatorTable_init) := ⟨rfl, rfl, rfl, by decide +kernel, rfl, by decide +kernel, by decide +kernel⟩
abbrev s_OperatorTable_left_bound : Stmt := (clsBody (PySem.Challenge.pw_goalstead_k21_sizes_as_read.main.body.getD 36 (.Pass ⟨0, 0, 0, 0⟩))).getD 5 (.Pass ⟨0, 0, 0, 0⟩)
theorem sc_OperatorTable_left_bound : FnScope ["self", "name", "level", "side"] ["self", "name"] (defScope s_OperatorTable_left_bound) := ⟨rfl, rfl, rfl, by decide +kernel, rfl, by decide +kernel, by decide +kernel⟩
abbrev s_OperatorTable_right_bound : Stmt := (clsBody (PySem.Challenge.pw_goalstead_k21_sizes_as_read.main.body.getD 36 (.Pass ⟨0, 0, 0, 0⟩))).getD 6 (.Pass ⟨0, 0, 0, 0⟩)
theorem sc_OperatorTable_right_bound : FnScope ["self", "name", "level", "side"] ["self", "name"] (defScope s_OperatorTable_right_bound) := ⟨rfl, rfl, rfl, by decide +kernel, rfl, by decide +kernel, by decide +kernel⟩
abbrev s_OperatorTable_ahead_bound : Stmt := (clsBody (PySem.Challenge.pw_goalstead_k21_sizes_as_read.main.body.getD 36 (.Pass ⟨0, 0, 0, 0⟩))).getD 7 (.Pass ⟨0, 0, 0, 0⟩)
theorem sc_OperatorTable_ahead_bound : FnScope ["self", "name"] ["self", "name"] (defScope s_OperatorTable_ahead_bound) := ⟨rfl, rfl, rfl, by decide +kernel, rfl, by decide +kernel, by decide +kernel⟩
theorem fab : ¬ (("between" : Str) = "ahead") := by decide +kernel
/-- the table's attributes -/
def fldsT (b h : Addr) : List (Str × V) := L2.putF "ahead" (.ref h) (L2.putF "between" (.ref b) [])
theorem flds_b (b h : Addr) : (fldsT b h).lookup ("between" : Str) = some (.ref b) := by
  unfold fldsT
  rw [lookup_putF, if_neg fab, lookup_putF, if_pos rfl]
theorem flds_a (b h : Addr) : (fldsT b h).lookup ("ahead" : Str) = some (.ref h) := by
  unfold fldsT
  rw [lookup_putF, if_pos rfl]
theorem flds_no (b h : Addr) {m : Str} (h1 : ¬ m = "ahead") (h2 : ¬ m = "between") : (fldsT b h).lookup m = none := by
  unfold fldsT
  rw [lookup_putF, if_neg h1, lookup_putF, if_neg h2]
  all_goals rfl
structure TabC (K : PySem.W.Frag) (C : Addr) : Prop where
  cl : Cls K C
  nB : NoAttr K C "between"
  nA : NoAttr K C "ahead"
/-- what the two dicts of a table hold -/
structure DictsAt (K : PySem.W.Frag) (H : Hp) (kb ka : List (Key × V)) (R : List Op) : Prop where
  bn : ∀ nm, rowOf R nm 2 = none → valV kb (Sum.inr nm : Key) = none
  bs : ∀ nm o, rowOf R nm 2 = some o → ∃ t, valV kb (Sum.inr nm : Key) = some (.ref t) ∧ SqT K H t [.int o.l, .str o.s]
  an : ∀ nm, rowOf R nm 1 = none → valV ka (Sum.inr nm : Key) = none
  as : ∀ nm o, rowOf R nm 1 = some o → valV ka (Sum.inr nm : Key) = some (.int o.l)
theorem DictsAt.mono {K : PySem.W.Frag} {H H' : Hp} {kb ka : List (Key × V)} {R : List Op} (d : DictsAt K H kb ka R) (g : ∀ a xs, SqT K H a xs → SqT K H' a xs) : DictsAt K H' kb ka R :=
  ⟨d.bn, fun nm o h => by
    obtain ⟨t, e, s⟩ := d.bs nm o h
    exact ⟨t, e, g _ _ s⟩, d.an, d.as⟩
def TabAt (K : PySem.W.Frag) (C : Addr) (H : Hp) (a : Addr) (R : List Op) : Prop := ∃ (dx b h : Addr) (kb ka : List (Key × V)), H a = some (.ins C dx (fldsT b h)) ∧ H b = some (.dK kb) ∧ H h = some (.dK ka) ∧ DictsAt K H kb ka R
theorem TabAt.same {K : PySem.W.Frag} {C : Addr} {H H' : Hp} {a : Addr} {R : List Op} (t : TabAt K C H a R) (s : Same H H') : TabAt K C H' a R := by
  obtain ⟨dx, b, h, kb, ka, h1, h2, h3, h4⟩ := t
  exact ⟨dx, b, h, kb, ka, s _ _ h1, s _ _ h2, s _ _ h3, h4.mono fun _ _ z => Same.sqT s z⟩
def spTabInit (K : PySem.W.Frag) (C : Addr) : Sp := fun vs H Q _ => ∃ (p l dx : Addr) (es : List V) (R : List Op), vs = [.ref p, .ref l] ∧ H p = some (.ins C dx []) ∧ H l = some (.lst es) ∧ RowsAt K H es R ∧ R.length ≤ 100 ∧ (R.map keyOf).Nodup ∧
  ∀ H', TabAt K C H' p R → (∀ b o, H b = some o → b ≠ p → H' b = some o) → Q .non H'
def spBound (K : PySem.W.Frag) (C : Addr) (s : Str) : Sp := fun vs H Q _ => ∃ (p : Addr) (R : List Op) (nm : Str) (o : Op), vs = [.ref p, .str nm] ∧ TabAt K C H p R ∧ rowOf R nm 2 = some o ∧ Q (.int (if o.s = s then o.l else o.l - 1)) H
def spABound (K : PySem.W.Frag) (C : Addr) : Sp := fun vs H Q _ => ∃ (p : Addr) (R : List Op) (nm : Str) (o : Op), vs = [.ref p, .str nm] ∧ TabAt K C H p R ∧ rowOf R nm 1 = some o ∧ Q (.int (o.l - 1)) H
theorem x_fldB {K : PySem.W.Frag} {C a dx b h : Addr} {σ : L2.St} {H : Hp} {Q : VK} {i : Nat} (TC : TabC K C) (hs : σ[i]? = some (some (.ref a))) (ha : H a = some (.ins C dx (fldsT b h))) (q : Q (.ref b) H) : tFld K (tVar i) "between" σ H Q :=
  ⟨.ref a, hs, a, C, dx, _, _, rfl, ha, TC.cl, TC.nB, flds_b b h, q⟩
theorem x_fldA {K : PySem.W.Frag} {C a dx b h : Addr} {σ : L2.St} {H : Hp} {Q : VK} {i : Nat} (TC : TabC K C) (hs : σ[i]? = some (some (.ref a))) (ha : H a = some (.ins C dx (fldsT b h))) (q : Q (.ref h) H) : tFld K (tVar i) "ahead" σ H Q :=
  ⟨.ref a, hs, a, C, dx, _, _, rfl, ha, TC.cl, TC.nA, flds_a b h, q⟩
theorem x_mt {C a dx : Addr} {m : Str} {sp : Sp} {t : TA} {σ : L2.St} {H : Hp} {Q : VK} {E : XK} {i : Nat} {fs : List (Str × V)} (hs : σ[i]? = some (some (.ref a))) (ha : H a = some (.ins C dx fs)) (hm : fs.lookup m = none) (q : t σ H fun vs H2 => sp (.ref a :: (vs ++ [])) H2 Q E) : tMeth C m sp [] E (tVar i) t σ H Q :=
  ⟨.ref a, hs, a, dx, fs, rfl, ha, hm, q⟩
theorem x_din {td ty : TE} {σ : L2.St} {H : Hp} {Q : VK} (q : ty σ H fun y H1 => td σ H1 fun x H2 => ∃ a o, x = .ref a ∧ DGet H2 a y o ∧ Q (.bl o.isSome) H2) : tDIn ty td σ H Q := q
theorem row_fresh {R : List Op} {i : Nat} {o : Op} (h : R[i]? = some o) (nd : (R.map keyOf).Nodup) {nm : Str} {many : Nat} (c : isRow nm many o = true) : rowOf (R.take i) nm many = none := by
  cases e2 : rowOf (R.take i) nm many with
  | none => rfl
  | some o' =>
    exfalso
    obtain ⟨h1, h2, h3⟩ := rowOf_some e2
    have c' := of_decide_eq_true c
    obtain ⟨j, hj⟩ := List.getElem?_of_mem h1
    have hj' := (List.getElem?_eq_some_iff.mp hj).1
    have hi' := (List.getElem?_eq_some_iff.mp h).1
    rw [List.length_take] at hj'
    rw [List.getElem?_take_of_lt (by omega)] at hj
    have k1 : (R.map keyOf)[j]? = some (keyOf o') := by rw [List.getElem?_map, hj]; rfl
    have k2 : (R.map keyOf)[i]? = some (keyOf o) := by rw [List.getElem?_map, h]; rfl
    have ke : keyOf o' = keyOf o := by
      unfold keyOf
      refine Prod.ext (h2.trans c'.1.symm) ?_
      show decide (o'.s = ("ahead" : Str)) = decide (o.s = ("ahead" : Str))
      rw [decide_eq_decide]
      have c2 := c'.2
      rw [h3] at c2
      by_cases z1 : o'.s = ("ahead" : Str)
      · by_cases z2 : o.s = ("ahead" : Str)
        · simp [z1, z2]
        · rw [if_pos z1, if_neg z2] at c2
          omega
      · by_cases z2 : o.s = ("ahead" : Str)
        · rw [if_neg z1, if_pos z2] at c2
          omega
        · simp [z1, z2]
    rw [ke] at k1
    have := (List.getElem?_inj (by rw [List.length_map]; omega) nd).mp (k1.trans k2.symm)
    omega
theorem row_take {R : List Op} {i : Nat} {o : Op} (h : R[i]? = some o) (nd : (R.map keyOf).Nodup) (nm : Str) (many : Nat) : rowOf (R.take (i + 1)) nm many = if isRow nm many o = true then some o else rowOf (R.take i) nm many := by
  have e : rowOf (R.take (i + 1)) nm many = (rowOf (R.take i) nm many).or (if isRow nm many o = true then some o else none) := by
    unfold rowOf
    rw [take_more h, List.find?_append]
    congr 1
    rw [List.find?_cons]
    cases isRow nm many o <;> rfl
  rw [e]
  by_cases c : isRow nm many o = true
  · rw [if_pos c, if_pos c, row_fresh h nd c]
    rfl
  · rw [if_neg c, if_neg c, Option.or_none]
theorem sqT_but {K : PySem.W.Frag} {H G : Hp} {p C dx a : Addr} {fs : List (Str × V)} {xs : List V} (hp : H p = some (.ins C dx fs)) (k : ∀ b o, H b = some o → b ≠ p → G b = some o) (s : SqT K H a xs) : SqT K G a xs := by
  rcases s with (s | ⟨u, s⟩) | s
  · exact .inl (.inl (k _ _ s (ne_of s hp (by intro z; cases z))))
  · exact .inl (.inr ⟨u, k _ _ s (ne_of s hp (by intro z; cases z))⟩)
  · exact .inr s
section
variable {P : Program} {w : World} {K : PySem.W.Frag} {mg : Str → Option Value} {base : Heap} {f C : Addr} {fd : FuncData}
def HasLB (C : Addr) (P : Program) (w : World) (K : PySem.W.Frag) (mg : Str → Option Value) (base : Heap) : Prop := C8.Met P w K mg base 1 C "left_bound" (spBound K C "left") []
def HasRB (C : Addr) (P : Program) (w : World) (K : PySem.W.Frag) (mg : Str → Option Value) (base : Heap) : Prop := C8.Met P w K mg base 1 C "right_bound" (spBound K C "right") []
def HasAB (C : Addr) (P : Program) (w : World) (K : PySem.W.Frag) (mg : Str → Option Value) (base : Heap) : Prop := C8.Met P w K mg base 1 C "ahead_bound" (spABound K C) []
def HasTab (C : Addr) (P : Program) (w : World) (K : PySem.W.Frag) (mg : Str → Option Value) (base : Heap) : Prop := C8.Mak P w K mg base 1 "OperatorTable" C (spTabInit K C) []
theorem ok_left_bound (F : Fun K "left_bound" "OperatorTable.left_bound" s_OperatorTable_left_bound f fd) (T : Txt mg) (TC : TabC K C) : FnOk P w K mg base CX0 1 f fd ["self", "name"] (spBound K C "left") := by
  refine F.ok sc_OperatorTable_left_bound (fun vs H Q E h => ?_) (fun cdv A outer s H vs Q E hr h => ?_)
  · obtain ⟨p, R, nm, o, rfl, _⟩ := h
    rfl
  obtain ⟨p, R, nm, o, rfl, tb, ho, q⟩ := h
  obtain ⟨dx, b, h, kb, ka, h1, h2, h3, h4⟩ := tb
  obtain ⟨t, et, st⟩ := h4.bs nm o ho
  refine ⟨_, (pss_cons (ps_asg (pe_dget (hu_of hr) (pe_fld (pv 0) rfl) (pv 1) (fun _ _ => rfl)) (pg_tup (by rfl) (pgs_cons (pg_name (i := 2) sc_OperatorTable_left_bound.nd rfl (.inl rfl)) (pgs_cons (pg_name (i := 3) sc_OperatorTable_left_bound.nd rfl (.inl rfl)) pgs_nil))))
    (pss_one (ps_ret (pe_ifExp (pt_cmpR op_eq (pv 3) pe_str (nomark _)) (pv 2) (pe_op op_sub (pv 2) pe_int))))), ?_⟩
  walk_at "sx"
  refine x_dget ?_
  refine x_fldB TC rfl h1 ?_
  walk_at "sx"
  refine ⟨b, .ref t, rfl, et ▸ DGet.k (k := Sum.inr nm) h2, ?_⟩
  walk_at "sx"
  refine x_ite (fun c => ?_) (fun c => ?_)
  · walk_at "sx"
    rw [if_pos (V.str.inj c)] at q
    exact q
  · walk_at "sx"
    rw [if_neg fun z => c (congrArg V.str z)] at q
    exact q
theorem ok_right_bound (F : Fun K "right_bound" "OperatorTable.right_bound" s_OperatorTable_right_bound f fd) (T : Txt mg) (TC : TabC K C) : FnOk P w K mg base CX0 1 f fd ["self", "name"] (spBound K C "right") := by
  refine F.ok sc_OperatorTable_right_bound (fun vs H Q E h => ?_) (fun cdv A outer s H vs Q E hr h => ?_)
  · obtain ⟨p, R, nm, o, rfl, _⟩ := h
    rfl
  obtain ⟨p, R, nm, o, rfl, tb, ho, q⟩ := h
  obtain ⟨dx, b, h, kb, ka, h1, h2, h3, h4⟩ := tb
  obtain ⟨t, et, st⟩ := h4.bs nm o ho
  refine ⟨_, (pss_cons (ps_asg (pe_dget (hu_of hr) (pe_fld (pv 0) rfl) (pv 1) (fun _ _ => rfl)) (pg_tup (by rfl) (pgs_cons (pg_name (i := 2) sc_OperatorTable_right_bound.nd rfl (.inl rfl)) (pgs_cons (pg_name (i := 3) sc_OperatorTable_right_bound.nd rfl (.inl rfl)) pgs_nil))))
    (pss_one (ps_ret (pe_ifExp (pt_cmpR op_eq (pv 3) pe_str (nomark _)) (pv 2) (pe_op op_sub (pv 2) pe_int))))), ?_⟩
  walk_at "sx"
  refine x_dget ?_
  refine x_fldB TC rfl h1 ?_
  walk_at "sx"
  refine ⟨b, .ref t, rfl, et ▸ DGet.k (k := Sum.inr nm) h2, ?_⟩
  walk_at "sx"
  refine x_ite (fun c => ?_) (fun c => ?_)
  · walk_at "sx"
    rw [if_pos (V.str.inj c)] at q
    exact q
  · walk_at "sx"
    rw [if_neg fun z => c (congrArg V.str z)] at q
    exact q
theorem ok_ahead_bound (F : Fun K "ahead_bound" "OperatorTable.ahead_bound" s_OperatorTable_ahead_bound f fd) (T : Txt mg) (TC : TabC K C) : FnOk P w K mg base CX0 1 f fd ["self", "name"] (spABound K C) := by
  refine F.ok sc_OperatorTable_ahead_bound (fun vs H Q E h => ?_) (fun cdv A outer s H vs Q E hr h => ?_)
  · obtain ⟨p, R, nm, o, rfl, _⟩ := h
    rfl
  obtain ⟨p, R, nm, o, rfl, tb, ho, q⟩ := h
  obtain ⟨dx, b, h, kb, ka, h1, h2, h3, h4⟩ := tb
  have et := h4.as nm o ho
  refine ⟨_, (pss_one (ps_ret (pe_op op_sub (pe_dget (hu_of hr) (pe_fld (pv 0) rfl) (pv 1) (fun _ _ => rfl)) pe_int))), ?_⟩
  walk_at "sx"
  refine x_dget ?_
  refine x_fldA TC rfl h1 ?_
  walk_at "sx"
  refine ⟨h, .int o.l, rfl, et ▸ DGet.k (k := Sum.inr nm) h3, ?_⟩
  walk_at "sx"
  exact q
theorem ok_tab_init (F : Fun K "__init__" "OperatorTable.__init__" s_OperatorTable_init f fd) (T : Txt mg) (TC : TabC K C) : FnOk P w K mg base CX0 1 f fd ["self", "operators"] (spTabInit K C) := by
  refine F.ok sc_OperatorTable_init (fun vs H Q E h => ?_) (fun cdv A outer s H vs Q E hr h => ?_)
  · obtain ⟨p, l, dx, es, R, rfl, _⟩ := h
    rfl
  obtain ⟨p, l, dx, es, R, rfl, hp, hl, hro, hlen, nd, q⟩ := h
  refine ⟨_, (pss_cons (ps_fld (pv 0) pe_dnewK rfl)
    (pss_cons (ps_fld (pv 0) pe_dnewK rfl)
    (pss_one (ps_for PassesOwn.never rfl (pi_list (pv 1)) (pg_tup (by rfl) (pgs_cons (pg_name (i := 2) sc_OperatorTable_init.nd rfl (.inl rfl)) (pgs_cons (pg_name (i := 3) sc_OperatorTable_init.nd rfl (.inl rfl)) (pgs_cons (pg_name (i := 4) sc_OperatorTable_init.nd rfl (.inl rfl)) pgs_nil))))
      (pss_one (ps_if (pt_cmpR op_eq (pv 3) pe_str (nomark _))
      (pss_one (ps_asg (pv 2) (pg_sub (pe_fld (pv 0) rfl) (pv 4) (set_dict (Nat.lt_of_le_of_lt (Nat.add_le_add_left (by decide : 1 ≤ 64) _) hr.units)))))
      (pss_one (ps_asg (pe_tup (pa_cons (pv 2) (pa_cons (pv 3) pa_nil))) (pg_sub (pe_fld (pv 0) rfl) (pv 4) (set_dict (Nat.lt_of_le_of_lt (Nat.add_le_add_left (by decide : 1 ≤ 64) _) hr.units))))))))))), ?_⟩
  intro d hd
  have ndp : p ≠ d := ne_of_none hp hd
  refine ⟨.ref p, rfl, p, C, dx, [], rfl, (by rw [upd_ne ndp]; exact hp), TC.cl, TC.nB, (by show 0 < 1000; decide), ?_⟩
  intro d2 hd2
  have hd2p : d2 ≠ p := fun z => by rw [z, upd_same] at hd2; cases hd2
  have hd2d : d2 ≠ d := fun z => by rw [z, upd_ne ndp.symm, upd_same] at hd2; cases hd2
  have hd20 : H d2 = none := by
    rw [upd_ne hd2p, upd_ne hd2d] at hd2
    exact hd2
  refine ⟨.ref p, rfl, p, C, dx, _, rfl, (by rw [upd_ne hd2p.symm]; exact upd_same), TC.cl, TC.nA, (by show 1 < 1000; decide), ?_⟩
  have g1 : upd (upd (upd (upd H d (.dK [])) p (.ins C dx (L2.putF "between" (.ref d) []))) d2 (.dK [])) p (.ins C dx (L2.putF "ahead" (.ref d2) (L2.putF "between" (.ref d) []))) p = some (.ins C dx (fldsT d d2)) := upd_same
  have g2 : upd (upd (upd (upd H d (.dK [])) p (.ins C dx (L2.putF "between" (.ref d) []))) d2 (.dK [])) p (.ins C dx (L2.putF "ahead" (.ref d2) (L2.putF "between" (.ref d) []))) d = some (.dK []) := by
    rw [upd_ne ndp.symm, upd_ne hd2d.symm, upd_ne ndp.symm, upd_same]
  have g3 : upd (upd (upd (upd H d (.dK [])) p (.ins C dx (L2.putF "between" (.ref d) []))) d2 (.dK [])) p (.ins C dx (L2.putF "ahead" (.ref d2) (L2.putF "between" (.ref d) []))) d2 = some (.dK []) := by
    rw [upd_ne hd2p, upd_same]
  have g4 : ∀ b o, H b = some o → b ≠ p → upd (upd (upd (upd H d (.dK [])) p (.ins C dx (L2.putF "between" (.ref d) []))) d2 (.dK [])) p (.ins C dx (L2.putF "ahead" (.ref d2) (L2.putF "between" (.ref d) []))) b = some o := fun b o e h => by
    rw [upd_ne h, upd_ne (ne_of_none e hd20), upd_ne h, upd_ne (ne_of_none e hd)]
    exact e
  generalize upd (upd (upd (upd H d (.dK [])) p (.ins C dx (L2.putF "between" (.ref d) []))) d2 (.dK [])) p (.ins C dx (L2.putF "ahead" (.ref d2) (L2.putF "between" (.ref d) []))) = G0 at *
  have nlp : l ≠ p := ne_of hl hp (by intro z; cases z)
  walk_at "sx"
  refine x_forL (K := K) (a := l) (xs := es) (fun i σ' G => ∃ (kb ka : List (Key × V)) (x y z : Option V), σ' = [some (.ref p), some (.ref l), x, y, z] ∧ G p = some (.ins C dx (fldsT d d2)) ∧ G d = some (.dK kb) ∧ G d2 = some (.dK ka) ∧ kb.length ≤ i ∧ ka.length ≤ i ∧ DictsAt K G kb ka (R.take i) ∧ ∀ b o, H b = some o → b ≠ p → G b = some o)
    ⟨[], [], none, none, none, rfl, g1, g2, g3, Nat.le_refl _, Nat.le_refl _, ⟨fun _ _ => rfl, (fun _ _ h => by cases h), fun _ _ => rfl, (fun _ _ h => by cases h)⟩, g4⟩ (fun i σ' G _ h => ?_) ?_ ?_ (.of (g4 _ _ hl nlp))
  · obtain ⟨kb, ka, x, y, z, _, _, _, _, _, _, _, h4⟩ := h
    exact .of (h4 _ _ hl nlp)
  · rintro i v σ' G hi ⟨kb, ka, x, y, z, rfl, h1, h2, h3, lb, la, da, h4⟩
    obtain ⟨r, e, rfl, he, sr0⟩ := hro.at hi
    have hi' : i < R.length := (List.getElem?_eq_some_iff.mp he).1
    have sr := sqT_but hp h4 sr0
    have rt := row_take he nd
    walk_at "sx"
    refine x_ite (fun c => ?_) (fun c => ?_)
    · have c' : e.s = ("ahead" : Str) := V.str.inj c
      walk_at "sx"
      refine x_fldA TC rfl h1 ?_
      walk_at "sx"
      refine ⟨d2, _, rfl, DPut.k (k := Sum.inr e.n) h3 (szl (by omega)), ?_⟩
      have hit : isRow e.n 1 e = true := decide_eq_true ⟨rfl, by rw [if_pos c']⟩
      have vn := da.an e.n (row_fresh he nd hit)
      have no2 : ∀ nm, ¬ isRow nm 2 e = true := fun nm z => by
        have := (of_decide_eq_true z).2
        rw [if_pos c'] at this
        omega
      have hn : ∀ nm, isRow nm 1 e = true ↔ nm = e.n := fun nm => ⟨fun z => ((of_decide_eq_true z).1).symm, fun z => by rw [z]; exact hit⟩
      have gg : ∀ (o : HO) b xs, SqT K G b xs → SqT K (upd G d2 o) b xs := fun o b xs z => sqT_dk h3 z
      refine ⟨kb, _, _, _, _, rfl, by rw [upd_ne hd2p.symm]; exact h1, by rw [upd_ne hd2d.symm]; exact h2, upd_same, by omega, ?_, ⟨fun nm z => ?_, fun nm o z => ?_, fun nm z => ?_, fun nm o z => ?_⟩, fun b o e' hb => ?_⟩
      · rw [putK_new _ vn, List.length_append]
        show ka.length + 1 ≤ _
        omega
      · rw [rt, if_neg (no2 nm)] at z
        exact da.bn nm z
      · rw [rt, if_neg (no2 nm)] at z
        obtain ⟨t, et, st⟩ := da.bs nm o z
        exact ⟨t, et, gg _ _ _ st⟩
      · rw [rt] at z
        by_cases hh : isRow nm 1 e = true
        · rw [if_pos hh] at z
          cases z
        · rw [if_neg hh] at z
          rw [valV_put, if_neg (fun y => hh ((hn nm).mpr (Sum.inr.inj y)))]
          exact da.an nm z
      · rw [rt] at z
        by_cases hh : isRow nm 1 e = true
        · rw [if_pos hh] at z
          cases z
          rw [valV_put, if_pos (by rw [(hn nm).mp hh])]
        · rw [if_neg hh] at z
          rw [valV_put, if_neg (fun y => hh ((hn nm).mpr (Sum.inr.inj y)))]
          exact da.as nm o z
      · rw [upd_ne (fun y => by rw [y, hd20] at e'; cases e')]
        exact h4 b o e' hb
    · have c' : ¬ e.s = ("ahead" : Str) := fun z => c (congrArg V.str z)
      walk_at "sx"
      rename_i t nt
      have h1' : upd G t (.tup [.int e.l, .str e.s]) p = some (.ins C dx (fldsT d d2)) := by walk_at "hx"
      have h2' : upd G t (.tup [.int e.l, .str e.s]) d = some (.dK kb) := by walk_at "hx"
      have h3' : upd G t (.tup [.int e.l, .str e.s]) d2 = some (.dK ka) := by walk_at "hx"
      have st : SqT K (upd G t (.tup [.int e.l, .str e.s])) t [.int e.l, .str e.s] := .of upd_same
      have da' := da.mono (fun _ _ z => Same.sqT (same_upd (o := .tup [.int e.l, .str e.s]) nt) z)
      have h4' : ∀ b o, H b = some o → b ≠ p → upd G t (.tup [.int e.l, .str e.s]) b = some o := fun b o z hb => by
        rw [upd_ne (ne_of_none (h4 b o z hb) nt)]
        exact h4 b o z hb
      generalize upd G t (.tup [.int e.l, .str e.s]) = G2 at *
      refine x_fldB TC rfl h1' ?_
      walk_at "sx"
      refine ⟨d, _, rfl, DPut.k (k := Sum.inr e.n) h2' (szl (by omega)), ?_⟩
      have hit : isRow e.n 2 e = true := decide_eq_true ⟨rfl, by rw [if_neg c']⟩
      have vn := da.bn e.n (row_fresh he nd hit)
      have no1 : ∀ nm, ¬ isRow nm 1 e = true := fun nm z => by
        have := (of_decide_eq_true z).2
        rw [if_neg c'] at this
        omega
      have hn : ∀ nm, isRow nm 2 e = true ↔ nm = e.n := fun nm => ⟨fun z => ((of_decide_eq_true z).1).symm, fun z => by rw [z]; exact hit⟩
      have gg : ∀ (o : HO) b xs, SqT K G2 b xs → SqT K (upd G2 d o) b xs := fun o b xs z => sqT_dk h2' z
      refine ⟨_, ka, _, _, _, rfl, by rw [upd_ne ndp]; exact h1', upd_same, by rw [upd_ne hd2d]; exact h3', ?_, by omega, ⟨fun nm z => ?_, fun nm o z => ?_, fun nm z => ?_, fun nm o z => ?_⟩, fun b o e' hb => ?_⟩
      · rw [putK_new _ vn, List.length_append]
        show kb.length + 1 ≤ _
        omega
      · rw [rt] at z
        by_cases hh : isRow nm 2 e = true
        · rw [if_pos hh] at z
          cases z
        · rw [if_neg hh] at z
          rw [valV_put, if_neg (fun y => hh ((hn nm).mpr (Sum.inr.inj y)))]
          exact da'.bn nm z
      · rw [rt] at z
        by_cases hh : isRow nm 2 e = true
        · rw [if_pos hh] at z
          cases z
          exact ⟨t, by rw [valV_put, if_pos (by rw [(hn nm).mp hh])], gg _ _ _ st⟩
        · rw [if_neg hh] at z
          obtain ⟨t2, et, st2⟩ := da'.bs nm o z
          exact ⟨t2, by rw [valV_put, if_neg (fun y => hh ((hn nm).mpr (Sum.inr.inj y)))]; exact et, gg _ _ _ st2⟩
      · rw [rt, if_neg (no1 nm)] at z
        exact da'.an nm z
      · rw [rt, if_neg (no1 nm)] at z
        exact da'.as nm o z
      · rw [upd_ne (fun y => by rw [y, hd] at e'; cases e')]
        exact h4' b o e' hb
  · rintro σ' G ⟨kb, ka, x, y, z, rfl, h1, h2, h3, lb, la, da, h4⟩
    rw [hro.1, List.take_length] at da
    walk_at "sx"
    exact q G ⟨dx, d, d2, kb, ka, h1, h2, h3, da⟩ h4
end
end Gs
namespace Gs
open PySem PySem.Spec PyProof.Rows L2 TL
def LvOk (R : List Op) : Prop := ∀ o ∈ R, 1 ≤ o.l ∧ o.l ≤ 9
theorem Short.of {R : List Op} {top : Int} {u : Pt} {z : Str} (hz : tl z = formT R top u) (ok : okT NmOk NmOk u) : z.length ≤ 80 * szT u := by
  rw [← tl_lenP, hz]
  exact formT_len top u (okT_imp (fun _ h => NmOk.len h) (fun _ h => NmOk.len h) ok)
end Gs
namespace Gs
open PySem PySem.Spec PyProof.Rows L2 TL
theorem Stp.snoc {R : List Op} {nm : Str} {o : Op} {le : Int} {y : Pt} {tb : List Str} {d : Nat} (ho : rowOf R nm 2 = some o) (hy : Spt R d le y tb) (hle : le ≤ rbO o) : ∀ {la lev : Int} {a p : Pt} {ts : List Str}, Stp R d la a lev p ts → lev ≤ lbO o → Stp R d la a o.l (.t nm [p, y]) (ts ++ nm :: tb)
  | la, _, a, _, _, .nil, h => by
    have : Stp R d la a o.l (.t nm [a, y]) (nm :: (tb ++ [])) := Stp.cons ho h hy hle .nil
    simpa using this
  | _, _, _, _, _, .cons h1 h2 h3 h4 h5, h => by
    have := Stp.cons h1 h2 h3 h4 (Stp.snoc ho hy hle h5 h)
    simpa [List.append_assoc] using this
theorem Spt.join {R : List Op} {nm : Str} {o : Op} {la le : Int} {x y : Pt} {ta tb : List Str} {d : Nat} (ho : rowOf R nm 2 = some o) (hx : Spt R (d + 1) la x ta) (hla : la ≤ lbO o) (hy : Spt R d le y tb) (hle : le ≤ rbO o) : Spt R (d + 1) o.l (.t nm [x, y]) (ta ++ nm :: tb) := by
  cases hx with
  | mk hp hs =>
    have := Spt.mk hp (hs.snoc ho hy hle hla)
    simpa [List.append_assoc] using this
theorem Prim.spt {R : List Op} {d : Nat} {la : Int} {p : Pt} {ts : List Str} (h : Prim R (d + 1) la p ts) : Spt R (d + 1) la p ts := by
  have := Spt.mk h .nil
  simpa using this
theorem lb_pos {R : List Op} (lv : LvOk R) {o : Op} (h : o ∈ R) : 0 ≤ lbO o ∧ 0 ≤ rbO o ∧ lbO o ≤ 9 ∧ rbO o ≤ 9 := by
  have := lv o h
  unfold lbO rbO
  refine ⟨?_, ?_, ?_, ?_⟩ <;> split <;> omega
mutual
/-- a written text's pieces spell its pattern -/
theorem spt_tok {R : List Op} (lv : LvOk R) : ∀ (p : Pt) (top : Int) (d : Nat), rdT R p → 2 * dpT p ≤ d → 0 ≤ top → top ≤ 9 → ∃ lev, lev ≤ top ∧ Spt R d lev p (tokT R top p)
  | .i n, top, d, h, hd, h0, h9 => by
    rw [dpT] at hd
    rw [rdT] at h
    obtain ⟨d, rfl⟩ : ∃ e, d = e + 1 := ⟨d - 1, by omega⟩
    rw [tokT]
    exact ⟨0, h0, (Prim.num ⟨figS_tl n, h.1, h.2⟩).spt⟩
  | .s z, top, d, h, hd, h0, h9 => by
    rw [dpT] at hd
    rw [rdT] at h
    obtain ⟨d, rfl⟩ : ∃ e, d = e + 1 := ⟨d - 1, by omega⟩
    rw [tokT]
    rcases h with h | h
    · exact ⟨0, h0, (Prim.unk h).spt⟩
    · exact ⟨0, h0, (Prim.word h).spt⟩
  | .t nm ps, top, d, h, hd, h0, h9 => by
    rw [dpT] at hd
    rw [rdT] at h
    obtain ⟨l0, l4, hw, hl⟩ := h
    obtain ⟨d, rfl⟩ : ∃ e, d = e + 1 := ⟨d - 1, by omega⟩
    cases e : rowOf R nm ps.length with
    | none =>
      rw [tokT_none e]
      exact ⟨0, h0, (Prim.comp (hw e) l0 l4 (spt_list lv ps d l0 hl (by omega))).spt⟩
    | some o =>
      obtain ⟨hoR, _, hm⟩ := rowOf_some e
      have lo := lv o hoR
      obtain ⟨b1, b2, b3, b4⟩ := lb_pos lv hoR
      match ps, e, hm, hl, hd with
      | [], _, hm, _, _ => exact absurd hm (by split <;> simp)
      | [x], e, _, hl, hd =>
        rw [rdL] at hl
        rw [dpL, dpL] at hd
        rw [tokT_one e]
        have inner : ∀ d0, 2 * dpT x ≤ d0 → Spt R (d0 + 1) o.l (.t nm [x]) (nm :: tokT R (o.l - 1) x) := fun d0 h0 => by
          obtain ⟨le, hle, hs⟩ := spt_tok lv x (o.l - 1) d0 hl.1 h0 (by omega) (by omega)
          exact (Prim.ahead e hs hle).spt
        unfold parS
        by_cases c : o.l > top
        · rw [if_pos (decide_eq_true c)]
          obtain ⟨d2, rfl⟩ : ∃ e, d = e + 1 := ⟨d - 1, by omega⟩
          exact ⟨0, h0, (Prim.paren (inner d2 (by omega)) (by omega)).spt⟩
        · rw [if_neg (by rw [decide_eq_false c]; decide)]
          exact ⟨o.l, by omega, inner d (by omega)⟩
      | [x, y], e, _, hl, hd =>
        rw [rdL, rdL] at hl
        rw [dpL, dpL, dpL] at hd
        rw [tokT_two e]
        have inner : ∀ d0, 2 * dpT x ≤ d0 → 2 * dpT y ≤ d0 → Spt R (d0 + 1) o.l (.t nm [x, y]) (tokT R (lbO o) x ++ nm :: tokT R (rbO o) y) := fun d0 h1 h2 => by
          obtain ⟨la, hla, ha⟩ := spt_tok lv x (lbO o) (d0 + 1) hl.1 (by omega) b1 b3
          obtain ⟨le, hle, hb⟩ := spt_tok lv y (rbO o) d0 hl.2.1 h2 b2 b4
          exact Spt.join e ha hla hb hle
        unfold parS
        by_cases c : o.l > top
        · rw [if_pos (decide_eq_true c)]
          obtain ⟨d2, rfl⟩ : ∃ e, d = e + 1 := ⟨d - 1, by omega⟩
          exact ⟨0, h0, (Prim.paren (inner d2 (by omega) (by omega)) (by omega)).spt⟩
        · rw [if_neg (by rw [decide_eq_false c]; decide)]
          exact ⟨o.l, by omega, inner d (by omega) (by omega)⟩
      | _ :: _ :: _ :: _, _, hm, _, _ => exact absurd hm (by split <;> simp)
theorem spt_list {R : List Op} (lv : LvOk R) : ∀ (ps : List Pt) (d : Nat), 0 < ps.length → rdL R ps → 2 * dpL ps ≤ d → SptL R d ps (commas (ps.map (tokT R 9)))
  | [], _, h, _, _ => absurd h (by simp)
  | [x], d, _, h, hd => by
    rw [rdL] at h
    rw [dpL, dpL] at hd
    obtain ⟨le, hle, hs⟩ := spt_tok lv x 9 d h.1 (by omega) (by omega) (by omega)
    exact .one hs hle
  | x :: y :: r, d, _, h, hd => by
    rw [rdL] at h
    rw [dpL] at hd
    obtain ⟨le, hle, hs⟩ := spt_tok lv x 9 d h.1 (by omega) (by omega) (by omega)
    exact .cons hs hle (spt_list lv (y :: r) d (by simp) h.2 (by omega))
end
theorem parS_len (b : Bool) (l : List Str) : (parS b l).length ≤ l.length + 2 := by
  unfold parS
  split
  · simp
  · omega
mutual
/-- how many pieces -/
theorem tok_len {R : List Op} : ∀ (p : Pt) (top : Int), rdT R p → (tokT R top p).length + 1 ≤ 3 * szT p
  | .i n, _, _ => by rw [tokT, szT]; simp
  | .s z, _, _ => by rw [tokT, szT]; simp
  | .t nm ps, top, h => by
    rw [rdT] at h
    obtain ⟨l0, l4, hw, hl⟩ := h
    rw [szT]
    cases e : rowOf R nm ps.length with
    | none =>
      rw [tokT_none e]
      have := tokL_len ps l0 hl
      rw [List.length_cons, List.length_cons]
      omega
    | some o =>
      obtain ⟨hoR, _, hm⟩ := rowOf_some e
      match ps, e, hm, hl with
      | [], _, hm, _ => exact absurd hm (by split <;> simp)
      | [x], e, _, hl =>
        rw [rdL] at hl
        rw [tokT_one e, szL, szL]
        have := tok_len x (o.l - 1) hl.1
        have := parS_len (decide (o.l > top)) (nm :: tokT R (o.l - 1) x)
        rw [List.length_cons] at this
        omega
      | [x, y], e, _, hl =>
        rw [rdL, rdL] at hl
        rw [tokT_two e, szL, szL, szL]
        have h1 := tok_len x (lbO o) hl.1
        have h2 := tok_len y (rbO o) hl.2.1
        have := parS_len (decide (o.l > top)) (tokT R (lbO o) x ++ nm :: tokT R (rbO o) y)
        rw [List.length_append, List.length_cons] at this
        omega
      | _ :: _ :: _ :: _, _, hm, _ => exact absurd hm (by split <;> simp)
theorem tokL_len {R : List Op} : ∀ (ps : List Pt), 0 < ps.length → rdL R ps → (commas (ps.map (tokT R 9))).length ≤ 3 * szL ps
  | [], h, _ => absurd h (by simp)
  | [x], _, h => by
    rw [rdL] at h
    have := tok_len x 9 h.1
    rw [szL, szL]
    show (tokT R 9 x ++ [_]).length ≤ _
    rw [List.length_append, List.length_singleton]
    omega
  | x :: y :: r, _, h => by
    rw [rdL] at h
    have h1 := tok_len x 9 h.1
    have h2 := tokL_len (y :: r) (by simp) h.2
    rw [szL]
    show (tokT R 9 x ++ ("," : Str) :: commas ((y :: r).map (tokT R 9))).length ≤ _
    rw [List.length_append, List.length_cons]
    omega
end
/-! how deep the brackets are -/
def Opn (ts : List Str) (k : Int) : Prop := ∀ m c : Int, ∃ m', ts.foldl mo (m, c) = (m', c) ∧ m' ≤ max m (c + k)
theorem Opn.mono {ts : List Str} {k j : Int} (h : Opn ts k) (hk : k ≤ j) : Opn ts j := fun m c => by
  obtain ⟨m', e, hm⟩ := h m c
  exact ⟨m', e, by omega⟩
theorem Opn.app {a b : List Str} {k : Int} (h : Opn a k) (g : Opn b k) : Opn (a ++ b) k := fun m c => by
  obtain ⟨m1, e1, h1⟩ := h m c
  obtain ⟨m2, e2, h2⟩ := g m1 c
  exact ⟨m2, by rw [List.foldl_append, e1, e2], by omega⟩
theorem mo_name {z : Str} (h1 : z ≠ ("(" : Str)) (h2 : z ≠ (")" : Str)) (m c : Int) : mo (m, c) z = (if c > m then c else m, c) := by
  unfold mo
  rw [if_neg h1, if_neg h2]
theorem opn_name {z : Str} (h1 : z ≠ ("(" : Str)) (h2 : z ≠ (")" : Str)) : Opn [z] 0 := fun m c => ⟨_, mo_name h1 h2 m c, by split <;> omega⟩
theorem opn_cons {z : Str} {ts : List Str} {k : Int} (h1 : z ≠ ("(" : Str)) (h2 : z ≠ (")" : Str)) (h : Opn ts k) (hk : 0 ≤ k) : Opn (z :: ts) k := ((opn_name h1 h2).mono hk).app h
theorem mo_open (m c : Int) : mo (m, c) ("(" : Str) = (if c + 1 > m then c + 1 else m, c + 1) := by
  unfold mo
  rw [if_pos rfl]
theorem mo_shut (m c : Int) : mo (m, c) (")" : Str) = (if c - 1 > m then c - 1 else m, c - 1) := by
  unfold mo
  rw [if_neg (by decide +kernel), if_pos rfl]
theorem opn_par {ts : List Str} {k : Int} (h : Opn ts k) (hk : 0 ≤ k) : Opn (("(" : Str) :: (ts ++ [(")" : Str)])) (k + 1) := fun m c => by
  rw [List.foldl_cons, mo_open, List.foldl_append]
  obtain ⟨m1, e1, h1⟩ := h (if c + 1 > m then c + 1 else m) (c + 1)
  rw [e1, List.foldl_cons, mo_shut, List.foldl_nil]
  refine ⟨_, by rw [Int.add_sub_cancel], ?_⟩
  split at h1 <;> split <;> omega
theorem opn_commas {k : Int} (hk : 0 ≤ k) : ∀ tss : List (List Str), 0 < tss.length → (∀ t ∈ tss, Opn t k) → ∀ m c : Int, ∃ m', (commas tss).foldl mo (m, c) = (m', c - 1) ∧ m' ≤ max m (c + k)
  | [], h, _, _, _ => absurd h (by simp)
  | [t], _, h, m, c => by
    obtain ⟨m1, e1, h1⟩ := h t (List.mem_cons_self ..) m c
    show ∃ m', (t ++ [(")" : Str)]).foldl mo (m, c) = (m', c - 1) ∧ _
    rw [List.foldl_append, e1, List.foldl_cons, mo_shut, List.foldl_nil]
    exact ⟨_, rfl, by split <;> omega⟩
  | t :: u :: r, _, h, m, c => by
    obtain ⟨m1, e1, h1⟩ := h t (List.mem_cons_self ..) m c
    show ∃ m', (t ++ ("," : Str) :: commas (u :: r)).foldl mo (m, c) = (m', c - 1) ∧ _
    rw [List.foldl_append, e1, List.foldl_cons, mo_name (by decide +kernel) (by decide +kernel)]
    obtain ⟨m2, e2, h2⟩ := opn_commas hk (u :: r) (by simp) (fun t ht => h t (List.mem_cons_of_mem _ ht)) (if c > m1 then c else m1) c
    refine ⟨m2, e2, ?_⟩
    split at h2 <;> omega
theorem not_sign {z : Str} {c : Nat} {t : List Nat} (e : tl z = c :: t) (h1 : c ≠ 40) (h2 : c ≠ 41) : z ≠ ("(" : Str) ∧ z ≠ (")" : Str) := ⟨fun y => by
  rw [y, tl_op] at e
  exact h1 (List.cons.inj e).1.symm, fun y => by
  rw [y, tl_cl] at e
  exact h2 (List.cons.inj e).1.symm⟩
theorem figS_sign (n : Int) : figS n ≠ ("(" : Str) ∧ figS n ≠ (")" : Str) := by
  have e := figS_tl n
  rw [figT] at e
  by_cases hm : n < 0
  · rw [if_pos hm] at e
    exact not_sign e (by decide) (by decide)
  · rw [if_neg hm] at e
    cases en : numL n.toNat with
    | nil => exact absurd en (numL_ne _)
    | cons c t =>
      have := sD_iff.mp (numL_D n.toNat c (by rw [en]; exact List.mem_cons_self ..))
      exact not_sign (by rw [e, en]) (by omega) (by omega)
theorem row_sign {R : List Op} (br : ∀ z ∈ ([("(" : Str), (")" : Str), ("," : Str)] : List Str), rowOf R z 1 = none ∧ rowOf R z 2 = none) {nm : Str} {k : Nat} {o : Op} (hk : k = 1 ∨ k = 2) (h : rowOf R nm k = some o) : nm ≠ ("(" : Str) ∧ nm ≠ (")" : Str) := by
  refine ⟨fun z => ?_, fun z => ?_⟩
  · have := br nm (by simp [z])
    rcases hk with rfl | rfl
    · rw [this.1] at h
      cases h
    · rw [this.2] at h
      cases h
  · have := br nm (by simp [z])
    rcases hk with rfl | rfl
    · rw [this.1] at h
      cases h
    · rw [this.2] at h
      cases h
theorem wd_sign {R : List Op} {z : Str} (h : Wd R z) : z ≠ ("(" : Str) ∧ z ≠ (")" : Str) := by
  obtain ⟨⟨c, t, e, hc⟩, _⟩ := h
  have := sS_iff.mp hc
  exact not_sign e (by omega) (by omega)
mutual
theorem opn_tok {R : List Op} (br : ∀ z ∈ ([("(" : Str), (")" : Str), ("," : Str)] : List Str), rowOf R z 1 = none ∧ rowOf R z 2 = none) : ∀ (p : Pt) (top : Int), rdT R p → Opn (tokT R top p) ((dpT p : Int) - 1)
  | .i n, top, h => by
    rw [tokT, dpT]
    exact opn_name (figS_sign n).1 (figS_sign n).2
  | .s z, top, h => by
    rw [rdT] at h
    rw [tokT, dpT]
    have : z ≠ ("(" : Str) ∧ z ≠ (")" : Str) := by
      rcases h with ⟨⟨c, t, e, hc⟩, _⟩ | h
      · have := sC_iff.mp hc
        exact not_sign e (by omega) (by omega)
      · exact wd_sign h
    exact opn_name this.1 this.2
  | .t nm ps, top, h => by
    rw [rdT] at h
    obtain ⟨l0, l4, hw, hl⟩ := h
    rw [dpT]
    cases e : rowOf R nm ps.length with
    | none =>
      rw [tokT_none e]
      have hs := wd_sign (hw e)
      have hd : 1 ≤ dpL ps := by
        cases ps with
        | nil => simp at l0
        | cons x r =>
          rw [dpL]
          have := dpT_pos x
          omega
      refine opn_cons hs.1 hs.2 (fun m c => ?_) (by omega)
      rw [List.foldl_cons, mo_open]
      obtain ⟨m2, e2, h2⟩ := opn_commas (k := (dpL ps : Int) - 1) (by omega) (ps.map (tokT R 9)) (by rw [List.length_map]; exact l0) (opn_list br ps hl) (if c + 1 > m then c + 1 else m) (c + 1)
      refine ⟨m2, by rw [e2, Int.add_sub_cancel], ?_⟩
      split at h2 <;> omega
    | some o =>
      obtain ⟨hoR, _, hm⟩ := rowOf_some e
      match ps, e, hm, hl with
      | [], _, hm, _ => exact absurd hm (by split <;> simp)
      | [x], e, _, hl =>
        rw [rdL] at hl
        have hs := row_sign br (.inl rfl) e
        rw [tokT_one e, dpL, dpL]
        have hp := dpT_pos x
        have inner : Opn (nm :: tokT R (o.l - 1) x) ((dpT x : Int) - 1) := opn_cons hs.1 hs.2 (opn_tok br x (o.l - 1) hl.1) (by omega)
        unfold parS
        by_cases c : o.l > top
        · rw [if_pos (decide_eq_true c)]
          exact (opn_par inner (by omega)).mono (by omega)
        · rw [if_neg (by rw [decide_eq_false c]; decide)]
          exact inner.mono (by omega)
      | [x, y], e, _, hl =>
        rw [rdL, rdL] at hl
        have hs := row_sign br (.inr rfl) e
        rw [tokT_two e, dpL, dpL, dpL]
        have hp := dpT_pos x
        have hq := dpT_pos y
        have inner : Opn (tokT R (lbO o) x ++ nm :: tokT R (rbO o) y) ((max (dpT x) (dpT y) : Nat) - 1 : Int) := ((opn_tok br x (lbO o) hl.1).mono (by omega)).app (opn_cons hs.1 hs.2 ((opn_tok br y (rbO o) hl.2.1).mono (by omega)) (by omega))
        unfold parS
        by_cases c : o.l > top
        · rw [if_pos (decide_eq_true c)]
          exact (opn_par inner (by omega)).mono (by omega)
        · rw [if_neg (by rw [decide_eq_false c]; decide)]
          exact inner.mono (by omega)
      | _ :: _ :: _ :: _, _, hm, _ => exact absurd hm (by split <;> simp)
theorem opn_list {R : List Op} (br : ∀ z ∈ ([("(" : Str), (")" : Str), ("," : Str)] : List Str), rowOf R z 1 = none ∧ rowOf R z 2 = none) : ∀ (ps : List Pt), rdL R ps → ∀ t ∈ ps.map (tokT R 9), Opn t ((dpL ps : Int) - 1)
  | [], _, _, h => by cases h
  | x :: r, h, t, ht => by
    rw [rdL] at h
    rw [dpL]
    rw [List.map_cons] at ht
    rcases List.mem_cons.mp ht with rfl | ht
    · exact (opn_tok br x 9 h.1).mono (by omega)
    · exact (opn_list br r h.2 t ht).mono (by omega)
end
end Gs
namespace Gs
open PySem PySem.Spec PyProof.Rows L2 TL
abbrev s_size_of : Stmt := PySem.Challenge.pw_goalstead_k21_sizes_as_read.main.body.getD 48 (.Pass ⟨0, 0, 0, 0⟩)
theorem sc_size_of : FnScope ["pattern", "many", "waiting", "part"] ["pattern"] (defScope s_size_of) := ⟨rfl, rfl, rfl, by decide +kernel, rfl, by decide +kernel, by decide +kernel⟩
abbrev s_is_unknown : Stmt := PySem.Challenge.pw_goalstead_k21_sizes_as_read.main.body.getD 27 (.Pass ⟨0, 0, 0, 0⟩)
theorem sc_is_unknown : FnScope ["part"] ["part"] (defScope s_is_unknown) := ⟨rfl, rfl, rfl, by decide +kernel, rfl, by decide +kernel, by decide +kernel⟩
abbrev s_depth_of : Stmt := PySem.Challenge.pw_goalstead_k21_sizes_as_read.main.body.getD 49 (.Pass ⟨0, 0, 0, 0⟩)
theorem sc_depth_of : FnScope ["pattern", "depth", "layer", "whole", "part"] ["pattern"] (defScope s_depth_of) := ⟨rfl, rfl, rfl, by decide +kernel, rfl, by decide +kernel, by decide +kernel⟩
abbrev s_unknowns_of : Stmt := PySem.Challenge.pw_goalstead_k21_sizes_as_read.main.body.getD 51 (.Pass ⟨0, 0, 0, 0⟩)
theorem sc_unknowns_of : FnScope ["pattern", "found", "waiting", "part"] ["pattern"] (defScope s_unknowns_of) := ⟨rfl, rfl, rfl, by decide +kernel, rfl, by decide +kernel, by decide +kernel⟩
def spSize (K : PySem.W.Frag) : Sp := fun vs H Q _ => ∃ (v : V) (k : Nat) (p : Pt), vs = [v] ∧ PtAt K H k v p ∧ szT p ≤ 10000 ∧ ∀ H', Same H H' → Q (.int (szT p)) H'
section
variable {P : Program} {w : World} {K : PySem.W.Frag} {mg : Str → Option Value} {base : Heap} {f : Addr} {fd : FuncData}
theorem ok_size_of (F : Fun K "size_of" "size_of" s_size_of f fd) (T : Txt mg) : FnOk P w K mg base CX0 1 f fd ["pattern"] (spSize K) := by
  refine F.ok sc_size_of (fun vs H Q E h => ?_) (fun cdv A outer s H vs Q E hr h => ?_)
  · obtain ⟨v, k, p, rfl, _⟩ := h
    rfl
  obtain ⟨v, k, p, rfl, hp, hs, q⟩ := h
  refine ⟨_, (pss_cons (ps_set (i := 1) sc_size_of.nd rfl (Or.inl rfl) pe_int)
    (pss_cons (ps_set (i := 2) sc_size_of.nd rfl (Or.inl rfl) (pe_lst (pa_cons (pv 0) pa_nil)))
    (pss_cons (ps_while PassesOwn.never (pt_truthK (K := K) (pv 2) (by intro _; rfl))
      (pss_cons (ps_set (i := 3) sc_size_of.nd rfl (Or.inl rfl) (pe_bm0 PySem.F.plainAttrs_list PySem.F.slot_list_pop PySem.F.type_list_pop mt_pop (pv 2)))
    (pss_cons (ps_aug (i := 1) sc_size_of.nd rfl (.inl rfl) pe_int ip_add)
    (pss_one (ps_if (pt_val (pe_callB (call_isiKK (K := K)) (by rfl) T.z_isinstance (by decide +kernel) (pa_cons (pv 3) (pa_cons (pe_bltn (v := .ty "tuple") (by rfl) T.z_tuple (by decide +kernel) rfl) pa_nil))))
      (pss_one (ps_expr (pe_bm PySem.F.plainAttrs_list PySem.F.slot_list_extend PySem.F.type_list_extend mt_extX (pv 2) (pa_cons (pe_slice (sl_tupX (K := K)) (pv 3) (po_some pe_int) po_none) pa_nil))))
      pss_nil)))))
    (pss_one (ps_ret (pv 1)))))), ?_⟩
  walk_at "sx"
  rename_i w1 nw
  refine x_while (fun m σ' G => ∃ (vs : List V) (ps : List Pt) (x : Option V) (many : Nat), σ' = [some v, some (.int (many : Int)), some (.ref w1), x] ∧ G w1 = some (.lst vs) ∧ PtsAt K G k vs ps ∧ many + szL ps = szT p ∧ m = szL ps ∧ Same H G) (szL [p]) ?_ ?_
  · exact ⟨[v], [p], none, 0, rfl, upd_same, .one (hp.same (same_upd nw)), by simp [szL], rfl, same_upd nw⟩
  · rintro m σ' G ⟨vs, ps, x, many, rfl, hw, hps, hm, rfl, sG⟩
    have ll := hps.1
    have l2 := szL_len ps
    walk_at "sx"
    refine ⟨!vs.isEmpty, .inl ⟨vs, .of hw, rfl⟩, x_iteB (fun c => ?_) (fun c => ?_)⟩
    · have hn : 0 < vs.length := by
        cases vs with
        | nil => cases c
        | cons a r => exact Nat.succ_pos _
      have hy : vs[vs.length - 1]? = some (vs[vs.length - 1]'(by omega)) := List.getElem?_eq_getElem _
      obtain ⟨u, hu, pu⟩ := hps.at hy
      rw [ll] at hu
      have hs1 := last_szL hu
      have hs2 := szT_pos u
      refine ⟨fun σ' G => ∃ (vs' : List V) (ps' : List Pt) (x : Option V) (many : Nat), σ' = [some v, some (.int (many : Int)), some (.ref w1), x] ∧ G w1 = some (.lst vs') ∧ PtsAt K G k vs' ps' ∧ many + szL ps' = szT p ∧ szL ps' < szL ps ∧ Same H G, ?_, ?_⟩
      · rintro σ' G' ⟨vs', ps', x', many', e1, e2, e3, e4, e5, e6⟩
        exact ⟨_, e5, vs', ps', x', many', e1, e2, e3, e4, rfl, e6⟩
      walk_at "sx"
      refine ⟨w1, vs, _, rfl, rfl, hw, hy, ?_⟩
      walk_at "sx"
      have hw2 : upd G w1 (.lst vs.dropLast) w1 = some (.lst vs.dropLast) := upd_same
      have pu2 := pu.lst (o := .lst vs.dropLast) hw
      have hps2 := hps.dropLast.lst (o := .lst vs.dropLast) hw
      have sG2 : Same H (upd G w1 (.lst vs.dropLast)) := same_updf sG nw
      generalize upd G w1 (.lst vs.dropLast) = G2 at *
      generalize vs[vs.length - 1]'(by omega) = y at *
      rcases pu2.three with ⟨n, rfl, rfl⟩ | ⟨z, rfl, rfl⟩ | ⟨j, nm, qs, a, us, rfl, rfl, rfl, sa, pq⟩
      · refine x_isT (t := .type "int") (c := false) (.base (.int n)) (kit_ty (by decide +kernel)) ?_
        walk_at "sx"
        exact ⟨_, _, _, many + 1, rfl, hw2, hps2, by rw [szT] at hs1; omega, by omega, sG2⟩
      · refine x_isT (t := .type "str") (c := false) (.base (.str z)) (kit_ty (by decide +kernel)) ?_
        walk_at "sx"
        exact ⟨_, _, _, many + 1, rfl, hw2, hps2, by rw [szT] at hs1; omega, by omega, sG2⟩
      · refine x_isT (t := .type "tuple") (c := true) (ty_tup sa) (kit_ty (by decide +kernel)) ?_
        walk_at "sx"
        rw [szT] at hs1
        have lq := szL_len qs
        have lu := pq.1
        have ld := hps2.1
        have ld2 := szL_len ps.dropLast
        refine ⟨a, _, rfl, sa, cut_tail_ne _ _, fun b nb => ?_⟩
        rw [cut_tail]
        walk_at "sx"
        refine ⟨w1, b, vs.dropLast, us, rfl, rfl, by walk_at "hx", upd_same, sz (by omega), ?_⟩
        walk_at "sx"
        have kb : Same G2 (upd G2 b (txO b us)) := same_upd nb
        refine ⟨vs.dropLast ++ us, ps.dropLast ++ qs, _, many + 1, rfl, upd_same, ?_, by rw [szL_append]; omega, by rw [szL_append]; omega, same_updf (sG2.trans kb) nw⟩
        exact ((hps2.same kb).append ((pq.up (Nat.le_succ _)).same kb)).lst (ys := vs.dropLast) (by walk_at "hx")
    · have hn : vs = [] := by
        cases vs with
        | nil => rfl
        | cons a r => cases c
      subst hn
      cases ps with
      | cons a r => cases ll
      | nil =>
        rw [szL] at hm
        walk_at "sx"
        have e : many = szT p := by omega
        rw [e]
        exact q _ sG
def TxOk (z : Str) : Prop := ∃ c t, tl z = c :: t ∧ z.length ≤ 1000
def spUnknown (K : PySem.W.Frag) : Sp := fun vs H Q _ => ∃ (v : V) (k : Nat) (p : Pt), vs = [v] ∧ PtAt K H k v p ∧ (∀ z, p = .s z → TxOk z) ∧ Q (.bl (unk p)) H
def spUnknowns (K : PySem.W.Frag) : Sp := fun vs H Q _ => ∃ (v : V) (k : Nat) (p : Pt) (N : Str → Prop), vs = [v] ∧ PtAt K H k v p ∧ okT TxOk N p ∧ szT p ≤ 10000 ∧ ∀ a H', H a = none → Same H H' → H' a = some (.lst ((once (nmT p)).map V.str)) → Q (.ref a) H'
def HasUnknown (P : Program) (w : World) (K : PySem.W.Frag) (mg : Str → Option Value) (base : Heap) : Prop := Has P w K mg base 1 "is_unknown" ["part"] (spUnknown K)
theorem ok_is_unknown (F : Fun K "is_unknown" "is_unknown" s_is_unknown f fd) (T : Txt mg) : FnOk P w K mg base CX0 1 f fd ["part"] (spUnknown K) := by
  refine F.ok sc_is_unknown (fun vs H Q E h => ?_) (fun cdv A outer s H vs Q E hr h => ?_)
  · obtain ⟨v, k, p, rfl, _⟩ := h
    rfl
  obtain ⟨v, k, p, rfl, hp, ht, q⟩ := h
  refine ⟨_, (pss_one (ps_ret (pe_and (pe_callB (call_isiKK (K := K)) (by rfl) T.z_isinstance (by decide +kernel) (pa_cons (pv 0) (pa_cons (pe_bltn (v := .ty "str") (by rfl) T.z_str (by decide +kernel) rfl) pa_nil))) (pe_one (pe_cmpR op_in_sign (pe_ix ix_str (pv 0) pe_int (fun _ _ => rfl)) (pe_globS rfl T.c_CAPITALS) (by rfl)))))), ?_⟩
  walk_at "sx"
  rcases hp.three with ⟨n, rfl, rfl⟩ | ⟨z, rfl, rfl⟩ | ⟨j, nm, qs, a, us, rfl, rfl, rfl, sa, pq⟩
  · refine x_isT (t := .type "int") (c := false) (.base (.int n)) (kit_ty (by decide +kernel)) ?_
    walk_at "sx"
    exact q
  · refine x_isT (t := .type "str") (c := true) (.base (.str z)) (kit_ty (by decide +kernel)) ?_
    walk_at "sx"
    obtain ⟨c, t, e, hl⟩ := ht z rfl
    have e' : z.cps.toList = c :: t := e
    refine x_ixS (c := c) (sz (by omega)) (at0 (by rw [e']; rfl)) ?_
    walk_at "sx"
    have eu : unk (.s z) = decide (c ∈ ("ABCDEFGHIJKLMNOPQRSTUVWXYZ" : Str).cps.toList) := by
      show unkS z = decide (c ∈ tl ("ABCDEFGHIJKLMNOPQRSTUVWXYZ" : Str))
      rw [tl_C]
      unfold unkS
      rw [e]
    rw [← eu]
    exact q
  · refine x_isT (t := .type "tuple") (c := false) (ty_tup sa) (kit_ty (by decide +kernel)) ?_
    walk_at "sx"
    exact q
theorem ok_unknowns_of (F : Fun K "unknowns_of" "unknowns_of" s_unknowns_of f fd) (T : Txt mg) (C_is_unknown : HasUnknown P w K mg base) : FnOk P w K mg base CX0 2 f fd ["pattern"] (spUnknowns K) := by
  refine F.ok sc_unknowns_of (fun vs H Q E h => ?_) (fun cdv A outer s H vs Q E hr h => ?_)
  · obtain ⟨v, k, p, N, rfl, _⟩ := h
    rfl
  obtain ⟨v, k, p, N, rfl, hp, hok, hs, q⟩ := h
  refine ⟨_, (pss_cons (ps_set (i := 1) sc_unknowns_of.nd rfl (Or.inl rfl) pe_dnewK)
    (pss_cons (ps_set (i := 2) sc_unknowns_of.nd rfl (Or.inl rfl) (pe_lst (pa_cons (pv 0) pa_nil)))
    (pss_cons (ps_while PassesOwn.never (pt_truthK (K := K) (pv 2) (by intro _; rfl))
      (pss_cons (ps_set (i := 3) sc_unknowns_of.nd rfl (Or.inl rfl) (pe_bm0 PySem.F.plainAttrs_list PySem.F.slot_list_pop PySem.F.type_list_pop mt_pop (pv 2)))
    (pss_one (ps_if (pt_val (pe_callB (call_isiKK (K := K)) (by rfl) T.z_isinstance (by decide +kernel) (pa_cons (pv 3) (pa_cons (pe_bltn (v := .ty "tuple") (by rfl) T.z_tuple (by decide +kernel) rfl) pa_nil))))
      (pss_one (ps_expr (pe_bm PySem.F.plainAttrs_list PySem.F.slot_list_extend PySem.F.type_list_extend mt_extX (pv 2) (pa_cons (pe_backX (pv 3)) pa_nil))))
      (pss_one (ps_if (pt_val (pe_callH C_is_unknown hr (pa_cons (pv 3) pa_nil)))
      (pss_one (ps_asg pe_bl (pg_sub (pv 1) (pv 3) (set_dict (Nat.lt_of_le_of_lt (Nat.add_le_add_left (by decide : 1 ≤ 64) _) hr.units)))))
      pss_nil))))))
    (pss_one (ps_ret (pe_callTy (call_list_dK rfl) (by rfl) T.z_list (by decide +kernel) (pa_cons (pv 1) pa_nil))))))), ?_⟩
  walk_at "sx"
  intro d nd
  walk_at "sx"
  rename_i w1 nw
  have ndw : d ≠ w1 := ne_of_none upd_same nw
  have nwH : H w1 = none := (same_upd nd).free nw
  refine x_while (fun m σ' G => ∃ (vs : List V) (ps : List Pt) (x : Option V) (occ : List Str), σ' = [some v, some (.ref d), some (.ref w1), x] ∧ G w1 = some (.lst vs) ∧ G d = some (.dK (fdK (once occ))) ∧ PtsAt K G k vs ps ∧ okL TxOk N ps ∧ occ ++ nmL ps.reverse = nmT p ∧ szL ps ≤ szT p ∧ m = szL ps ∧ Same H G) (szL [p]) ?_ ?_
  · exact ⟨[v], [p], none, [], rfl, upd_same, by walk_at "hx", .one ((hp.same (same_upd nd)).same (same_upd nw)), ⟨hok, trivial⟩, by simp [nmL], by simp [szL], rfl, by walk_at "sm"⟩
  · rintro m σ' G ⟨vs, ps, x, occ, rfl, hw, hd, hps, hokp, ho, hb, rfl, sG⟩
    have ll := hps.1
    have l2 := szL_len ps
    walk_at "sx"
    refine ⟨!vs.isEmpty, .inl ⟨vs, .of hw, rfl⟩, x_iteB (fun c => ?_) (fun c => ?_)⟩
    · have hn : 0 < vs.length := by
        cases vs with
        | nil => cases c
        | cons a r => exact Nat.succ_pos _
      have hy : vs[vs.length - 1]? = some (vs[vs.length - 1]'(by omega)) := List.getElem?_eq_getElem _
      obtain ⟨u, hu, pu⟩ := hps.at hy
      rw [ll] at hu
      have hs1 := last_szL hu
      have hs2 := szT_pos u
      have hnm : nmL ps.reverse = nmT u ++ nmL ps.dropLast.reverse := by
        have h := hu
        rw [← List.getLast?_eq_getElem?] at h
        obtain ⟨ys, rfl⟩ := List.getLast?_eq_some_iff.mp h
        rw [List.dropLast_concat, List.reverse_append]
        rfl
      have hou : okT TxOk N u := okL_mem.mp hokp u (List.mem_of_getElem? hu)
      have hod : okL TxOk N ps.dropLast := okL_sub hokp fun p hp => mem_dropLast hp
      rw [hnm, ← List.append_assoc] at ho
      refine ⟨fun σ' G => ∃ (vs' : List V) (ps' : List Pt) (x : Option V) (occ : List Str), σ' = [some v, some (.ref d), some (.ref w1), x] ∧ G w1 = some (.lst vs') ∧ G d = some (.dK (fdK (once occ))) ∧ PtsAt K G k vs' ps' ∧ okL TxOk N ps' ∧ occ ++ nmL ps'.reverse = nmT p ∧ szL ps' < szL ps ∧ Same H G, ?_, ?_⟩
      · rintro σ' G' ⟨vs', ps', x', occ', e1, e2, e2', e3, e4, e5, e6, e7⟩
        exact ⟨_, e6, vs', ps', x', occ', e1, e2, e2', e3, e4, e5, by omega, rfl, e7⟩
      walk_at "sx"
      refine ⟨w1, vs, _, rfl, rfl, hw, hy, ?_⟩
      walk_at "sx"
      have hw2 : upd G w1 (.lst vs.dropLast) w1 = some (.lst vs.dropLast) := upd_same
      have hd2 : upd G w1 (.lst vs.dropLast) d = some (.dK (fdK (once occ))) := by walk_at "hx"
      have pu2 := pu.lst (o := .lst vs.dropLast) hw
      have hps2 := hps.dropLast.lst (o := .lst vs.dropLast) hw
      have sG2 : Same H (upd G w1 (.lst vs.dropLast)) := same_updf sG nwH
      generalize upd G w1 (.lst vs.dropLast) = G2 at *
      generalize vs[vs.length - 1]'(by omega) = y at *
      rcases pu2.three with ⟨n, rfl, rfl⟩ | ⟨z, rfl, rfl⟩ | ⟨j, nm, qs, a, us, rfl, rfl, rfl, sa, pq⟩
      · refine x_isT (t := .type "int") (c := false) (.base (.int n)) (kit_ty (by decide +kernel)) ?_
        walk_at "sx"
        refine ⟨_, k, _, rfl, pu2, (fun z hz => by cases hz), ?_⟩
        walk_at "sx"
        rw [nmT, List.append_nil] at ho
        exact ⟨_, _, _, occ, rfl, hw2, hd2, hps2, hod, ho, by omega, sG2⟩
      · refine x_isT (t := .type "str") (c := false) (.base (.str z)) (kit_ty (by decide +kernel)) ?_
        walk_at "sx"
        refine ⟨_, k, _, rfl, pu2, (fun z' hz => by cases hz; exact hou), ?_⟩
        walk_at "sx"
        refine x_iteB (fun cu => ?_) (fun cu => ?_)
        · have cu' : unkS z = true := cu
          rw [nmT, if_pos cu'] at ho
          have hol : occ.length + 1 ≤ szT p := by
            have h1 := congrArg List.length ho
            rw [List.length_append, List.length_append] at h1
            have h2 := nmT_len p
            simp only [List.length_cons, List.length_nil] at h1
            omega
          have h3 := once_len occ []
          walk_at "sx"
          refine ⟨d, _, rfl, .inl ⟨_, Sum.inr z, hd2, rfl, szl ?_, rfl⟩, ?_⟩
          · unfold fdK
            rw [List.length_map]
            simp only [List.length_nil] at h3
            show (List.foldl _ [] occ).length < _
            omega
          · rw [fdK_put, ← once_more]
            refine ⟨_, _, _, occ ++ [z], rfl, by walk_at "hx", upd_same, hps2.mono fun _ _ s => sqT_dk hd2 s, hod, ho, by omega, same_updf sG2 nd⟩
        · have cu' : ¬ unkS z = true := fun h => by
            have : unkS z = false := cu
            rw [h] at this
            cases this
          rw [nmT, if_neg cu', List.append_nil] at ho
          walk_at "sx"
          exact ⟨_, _, _, occ, rfl, hw2, hd2, hps2, hod, ho, by omega, sG2⟩
      · refine x_isT (t := .type "tuple") (c := true) (ty_tup sa) (kit_ty (by decide +kernel)) ?_
        walk_at "sx"
        refine ⟨_, rfl, a, _, us, rfl, sa, fun b nb => ?_⟩
        walk_at "sx"
        rw [szT] at hs1
        rw [nmT] at ho
        have lq := szL_len qs
        have lu := pq.1
        have ld := hps2.1
        have ld2 := szL_len ps.dropLast
        refine ⟨w1, b, vs.dropLast, us.reverse, rfl, rfl, by walk_at "hx", upd_same, sz (by rw [List.length_reverse]; omega), ?_⟩
        have kb : Same G2 (upd G2 b (txO b us.reverse)) := same_upd nb
        have hdw : upd (upd G2 b (txO b us.reverse)) w1 (.lst (vs.dropLast ++ us.reverse)) d = some (.dK (fdK (once occ))) := by walk_at "hx"
        refine ⟨vs.dropLast ++ us.reverse, ps.dropLast ++ qs.reverse, _, occ, rfl, upd_same, hdw, ?_, ?_, ?_, by rw [szL_append, szL_reverse]; omega, same_updf (sG2.trans kb) nwH⟩
        · exact ((hps2.same kb).append ((pq.reverse.up (Nat.le_succ _)).same kb)).lst (ys := vs.dropLast) (by walk_at "hx")
        · refine okL_mem.mpr fun p hp => ?_
          rcases List.mem_append.mp hp with hp | hp
          · exact okL_mem.mp hod p hp
          · exact okL_mem.mp hou.2.2.2 p (List.mem_reverse.mp hp)
        · rw [List.reverse_append, List.reverse_reverse, nmL_append, ← List.append_assoc]
          exact ho
    · have hn : vs = [] := by
        cases vs with
        | nil => rfl
        | cons a r => cases c
      subst hn
      cases ps with
      | cons a r => cases ll
      | nil =>
        have eo : occ = nmT p := by
          have : occ ++ [] = nmT p := ho
          rwa [List.append_nil] at this
        walk_at "sx"
        refine ⟨d, _, rfl, hd, fun a na => ?_⟩
        rw [fdK_keys, eo]
        exact q a _ (sG.free na) (sG.trans (same_upd na)) upd_same
def spDepthOf (K : PySem.W.Frag) : Sp := fun vs H Q _ => ∃ (v : V) (k : Nat) (p : Pt), vs = [v] ∧ PtAt K H k v p ∧ szT p ≤ 10000 ∧ ∀ H', Same H H' → Q (.int (dpT p)) H'
theorem ok_depth_of (F : Fun K "depth_of" "depth_of" s_depth_of f fd) (T : Txt mg) : FnOk P w K mg base CX0 1 f fd ["pattern"] (spDepthOf K) := by
  refine F.ok sc_depth_of (fun vs H Q E h => ?_) (fun cdv A outer s H vs Q E hr h => ?_)
  · obtain ⟨v, k, p, rfl, _⟩ := h
    rfl
  obtain ⟨v, k, p, rfl, hp, hs, q⟩ := h
  refine ⟨_, (pss_cons (ps_set (i := 1) sc_depth_of.nd rfl (Or.inl rfl) pe_int)
    (pss_cons (ps_set (i := 2) sc_depth_of.nd rfl (Or.inl rfl) (pe_lst (pa_cons (pv 0) pa_nil)))
    (pss_cons (ps_while PassesOwn.never (pt_truthK (K := K) (pv 2) (by intro _; rfl))
      (pss_cons (ps_aug (i := 1) sc_depth_of.nd rfl (.inl rfl) pe_int ip_add)
    (pss_one (ps_setLc2 (i := 2) (own := [("whole", 3), ("part", 4)]) (vs1 := [4]) (g := gName 3) (g1 := gName 4) (tt1 := tYes) rfl sc_depth_of.nd rfl rfl (sw_true rfl rfl rfl (by decide +kernel)) (pi_list (pv 2)) (blkOk_by (own := [("whole", 3), ("part", 4)]) (N := ["pattern", "depth", "layer", "whole", "part"]) (sc := defScope s_depth_of) (by decide +kernel)) (by decide) (fun _ _ _ _ _ => pg_name (i := 3) sc_depth_of.nd rfl (Or.inl rfl)) (fun _ _ _ _ _ => (pts_one (pt_val (pe_callB (call_isiKK (K := K)) (by rfl) T.z_isinstance (by decide +kernel) (pa_cons (pv 3) (pa_cons (pe_bltn (v := .ty "tuple") (by rfl) T.z_tuple (by decide +kernel) rfl) pa_nil)))))) (fun _ _ _ _ _ => (pi_tupK (K := K) (pe_slice (sl_tupK (K := K)) (pv 3) (po_some pe_int) po_none))) (fun _ _ _ _ _ => pg_name (i := 4) sc_depth_of.nd rfl (Or.inl rfl)) (fun _ _ _ _ _ => pts_nil) (fun _ _ _ _ _ => (pv 4))))))
    (pss_one (ps_ret (pv 1)))))), ?_⟩
  walk_at "sx"
  rename_i w1 nw
  refine x_while (fun m σ' G => ∃ (w2 : Addr) (vs : List V) (ps : List Pt) (d : Nat), σ' = [some v, some (.int (d : Int)), some (.ref w2), none, none] ∧ G w2 = some (.lst vs) ∧ PtsAt K G k vs ps ∧ d + dpL ps = dpT p ∧ szL ps ≤ szT p ∧ m = dpL ps ∧ Same H G) (dpL [p]) ?_ ?_
  · exact ⟨w1, [v], [p], 0, rfl, upd_same, .one (hp.same (same_upd nw)), by simp [dpL], by simp [szL], rfl, same_upd nw⟩
  · rintro m σ' G ⟨w2, vs, ps, d, rfl, hw, hps, hm, hz, rfl, sG⟩
    have ll := hps.1
    have l2 := szL_len ps
    walk_at "sx"
    refine ⟨!vs.isEmpty, .inl ⟨vs, .of hw, rfl⟩, x_iteB (fun c => ?_) (fun c => ?_)⟩
    · have hn : ps ≠ [] := by
        rintro rfl
        cases vs with
        | nil => cases c
        | cons a r => cases ll
      have hd1 := dpL_next hn
      have hs1 := szL_next ps
      refine ⟨fun σ' G => ∃ (w2 : Addr) (vs : List V) (ps' : List Pt) (d : Nat), σ' = [some v, some (.int (d : Int)), some (.ref w2), none, none] ∧ G w2 = some (.lst vs) ∧ PtsAt K G k vs ps' ∧ d + dpL ps' = dpT p ∧ szL ps' ≤ szT p ∧ dpL ps' < dpL ps ∧ Same H G, ?_, ?_⟩
      · rintro σ' G' ⟨w', vs', ps', d', e1, e2, e3, e4, e5, e6, e7⟩
        exact ⟨_, e6, w', vs', ps', d', e1, e2, e3, e4, e5, rfl, e7⟩
      walk_at "sx"
      refine x_lc2 ?_
      walk_at "sx"
      refine x_lc2L (K := K) (a := w2) (xs := vs) (fun D i G' => ∃ us : List V, G' D = some (.lst us) ∧ Same G G' ∧ PtsAt K G' k us (nextL (ps.take i))) (.of hw) ?_ ?_ ?_ ?_
      · intro D hD
        exact ⟨[], upd_same, same_upd hD, .nil⟩
      · rintro D hD i G' _ ⟨us, h1, h2, h3⟩
        exact .of (h2 _ _ hw)
      · rintro D hD i x G' hx ⟨us, h1, h2, h3⟩
        obtain ⟨u, hu, pu⟩ := (hps.same h2).at hx
        walk_at "sx"
        refine ⟨rfl, ?_⟩
        walk_at "sx"
        have szi : szL (nextL (ps.take i)) ≤ szL ps := by
          have e := szL_next (ps.take i)
          have e2 := szL_append (ps.take i) (ps.drop i)
          rw [List.take_append_drop] at e2
          omega
        have hm1 : nextL (ps.take (i + 1)) = nextL (ps.take i) ++ partsT u := by
          rw [take_more hu, nextL_append]
          simp [nextL]
        have szi1 : szL (nextL (ps.take (i + 1))) ≤ szL ps := by
          have e := szL_next (ps.take (i + 1))
          have e2 := szL_append (ps.take (i + 1)) (ps.drop (i + 1))
          rw [List.take_append_drop] at e2
          omega
        rw [hm1]
        rw [hm1, szL_append] at szi1
        rcases pu.three with ⟨n, rfl, rfl⟩ | ⟨z, rfl, rfl⟩ | ⟨j, nm, qs, a, ys, rfl, rfl, rfl, sa, pq⟩
        · refine x_isT (t := .type "int") (c := false) (.base (.int n)) (kit_ty (by decide +kernel)) ?_
          walk_at "sx"
          exact ⟨us, h1, h2, by rw [show partsT (.i n) = [] from rfl, List.append_nil]; exact h3⟩
        · refine x_isT (t := .type "str") (c := false) (.base (.str z)) (kit_ty (by decide +kernel)) ?_
          walk_at "sx"
          exact ⟨us, h1, h2, by rw [show partsT (.s z) = [] from rfl, List.append_nil]; exact h3⟩
        · refine x_isT (t := .type "tuple") (c := true) (ty_tup sa) (kit_ty (by decide +kernel)) ?_
          rw [show partsT (.t nm qs) = qs from rfl] at szi1 ⊢
          have lq := szL_len qs
          have lu := szL_len (nextL (ps.take i))
          walk_at "sx"
          refine ⟨a, _, rfl, sa, cut_tail_ne _ _, fun b nb => ?_⟩
          rw [cut_tail]
          have Db : D ≠ b := ne_of_none h1 nb
          have kb := same_upd (o := .tup ys) nb
          refine in_tup (D := D) (a := b) (ys := ys) (fun j2 G2 => ∃ ws : List V, G2 D = some (.lst ws) ∧ Same G G2 ∧ SqT K G2 b ys ∧ PtsAt K G2 j ys qs ∧ PtsAt K G2 (j + 1) ws (nextL (ps.take i) ++ qs.take j2)) (.of upd_same) ?_ ?_ ?_ ?_
          · exact ⟨us, by walk_at "hx", h2.trans kb, .of upd_same, pq.same kb, by rw [List.take_zero, List.append_nil]; exact h3.same kb⟩
          · rintro j2 G2 _ ⟨ws, e1, e2, e3, e4, e5⟩
            exact e3
          · rintro j2 x G2 hx2 ⟨ws, e1, e2, e3, e4, e5⟩
            obtain ⟨u2, hu2, pu2⟩ := e4.at hx2
            have lw := e5.1
            rw [List.length_append, List.length_take] at lw
            walk_at "sx"
            refine ⟨rfl, ?_⟩
            walk_at "sx"
            refine ⟨_, rfl, ws, e1, szl (by omega), ws ++ [x], upd_same, same_updf e2 hD, sqT_lst e1 e3, e4.lst e1, ?_⟩
            rw [take_more hu2, ← List.append_assoc]
            exact (e5.lst e1).append (.one ((pu2.up (Nat.le_succ _)).lst e1))
          · rintro G2 ⟨ws, e1, e2, e3, e4, e5⟩
            rw [pq.1, List.take_length] at e5
            exact ⟨ws, e1, e2, e5⟩
      · rintro D hD G' ⟨us, h1, h2, h3⟩
        rw [ll, List.take_length] at h3
        walk_at "sx"
        exact ⟨D, us, nextL ps, d + 1, rfl, h1, h3, by omega, by omega, by omega, sG.trans h2⟩
    · have hn : vs = [] := by
        cases vs with
        | nil => rfl
        | cons a r => cases c
      subst hn
      cases ps with
      | cons a r => cases ll
      | nil =>
        rw [dpL] at hm
        walk_at "sx"
        have e : d = dpT p := by omega
        rw [e]
        exact q _ sG
end
end Gs
namespace Gs
open PySem PySem.Spec PyProof.Rows L2 TL
abbrev s_OperatorTable_has : Stmt := (clsBody (PySem.Challenge.pw_goalstead_k21_sizes_as_read.main.body.getD 36 (.Pass ⟨0, 0, 0, 0⟩))).getD 1 (.Pass ⟨0, 0, 0, 0⟩)
theorem sc_OperatorTable_has : FnScope ["self", "name"] ["self", "name"] (defScope s_OperatorTable_has) := ⟨rfl, rfl, rfl, by decide +kernel, rfl, by decide +kernel, by decide +kernel⟩
abbrev s_Reading_init : Stmt := (clsBody (PySem.Challenge.pw_goalstead_k21_sizes_as_read.main.body.getD 46 (.Pass ⟨0, 0, 0, 0⟩))).getD 0 (.Pass ⟨0, 0, 0, 0⟩)
theorem sc_Reading_init : FnScope ["self", "pieces", "table"] ["self", "pieces", "table"] (defScope s_Reading_init) := ⟨rfl, rfl, rfl, by decide +kernel, rfl, by decide +kernel, by decide +kernel⟩
abbrev s_Reading_whole : Stmt := (clsBody (PySem.Challenge.pw_goalstead_k21_sizes_as_read.main.body.getD 46 (.Pass ⟨0, 0, 0, 0⟩))).getD 1 (.Pass ⟨0, 0, 0, 0⟩)
theorem sc_Reading_whole : FnScope ["self", "pattern", "_"] ["self"] (defScope s_Reading_whole) := ⟨rfl, rfl, rfl, by decide +kernel, rfl, by decide +kernel, by decide +kernel⟩
abbrev s_Reading_part : Stmt := (clsBody (PySem.Challenge.pw_goalstead_k21_sizes_as_read.main.body.getD 46 (.Pass ⟨0, 0, 0, 0⟩))).getD 2 (.Pass ⟨0, 0, 0, 0⟩)
theorem sc_Reading_part : FnScope ["self", "most", "left", "level", "name", "right", "_"] ["self", "most"] (defScope s_Reading_part) := ⟨rfl, rfl, rfl, by decide +kernel, rfl, by decide +kernel, by decide +kernel⟩
abbrev s_Reading_goes_on : Stmt := (clsBody (PySem.Challenge.pw_goalstead_k21_sizes_as_read.main.body.getD 46 (.Pass ⟨0, 0, 0, 0⟩))).getD 3 (.Pass ⟨0, 0, 0, 0⟩)
theorem sc_Reading_goes_on : FnScope ["self", "level", "most", "name"] ["self", "level", "most"] (defScope s_Reading_goes_on) := ⟨rfl, rfl, rfl, by decide +kernel, rfl, by decide +kernel, by decide +kernel⟩
abbrev s_Reading_first_part : Stmt := (clsBody (PySem.Challenge.pw_goalstead_k21_sizes_as_read.main.body.getD 46 (.Pass ⟨0, 0, 0, 0⟩))).getD 4 (.Pass ⟨0, 0, 0, 0⟩)
theorem sc_Reading_first_part : FnScope ["self", "most", "piece", "part", "_", "pattern"] ["self", "most"] (defScope s_Reading_first_part) := ⟨rfl, rfl, rfl, by decide +kernel, rfl, by decide +kernel, by decide +kernel⟩
abbrev s_Reading_plain_part : Stmt := (clsBody (PySem.Challenge.pw_goalstead_k21_sizes_as_read.main.body.getD 46 (.Pass ⟨0, 0, 0, 0⟩))).getD 5 (.Pass ⟨0, 0, 0, 0⟩)
theorem sc_Reading_plain_part : FnScope ["self", "piece", "parts"] ["self", "piece"] (defScope s_Reading_plain_part) := ⟨rfl, rfl, rfl, by decide +kernel, rfl, by decide +kernel, by decide +kernel⟩
abbrev s_Reading_parts_in_brackets : Stmt := (clsBody (PySem.Challenge.pw_goalstead_k21_sizes_as_read.main.body.getD 46 (.Pass ⟨0, 0, 0, 0⟩))).getD 6 (.Pass ⟨0, 0, 0, 0⟩)
theorem sc_Reading_parts_in_brackets : FnScope ["self", "parts", "ending", "part", "_"] ["self"] (defScope s_Reading_parts_in_brackets) := ⟨rfl, rfl, rfl, by decide +kernel, rfl, by decide +kernel, by decide +kernel⟩
abbrev s_Reading_is_next : Stmt := (clsBody (PySem.Challenge.pw_goalstead_k21_sizes_as_read.main.body.getD 46 (.Pass ⟨0, 0, 0, 0⟩))).getD 7 (.Pass ⟨0, 0, 0, 0⟩)
theorem sc_Reading_is_next : FnScope ["self", "pieces"] ["self", "pieces"] (defScope s_Reading_is_next) := ⟨rfl, rfl, rfl, by decide +kernel, rfl, by decide +kernel, by decide +kernel⟩
abbrev s_Reading_take : Stmt := (clsBody (PySem.Challenge.pw_goalstead_k21_sizes_as_read.main.body.getD 46 (.Pass ⟨0, 0, 0, 0⟩))).getD 8 (.Pass ⟨0, 0, 0, 0⟩)
theorem sc_Reading_take : FnScope ["self"] ["self"] (defScope s_Reading_take) := ⟨rfl, rfl, rfl, by decide +kernel, rfl, by decide +kernel, by decide +kernel⟩
def fldsR (pl tb : Addr) (n : Int) : List (Str × V) := L2.putF "at" (.int n) (L2.putF "table" (.ref tb) (L2.putF "pieces" (.ref pl) []))
theorem nat1 : ¬ (("table" : Str) = "at") := by decide +kernel
theorem nat2 : ¬ (("pieces" : Str) = "at") := by decide +kernel
theorem nat3 : ¬ (("pieces" : Str) = "table") := by decide +kernel
theorem fr_at (pl tb : Addr) (n : Int) : (fldsR pl tb n).lookup ("at" : Str) = some (.int n) := by
  unfold fldsR
  rw [lookup_putF, if_pos rfl]
theorem fr_tb (pl tb : Addr) (n : Int) : (fldsR pl tb n).lookup ("table" : Str) = some (.ref tb) := by
  unfold fldsR
  rw [lookup_putF, if_neg nat1, lookup_putF, if_pos rfl]
theorem fr_pl (pl tb : Addr) (n : Int) : (fldsR pl tb n).lookup ("pieces" : Str) = some (.ref pl) := by
  unfold fldsR
  rw [lookup_putF, if_neg nat2, lookup_putF, if_neg nat3, lookup_putF, if_pos rfl]
theorem fr_no (pl tb : Addr) (n : Int) {m : Str} (h1 : ¬ m = "at") (h2 : ¬ m = "table") (h3 : ¬ m = "pieces") : (fldsR pl tb n).lookup m = none := by
  unfold fldsR
  rw [lookup_putF, if_neg h1, lookup_putF, if_neg h2, lookup_putF, if_neg h3]
  all_goals rfl
theorem putF_ne {f g : Str} {v x : V} {r : List (Str × V)} (h : ¬ g = f) : L2.putF f v ((g, x) :: r) = (g, x) :: L2.putF f v r := by
  show (if g = f then _ else _) = _
  rw [if_neg h]
theorem putF_eq {f : Str} {v x : V} {r : List (Str × V)} : L2.putF f v ((f, x) :: r) = (f, v) :: r := by
  show (if f = f then _ else _) = _
  rw [if_pos rfl]
theorem putF_nil {f : Str} {v : V} : L2.putF f v [] = [(f, v)] := rfl
theorem fr_eq (pl tb : Addr) (n : Int) : fldsR pl tb n = ([("pieces", V.ref pl), ("table", V.ref tb), ("at", V.int n)] : List (Str × V)) := by
  unfold fldsR
  rw [putF_nil, putF_ne nat3, putF_nil, putF_ne nat2, putF_ne nat1, putF_nil]
theorem fr_put (pl tb : Addr) (n m : Int) : L2.putF "at" (.int m) (fldsR pl tb n) = fldsR pl tb m := by
  rw [fr_eq, fr_eq, putF_ne nat2, putF_ne nat1, putF_eq]
structure ReC (K : PySem.W.Frag) (C : Addr) : Prop where
  cl : Cls K C
  nP : NoAttr K C "pieces"
  nT : NoAttr K C "table"
  nA : NoAttr K C "at"
/-- a reading stands at its piece n -/
def RdAt (K : PySem.W.Frag) (D C : Addr) (H : Hp) (r pl : Addr) (zs : List Str) (R : List Op) (n : Nat) : Prop := ∃ (dx tb : Addr), H r = some (.ins D dx (fldsR pl tb (n : Int))) ∧ H pl = some (.lst (zs.map V.str)) ∧ TabAt K C H tb R
/-- all but r is as it was -/
def Kr (r : Addr) (H H' : Hp) : Prop := ∀ b o, H b = some o → b ≠ r → H' b = some o
theorem Kr.refl {r : Addr} (H : Hp) : Kr r H H := fun _ _ h _ => h
theorem Kr.trans {r : Addr} {A B C : Hp} (a : Kr r A B) (b : Kr r B C) : Kr r A C := fun c o h n => b c o (a c o h n) n
theorem Kr.of {r : Addr} {A B : Hp} (a : Same A B) : Kr r A B := fun c o h _ => a c o h
theorem Kr.sqT {K : PySem.W.Frag} {D r dx a : Addr} {fs : List (Str × V)} {A B : Hp} {xs : List V} (k : Kr r A B) (h : A r = some (.ins D dx fs)) (s : SqT K A a xs) : SqT K B a xs := sqT_but h k s
theorem RdAt.ins {K : PySem.W.Frag} {D C : Addr} {H : Hp} {r pl : Addr} {zs : List Str} {R : List Op} {n : Nat} (h : RdAt K D C H r pl zs R n) : ∃ dx fs, H r = some (.ins D dx fs) := by
  obtain ⟨dx, tb, h1, _⟩ := h
  exact ⟨dx, _, h1⟩
theorem RdAt.same {K : PySem.W.Frag} {D C : Addr} {H H' : Hp} {r pl : Addr} {zs : List Str} {R : List Op} {n : Nat} (h : RdAt K D C H r pl zs R n) (s : Same H H') : RdAt K D C H' r pl zs R n := by
  obtain ⟨dx, tb, h1, h2, h3⟩ := h
  exact ⟨dx, tb, s _ _ h1, s _ _ h2, h3.same s⟩
theorem PtAt.kr {K : PySem.W.Frag} {D r dx : Addr} {fs : List (Str × V)} {A B : Hp} {k : Nat} {x : V} {u : Pt} (p : PtAt K A k x u) (k' : Kr r A B) (h : A r = some (.ins D dx fs)) : PtAt K B k x u := p.mono fun _ _ s => k'.sqT h s
theorem x_fR {K : PySem.W.Frag} {D r dx : Addr} {fs : List (Str × V)} {f : Str} {v : V} {σ : L2.St} {H : Hp} {Q : VK} {i : Nat} (c : Cls K D) (na : NoAttr K D f) (hs : σ[i]? = some (some (.ref r))) (hr : H r = some (.ins D dx fs)) (hl : fs.lookup f = some v) (q : Q v H) : tFld K (tVar i) f σ H Q :=
  ⟨.ref r, hs, r, D, dx, _, _, rfl, hr, c, na, hl, q⟩
theorem x_fT {K : PySem.W.Frag} {C a dx : Addr} {fs : List (Str × V)} {f : Str} {v : V} {te : TE} {σ : L2.St} {H : Hp} {Q : VK} (c : Cls K C) (na : NoAttr K C f) (ha : H a = some (.ins C dx fs)) (hl : fs.lookup f = some v) (q : Q v H) (ht : ∀ Q' : VK, Q' (.ref a) H → te σ H Q') : tFld K te f σ H Q :=
  ht _ ⟨a, C, dx, _, _, rfl, ha, c, na, hl, q⟩
theorem x_mtT {C a dx : Addr} {m : Str} {sp : Sp} {t : TA} {te : TE} {σ : L2.St} {H : Hp} {Q : VK} {E : XK} {fs : List (Str × V)} (ha : H a = some (.ins C dx fs)) (hm : fs.lookup m = none) (q : t σ H fun vs H2 => sp (.ref a :: (vs ++ [])) H2 Q E) (ht : ∀ Q' : VK, Q' (.ref a) H → te σ H Q') : tMeth C m sp [] E te t σ H Q :=
  ht _ ⟨a, dx, fs, rfl, ha, hm, q⟩
def nxtB (kvs : List (Key × V)) : Option Str → Bool
  | some z => (valV kvs (Sum.inr z : Key)).isSome
  | none => false
def goesB (R : List Op) (lev most : Int) : Option Str → Bool
  | none => false
  | some nm => match rowOf R nm 2 with
    | none => false
    | some o => decide (lev ≤ lbO o) && decide (o.l ≤ most)
def spNextR (K : PySem.W.Frag) (D C : Addr) : Sp := fun vs H Q _ => ∃ (r pl : Addr) (zs : List Str) (R : List Op) (n : Nat) (b : Addr), vs = [.ref r, .ref b] ∧ RdAt K D C H r pl zs R n ∧ zs.length ≤ 1000 ∧ n ≤ zs.length ∧
  ((∃ kvs, H b = some (.dK kvs) ∧ Q (.bl (nxtB kvs zs[n]?)) H) ∨ (SqT K H b [.str ("(" : Str)] ∧ Q (.bl (decide (zs[n]? = some ("(" : Str)))) H))
def spGoes (K : PySem.W.Frag) (D C : Addr) : Sp := fun vs H Q _ => ∃ (r pl : Addr) (zs : List Str) (R : List Op) (n : Nat) (lev most : Int), vs = [.ref r, .int lev, .int most] ∧ RdAt K D C H r pl zs R n ∧ zs.length ≤ 1000 ∧ n ≤ zs.length ∧ Q (.bl (goesB R lev most zs[n]?)) H
def spHas (K : PySem.W.Frag) (C : Addr) : Sp := fun vs H Q _ => ∃ (p : Addr) (R : List Op) (z : Str), vs = [.ref p, .str z] ∧ TabAt K C H p R ∧ Q (.bl ((rowOf R z 2).isSome || (rowOf R z 1).isSome)) H
section
variable {P : Program} {w : World} {K : PySem.W.Frag} {mg : Str → Option Value} {base : Heap} {f C D : Addr} {fd : FuncData}
def HasNextR (D C : Addr) (P : Program) (w : World) (K : PySem.W.Frag) (mg : Str → Option Value) (base : Heap) : Prop := C8.Met P w K mg base 1 D "is_next" (spNextR K D C) []
def HasGoes (D C : Addr) (P : Program) (w : World) (K : PySem.W.Frag) (mg : Str → Option Value) (base : Heap) : Prop := C8.Met P w K mg base 2 D "goes_on" (spGoes K D C) []
def HasHas (C : Addr) (P : Program) (w : World) (K : PySem.W.Frag) (mg : Str → Option Value) (base : Heap) : Prop := C8.Met P w K mg base 1 C "has" (spHas K C) []
theorem ok_has (F : Fun K "has" "OperatorTable.has" s_OperatorTable_has f fd) (TC : TabC K C) : FnOk P w K mg base CX0 1 f fd ["self", "name"] (spHas K C) := by
  refine F.ok sc_OperatorTable_has (fun vs H Q E h => ?_) (fun cdv A outer s H vs Q E hr h => ?_)
  · obtain ⟨p, R, z, rfl, _⟩ := h
    rfl
  obtain ⟨p, R, z, rfl, tb, q⟩ := h
  obtain ⟨dx, b, h, kb, ka, h1, h2, h3, h4⟩ := tb
  refine ⟨_, (pss_one (ps_ret (pe_or (pe_cmp (pc_din (hu_of hr) (pv 1) (pe_fld (pv 0) rfl))) (pe_one (pe_cmp (pc_din (hu_of hr) (pv 1) (pe_fld (pv 0) rfl))))))), ?_⟩
  walk_at "sx"
  refine x_din ?_
  walk_at "sx"
  refine x_fldB TC rfl h1 ⟨b, _, rfl, DGet.k (k := Sum.inr z) h2, ?_⟩
  have e1 : (valV kb (Sum.inr z : Key)).isSome = (rowOf R z 2).isSome := by
    cases e : rowOf R z 2 with
    | none => rw [h4.bn z e]; rfl
    | some o =>
      obtain ⟨t, et, _⟩ := h4.bs z o e
      rw [et]
      rfl
  have e2 : (valV ka (Sum.inr z : Key)).isSome = (rowOf R z 1).isSome := by
    cases e : rowOf R z 1 with
    | none => rw [h4.an z e]; rfl
    | some o => rw [h4.as z o e]; rfl
  rw [e1]
  cases c : (rowOf R z 2).isSome with
  | true =>
    rw [c] at q
    walk_at "sx"
    exact q
  | false =>
    rw [c] at q
    walk_at "sx"
    refine x_din ?_
    walk_at "sx"
    refine x_fldA TC rfl h1 ⟨h, _, rfl, DGet.k (k := Sum.inr z) h3, ?_⟩
    rw [e2]
    exact q
theorem ok_is_next (F : Fun K "is_next" "Reading.is_next" s_Reading_is_next f fd) (T : Txt mg) (RC : ReC K D) : FnOk P w K mg base CX0 1 f fd ["self", "pieces"] (spNextR K D C) := by
  refine F.ok sc_Reading_is_next (fun vs H Q E h => ?_) (fun cdv A outer s H vs Q E hr h => ?_)
  · obtain ⟨r, pl, zs, R, n, b, rfl, _⟩ := h
    rfl
  obtain ⟨r, pl, zs, R, n, b, rfl, rd, hl, hn, hq⟩ := h
  obtain ⟨dx, tb, h1, h2, h3⟩ := rd
  rcases hq with ⟨kvs, hb, q⟩ | ⟨hb, q⟩
  · refine ⟨_, (pss_one (ps_ret (pe_and (pe_cmpR op_lt (pe_fld (pv 0) rfl) (pe_callB (call_lenK (K := K)) (by rfl) T.z_len (by decide +kernel) (pa_cons (pe_fld (pv 0) rfl) pa_nil)) (nomark _)) (pe_one (pe_cmp (pc_din (hu_of hr) (pe_ix (ix_listK (K := K)) (pe_fld (pv 0) rfl) (pe_fld (pv 0) rfl) (fun _ _ => rfl)) (pv 1))))))), ?_⟩
    walk_at "sx"
    refine x_fR RC.cl RC.nA rfl h1 (fr_at pl tb n) ?_
    walk_at "sx"
    refine x_fR RC.cl RC.nP rfl h1 (fr_pl pl tb n) ?_
    walk_at "sx"
    refine x_ite (fun c => ?_) (fun c => ?_)
    · have hlt : n < zs.length := by
        have : (n : Int) < ((zs.map V.str).length : Int) := c
        rw [List.length_map] at this
        omega
      rw [List.getElem?_eq_getElem hlt] at q
      walk_at "sx"
      refine x_din ?_
      walk_at "sx"
      refine x_fR RC.cl RC.nP rfl h1 (fr_pl pl tb n) ?_
      walk_at "sx"
      refine x_fR RC.cl RC.nA rfl h1 (fr_at pl tb n) ?_
      walk_at "sx"
      refine x_ixL (.of h2) (atI_nat (by rw [List.getElem?_map, List.getElem?_eq_getElem hlt]; rfl)) ?_
      walk_at "sx"
      exact ⟨b, _, rfl, DGet.k (k := Sum.inr zs[n]) hb, q⟩
    · have e : n = zs.length := by
        have : ¬ (n : Int) < ((zs.map V.str).length : Int) := c
        rw [List.length_map] at this
        omega
      rw [List.getElem?_eq_none (by omega)] at q
      walk_at "sx"
      exact q
  · refine ⟨_, (pss_one (ps_ret (pe_and (pe_cmpR op_lt (pe_fld (pv 0) rfl) (pe_callB (call_lenK (K := K)) (by rfl) T.z_len (by decide +kernel) (pa_cons (pe_fld (pv 0) rfl) pa_nil)) (nomark _)) (pe_one (pe_cmpR (op_inK (K := K)) (pe_ix (ix_listK (K := K)) (pe_fld (pv 0) rfl) (pe_fld (pv 0) rfl) (fun _ _ => rfl)) (pv 1) (by first | exact nomark _ | rfl)))))), ?_⟩
    walk_at "sx"
    refine x_fR RC.cl RC.nA rfl h1 (fr_at pl tb n) ?_
    walk_at "sx"
    refine x_fR RC.cl RC.nP rfl h1 (fr_pl pl tb n) ?_
    walk_at "sx"
    refine x_ite (fun c => ?_) (fun c => ?_)
    · have hlt : n < zs.length := by
        have : (n : Int) < ((zs.map V.str).length : Int) := c
        rw [List.length_map] at this
        omega
      rw [List.getElem?_eq_getElem hlt] at q
      walk_at "sx"
      refine x_fR RC.cl RC.nP rfl h1 (fr_pl pl tb n) ?_
      walk_at "sx"
      refine x_fR RC.cl RC.nA rfl h1 (fr_at pl tb n) ?_
      walk_at "sx"
      refine x_ixL (.of h2) (atI_nat (by rw [List.getElem?_map, List.getElem?_eq_getElem hlt]; rfl)) ?_
      walk_at "sx"
      refine ⟨b, _, rfl, .inr hb, rfl, by decide, ?_⟩
      rw [if_neg (by decide), show ([.str ("(" : Str)] : List V) = ([("(" : Str)] : List Str).map V.str from rfl, inV_strs]
      have e : decide (zs[n] ∈ ([("(" : Str)] : List Str)) = decide (some zs[n] = some ("(" : Str)) := by
        rw [decide_eq_decide, List.mem_singleton]
        exact ⟨fun z => congrArg some z, fun z => Option.some.inj z⟩
      rw [e]
      exact q
    · have e : n = zs.length := by
        have : ¬ (n : Int) < ((zs.map V.str).length : Int) := c
        rw [List.length_map] at this
        omega
      rw [List.getElem?_eq_none (by omega)] at q
      walk_at "sx"
      exact q
theorem ok_goes_on (F : Fun K "goes_on" "Reading.goes_on" s_Reading_goes_on f fd) (T : Txt mg) (RC : ReC K D) (TC : TabC K C) (M_Reading_is_next : HasNextR D C P w K mg base) (M_OperatorTable_left_bound : HasLB C P w K mg base) : FnOk P w K mg base CX0 2 f fd ["self", "level", "most"] (spGoes K D C) := by
  refine F.ok sc_Reading_goes_on (fun vs H Q E h => ?_) (fun cdv A outer s H vs Q E hr h => ?_)
  · obtain ⟨r, pl, zs, R, n, lev, most, rfl, _⟩ := h
    rfl
  obtain ⟨r, pl, zs, R, n, lev, most, rfl, rd, hl, hn, q⟩ := h
  have rd0 := rd
  obtain ⟨dx, tb, h1, h2, h3⟩ := rd
  have tb0 := h3
  obtain ⟨dx2, b, h, kb, ka, g1, g2, g3, g4⟩ := h3
  refine ⟨_, (pss_cons (ps_if (pt_not (pt_val (C8.pe_mt M_Reading_is_next hr (by omega) (pv 0) (pa_cons (pe_fld (pe_fld (pv 0) rfl) rfl) pa_nil))))
      (pss_one (ps_ret pe_bl))
      pss_nil)
    (pss_cons (ps_set (i := 3) sc_Reading_goes_on.nd rfl (Or.inl rfl) (pe_ix (ix_listK (K := K)) (pe_fld (pv 0) rfl) (pe_fld (pv 0) rfl) (fun _ _ => rfl)))
    (pss_one (ps_ret (pe_and (pe_cmpR op_le (pv 1) (C8.pe_mt M_OperatorTable_left_bound hr (by omega) (pe_fld (pv 0) rfl) (pa_cons (pv 3) pa_nil)) (nomark _)) (pe_one (pe_cmpR op_le (pe_ix (ix_tupK (K := K)) (pe_dget (hu_of hr) (pe_fld (pe_fld (pv 0) rfl) rfl) (pv 3) (fun _ _ => rfl)) pe_int (fun _ _ => rfl)) (pv 2) (nomark _)))))))), ?_⟩
  walk_at "sx"
  refine x_mt rfl h1 (fr_no pl tb n (by decide +kernel) (by decide +kernel) (by decide +kernel)) ?_
  walk_at "sx"
  refine x_fT TC.cl TC.nB g1 (flds_b b h) ?_ (fun Q' q' => x_fR RC.cl RC.nT rfl h1 (fr_tb pl tb n) q')
  walk_at "sx"
  refine ⟨r, pl, zs, R, n, b, rfl, rd0, hl, hn, .inl ⟨kb, g2, ?_⟩⟩
  cases ez : zs[n]? with
  | none =>
    rw [ez] at q
    walk_at "sx"
    exact q
  | some nm =>
    rw [ez] at q
    cases eo : rowOf R nm 2 with
    | none =>
      rw [show nxtB kb (some nm) = false from by show (valV kb (Sum.inr nm : Key)).isSome = false; rw [g4.bn nm eo]; rfl]
      have e : goesB R lev most (some nm) = false := by simp only [goesB, eo]
      rw [e] at q
      walk_at "sx"
      exact q
    | some o =>
      obtain ⟨t, et, st⟩ := g4.bs nm o eo
      rw [show nxtB kb (some nm) = true from by show (valV kb (Sum.inr nm : Key)).isSome = true; rw [et]; rfl]
      have e : goesB R lev most (some nm) = (decide (lev ≤ lbO o) && decide (o.l ≤ most)) := by simp only [goesB, eo]
      rw [e] at q
      walk_at "sx"
      refine x_fR RC.cl RC.nP rfl h1 (fr_pl pl tb n) ?_
      walk_at "sx"
      refine x_fR RC.cl RC.nA rfl h1 (fr_at pl tb n) ?_
      walk_at "sx"
      refine x_ixL (.of h2) (atI_nat (by rw [List.getElem?_map, ez]; rfl)) ?_
      walk_at "sx"
      refine x_mtT g1 (flds_no b h (by decide +kernel) (by decide +kernel)) ?_ (fun Q' q' => x_fR RC.cl RC.nT rfl h1 (fr_tb pl tb n) q')
      walk_at "sx"
      refine ⟨tb, R, nm, o, rfl, tb0, eo, ?_⟩
      walk_at "sx"
      refine x_ite (fun c => ?_) (fun c => ?_)
      · rw [decide_eq_true (show lev ≤ lbO o from c), Bool.true_and] at q
        walk_at "sx"
        refine x_dget ?_
        refine x_fT TC.cl TC.nB g1 (flds_b b h) ?_ (fun Q' q' => x_fR RC.cl RC.nT rfl h1 (fr_tb pl tb n) q')
        walk_at "sx"
        refine ⟨b, .ref t, rfl, et ▸ DGet.k (k := Sum.inr nm) g2, ?_⟩
        walk_at "sx"
        exact q
      · rw [decide_eq_false (show ¬ lev ≤ lbO o from c), Bool.false_and] at q
        walk_at "sx"
        exact q
end
end Gs
namespace Gs
open PySem PySem.Spec PyProof.Rows L2 TL
/-! ### what a reading does, whatever the pieces: a result, or no reading -/
/-- a piece with which no plain part begins -/
def PlBad (R : List Op) (z : Str) : Prop := ∃ c t, tl z = c :: t ∧ c ∉ sD ∧ c ≠ 126 ∧ c ∉ sC ∧ (c ∉ sS ∨ z ∈ keptL ∨ rowOf R z 2 ≠ none) ∧ z.length ≤ 12
mutual
inductive RP (R : List Op) (zs : List Str) : Nat → Int → Nat → Option (Pt × Int × Nat) → Prop
  | bad {d : Nat} {most : Int} {n : Nat} : RF R zs d most n none → RP R zs (d + 1) most n none
  | go {d : Nat} {most la : Int} {n n1 : Nat} {a : Pt} {res : Option (Pt × Int × Nat)} : RF R zs d most n (some (a, la, n1)) → RL R zs d most la a n1 res → RP R zs (d + 1) most n res
inductive RL (R : List Op) (zs : List Str) : Nat → Int → Int → Pt → Nat → Option (Pt × Int × Nat) → Prop
  | stop {d : Nat} {most lev : Int} {a : Pt} {n : Nat} : goesB R lev most zs[n]? = false → RL R zs d most lev a n (some (a, lev, n))
  | bad {d : Nat} {most lev : Int} {a : Pt} {n : Nat} {nm : Str} {o : Op} : zs[n]? = some nm → rowOf R nm 2 = some o → goesB R lev most (some nm) = true → RP R zs d (rbO o) (n + 1) none → RL R zs d most lev a n none
  | step {d : Nat} {most lev lb : Int} {a b : Pt} {n n1 : Nat} {nm : Str} {o : Op} {res : Option (Pt × Int × Nat)} : zs[n]? = some nm → rowOf R nm 2 = some o → goesB R lev most (some nm) = true → RP R zs d (rbO o) (n + 1) (some (b, lb, n1)) → RL R zs d most o.l (.t nm [a, b]) n1 res → RL R zs d most lev a n res
inductive RF (R : List Op) (zs : List Str) : Nat → Int → Nat → Option (Pt × Int × Nat) → Prop
  | none {d : Nat} {most : Int} {n : Nat} : zs[n]? = none → RF R zs d most n none
  | high {d : Nat} {most : Int} {n : Nat} {z : Str} {o : Op} : zs[n]? = some z → rowOf R z 1 = some o → o.l > most → RF R zs d most n none
  | aheadB {d : Nat} {most : Int} {n : Nat} {z : Str} {o : Op} : zs[n]? = some z → rowOf R z 1 = some o → o.l ≤ most → RP R zs d (o.l - 1) (n + 1) none → RF R zs d most n none
  | ahead {d : Nat} {most lx : Int} {n n1 : Nat} {z : Str} {o : Op} {x : Pt} : zs[n]? = some z → rowOf R z 1 = some o → o.l ≤ most → RP R zs d (o.l - 1) (n + 1) (some (x, lx, n1)) → RF R zs d most n (some (.t z [x], o.l, n1))
  | brB {d : Nat} {most : Int} {n : Nat} : zs[n]? = some ("(" : Str) → RP R zs d 9 (n + 1) none → RF R zs d most n none
  | brE {d : Nat} {most l : Int} {n n1 : Nat} {p : Pt} : zs[n]? = some ("(" : Str) → RP R zs d 9 (n + 1) (some (p, l, n1)) → zs[n1]? ≠ some (")" : Str) → RF R zs d most n none
  | br {d : Nat} {most l : Int} {n n1 : Nat} {p : Pt} : zs[n]? = some ("(" : Str) → RP R zs d 9 (n + 1) (some (p, l, n1)) → zs[n1]? = some (")" : Str) → RF R zs d most n (some (p, 0, n1 + 1))
  | plainB {d : Nat} {most : Int} {n : Nat} {z : Str} : zs[n]? = some z → rowOf R z 1 = none → z ≠ ("(" : Str) → RW R zs d z (n + 1) none → RF R zs d most n none
  | plain {d : Nat} {most : Int} {n n1 : Nat} {z : Str} {p : Pt} : zs[n]? = some z → rowOf R z 1 = none → z ≠ ("(" : Str) → RW R zs d z (n + 1) (some (p, n1)) → RF R zs d most n (some (p, 0, n1))
inductive RW (R : List Op) (zs : List Str) : Nat → Str → Nat → Option (Pt × Nat) → Prop
  | num {d : Nat} {m : Int} {z : Str} {n : Nat} : Num R m z → RW R zs d z n (some (.i m, n))
  | unk {d : Nat} {z : Str} {n : Nat} : Unk R z → RW R zs d z n (some (.s z, n))
  | bad {d : Nat} {z : Str} {n : Nat} : PlBad R z → RW R zs d z n none
  | word {d : Nat} {z : Str} {n : Nat} : Wd R z → zs[n]? ≠ some ("(" : Str) → RW R zs d z n (some (.s z, n))
  | compB {d : Nat} {z : Str} {n : Nat} : Wd R z → zs[n]? = some ("(" : Str) → RB R zs d 0 (n + 1) none → RW R zs d z n none
  | comp {d : Nat} {z : Str} {n n1 : Nat} {ps : List Pt} : Wd R z → zs[n]? = some ("(" : Str) → RB R zs d 0 (n + 1) (some (ps, n1)) → RW R zs d z n (some (.t z ps, n1))
inductive RB (R : List Op) (zs : List Str) : Nat → Nat → Nat → Option (List Pt × Nat) → Prop
  | bad {d k n : Nat} : RP R zs d 9 n none → RB R zs d k n none
  | sign {d k n n1 : Nat} {p : Pt} {l : Int} : RP R zs d 9 n (some (p, l, n1)) → (zs[n1]? ≠ some (")" : Str) ∧ zs[n1]? ≠ some ("," : Str)) ∨ 4 < k + 1 → RB R zs d k n none
  | last {d k n n1 : Nat} {p : Pt} {l : Int} : RP R zs d 9 n (some (p, l, n1)) → zs[n1]? = some (")" : Str) → k + 1 ≤ 4 → RB R zs d k n (some ([p], n1 + 1))
  | nextB {d k n n1 : Nat} {p : Pt} {l : Int} : RP R zs d 9 n (some (p, l, n1)) → zs[n1]? = some ("," : Str) → k + 1 ≤ 4 → RB R zs d (k + 1) (n1 + 1) none → RB R zs d k n none
  | next {d k n n1 n2 : Nat} {p : Pt} {l : Int} {ps : List Pt} : RP R zs d 9 n (some (p, l, n1)) → zs[n1]? = some ("," : Str) → k + 1 ≤ 4 → RB R zs d (k + 1) (n1 + 1) (some (ps, n2)) → RB R zs d k n (some (p :: ps, n2))
end
theorem lt_of_at {zs : List Str} {n : Nat} {z : Str} (h : zs[n]? = some z) : n < zs.length := (List.getElem?_eq_some_iff.mp h).1
/-- what was read: the pieces from n to n1 -/
def Seg (zs : List Str) (n n1 : Nat) (ts : List Str) : Prop := zs.drop n = ts ++ zs.drop n1 ∧ n + ts.length = n1
theorem Seg.nil {zs : List Str} {n : Nat} : Seg zs n n [] := ⟨rfl, rfl⟩
theorem Seg.one {zs : List Str} {n : Nat} {z : Str} (h : zs[n]? = some z) : Seg zs n (n + 1) [z] := by
  refine ⟨?_, rfl⟩
  have hn := lt_of_at h
  have e : zs[n] = z := by
    rw [List.getElem?_eq_getElem hn] at h
    exact Option.some.inj h
  rw [List.drop_eq_getElem_cons hn, e]
  rfl
theorem Seg.app {zs : List Str} {a b c : Nat} {s t : List Str} (h : Seg zs a b s) (g : Seg zs b c t) : Seg zs a c (s ++ t) := by
  refine ⟨by rw [h.1, g.1, List.append_assoc], ?_⟩
  have := h.2
  have := g.2
  rw [List.length_append]
  omega
theorem Stp.cons1 {R : List Op} {d : Nat} {nm : Str} {o : Op} {la le lev : Int} {a b p : Pt} {tb ts : List Str} (h1 : rowOf R nm 2 = some o) (h2 : la ≤ lbO o) (h3 : Spt R d le b tb) (h4 : le ≤ rbO o) (h5 : Stp R d o.l (.t nm [a, b]) lev p ts) : Stp R d la a lev p ([nm] ++ tb ++ ts) := by
  have := Stp.cons h1 h2 h3 h4 h5
  simpa using this
theorem goesB_some {R : List Op} {lev most : Int} {nm : Str} {o : Op} (h : rowOf R nm 2 = some o) (g : goesB R lev most (some nm) = true) : lev ≤ lbO o ∧ o.l ≤ most := by
  simp only [goesB, h] at g
  rw [Bool.and_eq_true, decide_eq_true_iff, decide_eq_true_iff] at g
  exact g
theorem rb_nn {R : List Op} (lv : LvOk R) {nm : Str} {k : Nat} {o : Op} (h : rowOf R nm k = some o) : 0 ≤ rbO o ∧ 0 ≤ o.l - 1 := by
  have := lv o (rowOf_some h).1
  unfold rbO
  split <;> omega
mutual
/-- a result is a spelling of the pieces read -/
theorem RP.sound {R : List Op} {zs : List Str} (lv : LvOk R) : ∀ {d : Nat} {most : Int} {n : Nat} {res : Option (Pt × Int × Nat)}, RP R zs d most n res → 0 ≤ most → ∀ p l n1, res = some (p, l, n1) → ∃ ts, Seg zs n n1 ts ∧ Spt R d l p ts ∧ l ≤ most ∧ goesB R l most zs[n1]? = false
  | _, _, _, _, .bad _, _, _, _, _, e => by cases e
  | _, _, _, _, .go h1 h2, h0, p, l, n1, e => by
    obtain ⟨ts, s1, s2, s2'⟩ := RF.sound lv h1 h0 _ _ _ rfl
    obtain ⟨us, s3, s4, s4', s5⟩ := RL.sound lv h2 s2' p l n1 e
    exact ⟨ts ++ us, s1.app s3, .mk s2 s4, s4', s5⟩
theorem RL.sound {R : List Op} {zs : List Str} (lv : LvOk R) : ∀ {d : Nat} {most lev : Int} {a : Pt} {n : Nat} {res : Option (Pt × Int × Nat)}, RL R zs d most lev a n res → lev ≤ most → ∀ p l n1, res = some (p, l, n1) → ∃ ts, Seg zs n n1 ts ∧ Stp R d lev a l p ts ∧ l ≤ most ∧ goesB R l most zs[n1]? = false
  | _, _, _, _, _, _, .stop h, hl, p, l, n1, e => by
    cases e
    exact ⟨[], .nil, .nil, hl, h⟩
  | _, _, _, _, _, _, .bad _ _ _ _, _, _, _, _, e => by cases e
  | _, _, _, _, _, _, .step h1 h2 h3 h4 h5, hl, p, l, n1, e => by
    have g := goesB_some h2 h3
    obtain ⟨ts, s1, s2, s2', _⟩ := RP.sound lv h4 (rb_nn lv h2).1 _ _ _ rfl
    obtain ⟨us, s3, s4, s4', s5⟩ := RL.sound lv h5 g.2 p l n1 e
    exact ⟨[_] ++ ts ++ us, ((Seg.one h1).app s1).app s3, .cons1 h2 g.1 s2 s2' s4, s4', s5⟩
theorem RF.sound {R : List Op} {zs : List Str} (lv : LvOk R) : ∀ {d : Nat} {most : Int} {n : Nat} {res : Option (Pt × Int × Nat)}, RF R zs d most n res → 0 ≤ most → ∀ p l n1, res = some (p, l, n1) → ∃ ts, Seg zs n n1 ts ∧ Prim R (d + 1) l p ts ∧ l ≤ most
  | _, _, _, _, .none _, _, _, _, _, e => by cases e
  | _, _, _, _, .high _ _ _, _, _, _, _, e => by cases e
  | _, _, _, _, .aheadB _ _ _ _, _, _, _, _, e => by cases e
  | _, _, _, _, .ahead h1 h2 h3 h4, h0, p, l, n1, e => by
    cases e
    obtain ⟨ts, s1, s2, s3, _⟩ := RP.sound lv h4 (rb_nn lv h2).2 _ _ _ rfl
    exact ⟨[_] ++ ts, (Seg.one h1).app s1, .ahead h2 s2 s3, h3⟩
  | _, _, _, _, .brB _ _, _, _, _, _, e => by cases e
  | _, _, _, _, .brE _ _ _, _, _, _, _, e => by cases e
  | _, _, _, _, .br h1 h2 h3, h0, p, l, n1, e => by
    cases e
    obtain ⟨ts, s1, s2, s3, _⟩ := RP.sound lv h2 (by decide) _ _ _ rfl
    exact ⟨[_] ++ (ts ++ [_]), (Seg.one h1).app (s1.app (Seg.one h3)), .paren s2 s3, h0⟩
  | _, _, _, _, .plainB _ _ _ _, _, _, _, _, e => by cases e
  | _, _, _, _, .plain h1 _ _ h2, h0, p, l, n1, e => by
    cases e
    obtain ⟨ts, s1, s2⟩ := RW.sound lv h2 _ _ rfl
    exact ⟨[_] ++ ts, (Seg.one h1).app s1, s2, h0⟩
theorem RW.sound {R : List Op} {zs : List Str} (lv : LvOk R) : ∀ {d : Nat} {z : Str} {n : Nat} {res : Option (Pt × Nat)}, RW R zs d z n res → ∀ p n1, res = some (p, n1) → ∃ ts, Seg zs n n1 ts ∧ Prim R (d + 1) 0 p (z :: ts)
  | _, _, _, _, .num h, _, _, e => by
    cases e
    exact ⟨[], .nil, .num h⟩
  | _, _, _, _, .unk h, _, _, e => by
    cases e
    exact ⟨[], .nil, .unk h⟩
  | _, _, _, _, .bad _, _, _, e => by cases e
  | _, _, _, _, .word h _, _, _, e => by
    cases e
    exact ⟨[], .nil, .word h⟩
  | _, _, _, _, .compB _ _ _, _, _, e => by cases e
  | _, _, _, _, .comp h1 h2 h3, _, _, e => by
    cases e
    obtain ⟨ts, s1, s2, s3, s4⟩ := RB.sound lv h3 _ _ rfl
    exact ⟨[_] ++ ts, (Seg.one h2).app s1, .comp h1 s3 (by omega) s2⟩
theorem RB.sound {R : List Op} {zs : List Str} (lv : LvOk R) : ∀ {d k n : Nat} {res : Option (List Pt × Nat)}, RB R zs d k n res → ∀ ps n1, res = some (ps, n1) → ∃ ts, Seg zs n n1 ts ∧ SptL R d ps ts ∧ 0 < ps.length ∧ k + ps.length ≤ 4
  | _, _, _, _, .bad _, _, _, e => by cases e
  | _, _, _, _, .sign _ _, _, _, e => by cases e
  | _, _, _, _, .last h1 h2 h3, ps, n1, e => by
    cases e
    obtain ⟨ts, s1, s2, s3, _⟩ := RP.sound lv h1 (by decide) _ _ _ rfl
    exact ⟨ts ++ [_], s1.app (Seg.one h2), .one s2 s3, by simp, by simpa using h3⟩
  | _, _, _, _, .nextB _ _ _ _, _, _, e => by cases e
  | _, _, _, _, .next h1 h2 h3 h4, ps, n1, e => by
    cases e
    obtain ⟨ts, s1, s2, s3, _⟩ := RP.sound lv h1 (by decide) _ _ _ rfl
    obtain ⟨us, g1, g2, g3, g4⟩ := RB.sound lv h4 _ _ rfl
    have := (s1.app (Seg.one h2)).app g1
    rw [List.append_assoc] at this
    exact ⟨ts ++ ([_] ++ us), this, .cons s2 s3 g2, by simp, by simp; omega⟩
end
theorem Spt.pos {R : List Op} {d : Nat} {lev : Int} {p : Pt} {ts : List Str} (h : Spt R d lev p ts) : 0 < ts.length := by
  cases h with
  | mk h1 h2 =>
    rw [List.length_append]
    have : ∀ {d : Nat} {la : Int} {a : Pt} {ta : List Str}, Prim R d la a ta → 0 < ta.length := fun h => by cases h <;> simp
    have := this h1
    omega
/-- a piece as it may be, ahead of a plain part -/
def PK (R : List Op) (z : Str) : Prop := (∃ o, rowOf R z 1 = some o) ∨ z = ("(" : Str) ∨ (∃ m, Num R m z) ∨ Unk R z ∨ Wd R z ∨ PlBad R z
end Gs
namespace Gs
open PySem PySem.Spec PyProof.Rows L2 TL
abbrev s_BadShape : Stmt := (clsBody (PySem.Challenge.pw_goalstead_k21_sizes_as_read.main.body.getD 18 (.Pass ⟨0, 0, 0, 0⟩))).getD 0 (.Pass ⟨0, 0, 0, 0⟩)
theorem sc_BadShape : FnScope ["self", "line"] ["self", "line"] (defScope s_BadShape) := ⟨rfl, rfl, rfl, by decide +kernel, rfl, by decide +kernel, by decide +kernel⟩
abbrev s_BadSize : Stmt := (clsBody (PySem.Challenge.pw_goalstead_k21_sizes_as_read.main.body.getD 17 (.Pass ⟨0, 0, 0, 0⟩))).getD 0 (.Pass ⟨0, 0, 0, 0⟩)
theorem sc_BadSize : FnScope ["self", "line"] ["self", "line"] (defScope s_BadSize) := ⟨rfl, rfl, rfl, by decide +kernel, rfl, by decide +kernel, by decide +kernel⟩
section
variable {P : Program} {w : World} {K : PySem.W.Frag} {mg : Str → Option Value} {base : Heap} {f : Addr} {fd : FuncData} {B C : Addr}
theorem ok_init_BadShape (F : Fun K "__init__" "BadShape.__init__" s_BadShape f fd) (TB : BaseC K mg B) (hC : OexC K C) (nf : PySem.W.findIn K (.ref C) "line" = some none) : FnOk P w K mg base CX0 1 f fd ["self", "line"] (spErr1 K C "line") := by
  refine F.ok sc_BadShape (fun vs H Q E h => ?_) (fun cdv A outer s H vs Q E hr h => ?_)
  · obtain ⟨a, n, rfl, _⟩ := h
    rfl
  obtain ⟨a, n, rfl, hn, ha, q⟩ := h
  refine ⟨_, (pss_cons (ps_expr (pe_cinit rfl TB.mB TB.sp TB.rd TB.fc (pa_cons (pv 0) (pa_cons (pe_joined (PJ.cons pe_str (PJ.cons (pe_fmt (pv 1)) (PJ.cons pe_str PJ.nil)))) pa_nil))))
    (pss_one (ps_ost (pv 0) (pv 1)))), ?_⟩
  walk_at "sx"
  refine x_veI ?_
  walk_at "sx"
  refine x_jcons ?_
  walk_at "sx"
  refine ⟨_, rfl, by decide +kernel, ?_⟩
  refine x_jcons (x_fmt ?_)
  walk_at "sx"
  have hl := natStr_len (n := n) (by omega)
  refine .inr ⟨n, rfl, Nat.lt_trans (log_of (a := 200) (by omega) (by decide)) (by decide), ?_⟩
  refine ⟨_, rfl, sz ?_, ?_⟩
  · rw [str_append_len]
    have h0 : (Str.empty ++ ("line " : Str)).length = 5 := by decide +kernel
    rw [h0]
    show 5 + (Str.ofString (toString ((n : Nat) : Int))).length ≤ _
    omega
  refine x_jcons ?_
  walk_at "sx"
  refine ⟨_, rfl, sz ?_, ?_⟩
  · rw [str_append_len, str_append_len]
    have h0 : (Str.empty ++ ("line " : Str)).length = 5 := by decide +kernel
    have h1 : (": no reading of the shape that is asked for" : Str).length = 43 := by decide +kernel
    rw [h0, h1]
    show 5 + (Str.ofString (toString ((n : Nat) : Int))).length + 43 ≤ _
    omega
  refine x_jnil ?_
  walk_at "sx"
  refine ⟨a, C, _, rfl, (by show 1 ≤ 1000; decide), hC, ha, ?_⟩
  refine x_ost ?_
  walk_at "sx"
  refine ⟨a, C, rfl, hC, nf, .inl ⟨ha, fun dx h1 h2 => ?_⟩⟩
  exact q dx h1 h2
theorem ok_init_BadSize (F : Fun K "__init__" "BadSize.__init__" s_BadSize f fd) (TB : BaseC K mg B) (hC : OexC K C) (nf : PySem.W.findIn K (.ref C) "line" = some none) : FnOk P w K mg base CX0 1 f fd ["self", "line"] (spErr1 K C "line") := by
  refine F.ok sc_BadSize (fun vs H Q E h => ?_) (fun cdv A outer s H vs Q E hr h => ?_)
  · obtain ⟨a, n, rfl, _⟩ := h
    rfl
  obtain ⟨a, n, rfl, hn, ha, q⟩ := h
  refine ⟨_, (pss_cons (ps_expr (pe_cinit rfl TB.mB TB.sp TB.rd TB.fc (pa_cons (pv 0) (pa_cons (pe_joined (PJ.cons pe_str (PJ.cons (pe_fmt (pv 1)) (PJ.cons pe_str PJ.nil)))) pa_nil))))
    (pss_one (ps_ost (pv 0) (pv 1)))), ?_⟩
  walk_at "sx"
  refine x_veI ?_
  walk_at "sx"
  refine x_jcons ?_
  walk_at "sx"
  refine ⟨_, rfl, by decide +kernel, ?_⟩
  refine x_jcons (x_fmt ?_)
  walk_at "sx"
  have hl := natStr_len (n := n) (by omega)
  refine .inr ⟨n, rfl, Nat.lt_trans (log_of (a := 200) (by omega) (by decide)) (by decide), ?_⟩
  refine ⟨_, rfl, sz ?_, ?_⟩
  · rw [str_append_len]
    have h0 : (Str.empty ++ ("line " : Str)).length = 5 := by decide +kernel
    rw [h0]
    show 5 + (Str.ofString (toString ((n : Nat) : Int))).length ≤ _
    omega
  refine x_jcons ?_
  walk_at "sx"
  refine ⟨_, rfl, sz ?_, ?_⟩
  · rw [str_append_len, str_append_len]
    have h0 : (Str.empty ++ ("line " : Str)).length = 5 := by decide +kernel
    have h1 : (": too many pieces or brackets, or too big or deep" : Str).length = 49 := by decide +kernel
    rw [h0, h1]
    show 5 + (Str.ofString (toString ((n : Nat) : Int))).length + 49 ≤ _
    omega
  refine x_jnil ?_
  walk_at "sx"
  refine ⟨a, C, _, rfl, (by show 1 ≤ 1000; decide), hC, ha, ?_⟩
  refine x_ost ?_
  walk_at "sx"
  refine ⟨a, C, rfl, hC, nf, .inl ⟨ha, fun dx h1 h2 => ?_⟩⟩
  exact q dx h1 h2
end
end Gs
namespace Gs
open PySem PySem.Spec PyProof.Rows L2 TL
/-! ### errors made while another one is handled -/
section
variable {P : Program} {w : World} {K : PySem.W.Frag} {mg : Str → Option Value} {base : Heap} {f : Addr} {fd : FuncData} {B C : Addr}
theorem ok_initH_BadShape (F : Fun K "__init__" "BadShape.__init__" s_BadShape f fd) (TB : BaseC K mg B) (hC : OexC K C) (nf : PySem.W.findIn K (.ref C) "line" = some none) : L2H.FnH P w K mg base CX0 1 f fd ["self", "line"] (spErr1 K C "line") := by
  refine F.okH sc_BadShape (fun vs H Q E h => ?_) (fun cdv A outer s H vs Q E pz hot hr h => ?_)
  · obtain ⟨a, n, rfl, _⟩ := h
    rfl
  obtain ⟨a, n, rfl, hn, ha, q⟩ := h
  refine ⟨_, (pss_cons (ps_expr (pe_cinit rfl TB.mB TB.sp TB.rd TB.fc (pa_cons (pv 0) (pa_cons (pe_joined (PJ.cons pe_str (PJ.cons (pe_fmt (pv 1)) (PJ.cons pe_str PJ.nil)))) pa_nil))))
    (pss_one (ps_ost (pv 0) (pv 1)))), ?_⟩
  walk_at "sx"
  refine x_veI ?_
  walk_at "sx"
  refine x_jcons ?_
  walk_at "sx"
  refine ⟨_, rfl, by decide +kernel, ?_⟩
  refine x_jcons (x_fmt ?_)
  walk_at "sx"
  have hl := natStr_len (n := n) (by omega)
  refine .inr ⟨n, rfl, Nat.lt_trans (log_of (a := 200) (by omega) (by decide)) (by decide), ?_⟩
  refine ⟨_, rfl, sz ?_, ?_⟩
  · rw [str_append_len]
    have h0 : (Str.empty ++ ("line " : Str)).length = 5 := by decide +kernel
    rw [h0]
    show 5 + (Str.ofString (toString ((n : Nat) : Int))).length ≤ _
    omega
  refine x_jcons ?_
  walk_at "sx"
  refine ⟨_, rfl, sz ?_, ?_⟩
  · rw [str_append_len, str_append_len]
    have h0 : (Str.empty ++ ("line " : Str)).length = 5 := by decide +kernel
    have h1 : (": no reading of the shape that is asked for" : Str).length = 43 := by decide +kernel
    rw [h0, h1]
    show 5 + (Str.ofString (toString ((n : Nat) : Int))).length + 43 ≤ _
    omega
  refine x_jnil ?_
  walk_at "sx"
  refine ⟨a, C, _, rfl, (by show 1 ≤ 1000; decide), hC, ha, ?_⟩
  refine x_ost ?_
  walk_at "sx"
  refine ⟨a, C, rfl, hC, nf, .inl ⟨ha, fun dx h1 h2 => ?_⟩⟩
  exact q dx h1 h2
theorem ok_initH_BadSize (F : Fun K "__init__" "BadSize.__init__" s_BadSize f fd) (TB : BaseC K mg B) (hC : OexC K C) (nf : PySem.W.findIn K (.ref C) "line" = some none) : L2H.FnH P w K mg base CX0 1 f fd ["self", "line"] (spErr1 K C "line") := by
  refine F.okH sc_BadSize (fun vs H Q E h => ?_) (fun cdv A outer s H vs Q E pz hot hr h => ?_)
  · obtain ⟨a, n, rfl, _⟩ := h
    rfl
  obtain ⟨a, n, rfl, hn, ha, q⟩ := h
  refine ⟨_, (pss_cons (ps_expr (pe_cinit rfl TB.mB TB.sp TB.rd TB.fc (pa_cons (pv 0) (pa_cons (pe_joined (PJ.cons pe_str (PJ.cons (pe_fmt (pv 1)) (PJ.cons pe_str PJ.nil)))) pa_nil))))
    (pss_one (ps_ost (pv 0) (pv 1)))), ?_⟩
  walk_at "sx"
  refine x_veI ?_
  walk_at "sx"
  refine x_jcons ?_
  walk_at "sx"
  refine ⟨_, rfl, by decide +kernel, ?_⟩
  refine x_jcons (x_fmt ?_)
  walk_at "sx"
  have hl := natStr_len (n := n) (by omega)
  refine .inr ⟨n, rfl, Nat.lt_trans (log_of (a := 200) (by omega) (by decide)) (by decide), ?_⟩
  refine ⟨_, rfl, sz ?_, ?_⟩
  · rw [str_append_len]
    have h0 : (Str.empty ++ ("line " : Str)).length = 5 := by decide +kernel
    rw [h0]
    show 5 + (Str.ofString (toString ((n : Nat) : Int))).length ≤ _
    omega
  refine x_jcons ?_
  walk_at "sx"
  refine ⟨_, rfl, sz ?_, ?_⟩
  · rw [str_append_len, str_append_len]
    have h0 : (Str.empty ++ ("line " : Str)).length = 5 := by decide +kernel
    have h1 : (": too many pieces or brackets, or too big or deep" : Str).length = 49 := by decide +kernel
    rw [h0, h1]
    show 5 + (Str.ofString (toString ((n : Nat) : Int))).length + 49 ≤ _
    omega
  refine x_jnil ?_
  walk_at "sx"
  refine ⟨a, C, _, rfl, (by show 1 ≤ 1000; decide), hC, ha, ?_⟩
  refine x_ost ?_
  walk_at "sx"
  refine ⟨a, C, rfl, hC, nf, .inl ⟨ha, fun dx h1 h2 => ?_⟩⟩
  exact q dx h1 h2
end
end Gs
namespace Gs
open PySem PySem.Spec PyProof.Rows L2 TL
abbrev s_is_word : Stmt := PySem.Challenge.pw_goalstead_k21_sizes_as_read.main.body.getD 26 (.Pass ⟨0, 0, 0, 0⟩)
theorem sc_is_word : FnScope ["part"] ["part"] (defScope s_is_word) := ⟨rfl, rfl, rfl, by decide +kernel, rfl, by decide +kernel, by decide +kernel⟩
/-! ### methods that may raise -/
/-- a method of the class at C that may raise -/
structure MetE (P : Program) (w : World) (K : PySem.W.Frag) (mg : Str → Option Value) (base : Heap) (k : Nat) (C : Addr) (m : Str) (sp : Sp) : Prop where
  ex : ∃ (f : Addr) (fd : FuncData) (ps : List Str), Cls K C ∧ Meth K C m f ∧ FnOk P w K mg base (L2N.CX P w) k f fd ps sp ∧ Binds K fd ps []
section
variable {X : Cx} {k j : Nat} {C : Addr} {m : Str} {sp : Sp} {E : XK} {pos apos : Pos} {e o : PySem.Expr} {es : List PySem.Expr} {ta : TE} {t : TA}
theorem pe_mtE {pl : Sem Bool} (c : MetE X.prog X.w X.K X.mg X.base k C m sp) (hr : Room j X.A) (hk : k ≤ j) (tk : L2N.Takes X (fun cls d _ H => E cls d H)) (he : PE X o ta) (ha : PA X (e :: es) t)
    (hst : starEach (e :: es) X.env = (false, eval e X.env) :: starEach es X.env := by rfl) (hpl : (backTo pos (starEach es X.env)).any (·.1) = false := by rfl)
    (ht : eval (.Call (.Attribute o m apos) (e :: es) [] pos) X.env = (do
      let ov ← eval o X.env
      standAt apos.atName
      let (f, first) ← holding [ov] (getMethod ov m pl)
      callWith pos f first (backTo pos (starEach (e :: es) X.env)) (backToKw pos (keywordEach [] X.env))) := by rfl) :
    PE X (.Call (.Attribute o m apos) (e :: es) [] pos) (tMeth C m sp [] E ta t) := by
  obtain ⟨f, fd, ps, hc, hm, F, b⟩ := c.ex
  exact pe_meth (pl := pl) he hc hm F (hr.mono hk) b .nil (L2N.passes_call tk fun _ _ _ _ h => h) ha hst hpl ht
theorem pe_mt0E {pl : Sem Bool} (c : MetE X.prog X.w X.K X.mg X.base k C m sp) (hr : Room j X.A) (hk : k ≤ j) (tk : L2N.Takes X (fun cls d _ H => E cls d H)) (he : PE X o ta)
    (ht : eval (.Call (.Attribute o m apos) [] [] pos) X.env = (do
      let ov ← eval o X.env
      standAt apos.atName
      let (f, first) ← holding [ov] (getMethod ov m pl)
      callWith pos f first (backTo pos (starEach [] X.env)) (backToKw pos (keywordEach [] X.env))) := by rfl) :
    PE X (.Call (.Attribute o m apos) [] [] pos) (tMeth C m sp [] E ta tNil) := by
  obtain ⟨f, fd, ps, hc, hm, F, b⟩ := c.ex
  exact pe_meth0 (pl := pl) he hc hm F (hr.mono hk) b .nil (L2N.passes_call tk fun _ _ _ _ h => h) ht
end
structure TabOk (R : List Op) : Prop where
  lv : LvOk R
  sd : SideOk R
  br : ∀ z ∈ ([("(" : Str), (")" : Str), ("," : Str)] : List Str), rowOf R z 1 = none ∧ rowOf R z 2 = none
/-- what is refused, where a reading stands at r -/
def BadR (BS r : Addr) (H : Hp) (E : XK) : Prop := ∀ dd H', Kr r H H' → H' dd = some (.xd [("line", .int 0)]) → E (.ref BS) (some dd) H'
theorem BadR.kr {BS r : Addr} {H G : Hp} {E : XK} (b : BadR BS r H E) (k : Kr r H G) : BadR BS r G E := fun dd H' k' h => b dd H' (k.trans k') h
theorem BadR.same {BS r : Addr} {H G : Hp} {E : XK} (b : BadR BS r H E) (k : Same H G) : BadR BS r G E := b.kr (.of k)
theorem BadR.done {BS r : Addr} {H : Hp} {E : XK} (b : BadR BS r H E) {dd : Addr} (h : H dd = none) : E (.ref BS) (some dd) (upd H dd (.xd [("line", .int ((0 : Nat) : Int))])) := b dd _ (.of (same_upd h)) upd_same
theorem PtsAt.allG {K : PySem.W.Frag} {H : Hp} {k : Nat} {vs : List V} {ps : List Pt} (r : PtsAt K H k vs ps) {j : Nat} (h : dpL ps ≤ j) : PtsAt K H j vs ps :=
  ⟨r.1, fun i y u h1 h2 => (r.2 i y u h1 h2).of_depth (Nat.le_trans (dpL_mem (List.mem_of_getElem? h2)) h)⟩
def spTakeE (K : PySem.W.Frag) (D C BS : Addr) : Sp := fun vs H Q E => ∃ (r pl : Addr) (zs : List Str) (R : List Op) (n : Nat), vs = [.ref r] ∧ RdAt K D C H r pl zs R n ∧ zs.length ≤ 1000 ∧ n ≤ zs.length ∧ (zs[n]? = none → BadR BS r H E) ∧ ∀ z, zs[n]? = some z → ∀ H', RdAt K D C H' r pl zs R (n + 1) → Kr r H H' → Q (.str z) H'
def spPartE (K : PySem.W.Frag) (D C BS : Addr) (d : Nat) : Sp := fun vs H Q E => ∃ (r pl : Addr) (zs : List Str) (R : List Op) (n : Nat) (most : Int) (res : Option (Pt × Int × Nat)), vs = [.ref r, .int most] ∧ RdAt K D C H r pl zs R n ∧ zs.length ≤ 1000 ∧ TabOk R ∧ n ≤ zs.length ∧ RP R zs d most n res ∧ (res = none → BadR BS r H E) ∧
  ∀ p lev n1, res = some (p, lev, n1) → ∀ t x H', n ≤ n1 → n1 ≤ zs.length → RdAt K D C H' r pl zs R n1 → Kr r H H' → SqT K H' t [x, .int lev] → PtAt K H' (dpT p) x p → Q (.ref t) H'
def spFirstE (K : PySem.W.Frag) (D C BS : Addr) (d : Nat) : Sp := fun vs H Q E => ∃ (r pl : Addr) (zs : List Str) (R : List Op) (n : Nat) (most : Int) (res : Option (Pt × Int × Nat)), vs = [.ref r, .int most] ∧ RdAt K D C H r pl zs R n ∧ zs.length ≤ 1000 ∧ TabOk R ∧ n ≤ zs.length ∧ RF R zs d most n res ∧ (res = none → BadR BS r H E) ∧
  ∀ p lev n1, res = some (p, lev, n1) → ∀ t x H', n ≤ n1 → n1 ≤ zs.length → RdAt K D C H' r pl zs R n1 → Kr r H H' → SqT K H' t [x, .int lev] → PtAt K H' (dpT p) x p → Q (.ref t) H'
def spPlainE (K : PySem.W.Frag) (D C BS : Addr) (d : Nat) : Sp := fun vs H Q E => ∃ (r pl : Addr) (z : Str) (zs : List Str) (R : List Op) (n : Nat) (res : Option (Pt × Nat)), vs = [.ref r, .str z] ∧ RdAt K D C H r pl zs R n ∧ zs.length ≤ 1000 ∧ TabOk R ∧ n ≤ zs.length ∧ RW R zs d z n res ∧ rowOf R z 1 = none ∧ (res = none → BadR BS r H E) ∧
  ∀ p n1, res = some (p, n1) → ∀ x H', n ≤ n1 → n1 ≤ zs.length → RdAt K D C H' r pl zs R n1 → Kr r H H' → PtAt K H' (dpT p) x p → Q x H'
def spBrE (K : PySem.W.Frag) (D C BS : Addr) (d : Nat) : Sp := fun vs H Q E => ∃ (r pl : Addr) (zs : List Str) (R : List Op) (n : Nat) (res : Option (List Pt × Nat)), vs = [.ref r] ∧ RdAt K D C H r pl zs R n ∧ zs.length ≤ 1000 ∧ TabOk R ∧ zs[n]? = some ("(" : Str) ∧ RB R zs d 0 (n + 1) res ∧ (res = none → BadR BS r H E) ∧
  ∀ ps n1, res = some (ps, n1) → ∀ a vs H', n ≤ n1 → n1 ≤ zs.length → H a = none → H' a = some (.lst vs) → RdAt K D C H' r pl zs R n1 → Kr r H H' → PtsAt K H' (dpL ps) vs ps → Q (.ref a) H'
def spIsWord (K : PySem.W.Frag) : Sp := fun vs H Q _ => ∃ (z : Str) (c : Nat) (t : List Nat), vs = [.str z] ∧ tl z = c :: t ∧ z.length ≤ 1000 ∧ Q (.bl (decide (c ∈ sS))) H
theorem ne_br {z : Str} {c : Nat} {t : List Nat} (e : tl z = c :: t) (h : c ≠ 40) : z ≠ ("(" : Str) := fun y => by
  rw [y, tl_op] at e
  exact h (List.cons.inj e).1.symm
section
variable {P : Program} {w : World} {K : PySem.W.Frag} {mg : Str → Option Value} {base : Heap} {f C D BS : Addr} {fd : FuncData}
def HasTakeE (D C BS : Addr) (P : Program) (w : World) (K : PySem.W.Frag) (mg : Str → Option Value) (base : Heap) : Prop := MetE P w K mg base 3 D "take" (spTakeE K D C BS)
def HasPartE (D C BS : Addr) (d : Nat) (P : Program) (w : World) (K : PySem.W.Frag) (mg : Str → Option Value) (base : Heap) : Prop := MetE P w K mg base (4 * d + 4) D "part" (spPartE K D C BS d)
def HasBrE (D C BS : Addr) (d : Nat) (P : Program) (w : World) (K : PySem.W.Frag) (mg : Str → Option Value) (base : Heap) : Prop := MetE P w K mg base (4 * d + 5) D "parts_in_brackets" (spBrE K D C BS d)
def HasPlainE (D C BS : Addr) (d : Nat) (P : Program) (w : World) (K : PySem.W.Frag) (mg : Str → Option Value) (base : Heap) : Prop := MetE P w K mg base (4 * d + 6) D "plain_part" (spPlainE K D C BS d)
def HasFirstE (D C BS : Addr) (d : Nat) (P : Program) (w : World) (K : PySem.W.Frag) (mg : Str → Option Value) (base : Heap) : Prop := MetE P w K mg base (4 * d + 7) D "first_part" (spFirstE K D C BS d)
def HasIsWord (P : Program) (w : World) (K : PySem.W.Frag) (mg : Str → Option Value) (base : Heap) : Prop := Has P w K mg base 1 "is_word" ["part"] (spIsWord K)
theorem ok_is_word (F : Fun K "is_word" "is_word" s_is_word f fd) (T : Txt mg) : FnOk P w K mg base CX0 1 f fd ["part"] (spIsWord K) := by
  refine F.ok sc_is_word (fun vs H Q E h => ?_) (fun cdv A outer s H vs Q E hr h => ?_)
  · obtain ⟨z, c, t, rfl, _⟩ := h
    rfl
  obtain ⟨z, c, t, rfl, et, hz, q⟩ := h
  refine ⟨_, (pss_one (ps_ret (pe_and (pe_callB (call_isiKK (K := K)) (by rfl) T.z_isinstance (by decide +kernel) (pa_cons (pv 0) (pa_cons (pe_bltn (v := .ty "str") (by rfl) T.z_str (by decide +kernel) rfl) pa_nil))) (pe_one (pe_cmpR op_in_sign (pe_ix ix_str (pv 0) pe_int (fun _ _ => rfl)) (pe_globS rfl T.c_SMALLS) (by rfl)))))), ?_⟩
  walk_at "sx"
  refine x_isT (t := .type "str") (c := true) (.base (.str z)) (kit_ty (by decide +kernel)) ?_
  walk_at "sx"
  refine x_ixS (sz (by omega)) (at0 (show (tl z)[0]? = some c by rw [et]; rfl)) ?_
  walk_at "sx"
  have e : ("abcdefghijklmnopqrstuvwxyz" : Str).cps.toList = sS := tl_S
  rw [e]
  exact q
theorem ok_takeE (F : Fun K "take" "Reading.take" s_Reading_take f fd) (T : Txt mg) (RC : ReC K D) (hne : C ≠ D) (E_BadShape : HasErr P w K mg base "BadShape" "line" BS) : FnOk P w K mg base (L2N.CX P w) 3 f fd ["self"] (spTakeE K D C BS) := by
  refine F.okN sc_Reading_take (fun vs H Q E h => ?_) (fun cdv A outer s H vs Q E hr h => ?_)
  · obtain ⟨r, pl, zs, R, n, rfl, _⟩ := h
    rfl
  obtain ⟨r, pl, zs, R, n, rfl, rd, hl, hle, bad, q⟩ := h
  obtain ⟨dx, tb, h1, h2, h3⟩ := rd
  refine ⟨_, (pss_cons (ps_if (pt_cmpR op_eq (pe_fld (pv 0) rfl) (pe_callB (call_lenK (K := K)) (by rfl) T.z_len (by decide +kernel) (pa_cons (pe_fld (pv 0) rfl) pa_nil)) (nomark _))
      (pss_one (ps_raiseEN E_BadShape rfl (L2N.takes_of rfl rfl rfl rfl) hr (pa_cons pe_int pa_nil) (hk := by omega)))
      pss_nil)
    (pss_cons (ps_fldaug (pv 0) pe_int in_add)
    (pss_one (ps_ret (pe_ix (ix_listK (K := K)) (pe_fld (pv 0) rfl) (pe_op op_sub (pe_fld (pv 0) rfl) pe_int) (fun _ _ => rfl)))))), ?_⟩
  walk_at "sx"
  refine x_fR RC.cl RC.nA rfl h1 (fr_at pl tb n) ?_
  walk_at "sx"
  refine x_fR RC.cl RC.nP rfl h1 (fr_pl pl tb n) ?_
  walk_at "sx"
  refine x_ite (fun z => ?_) (fun z => ?_)
  · have := V.int.inj z
    rw [List.length_map] at this
    have e : zs[n]? = none := List.getElem?_eq_none (by omega)
    walk_at "sx"
    exact x_mkE (n := 0) (by decide) fun dd hd => (bad e).done hd
  have hn : n < zs.length := by
    rcases Nat.lt_or_ge n zs.length with h | h
    · exact h
    · exact absurd (congrArg V.int (show (n : Int) = ((zs.map V.str).length : Int) by rw [List.length_map]; omega)) z
  obtain ⟨z, hz⟩ : ∃ z, zs[n]? = some z := ⟨_, List.getElem?_eq_getElem hn⟩
  walk_at "sx"
  refine ⟨.ref r, rfl, r, D, dx, _, _, rfl, h1, RC.cl, RC.nA, fr_at pl tb n, ?_⟩
  walk_at "sx"
  refine ⟨_, _, rfl, rfl, dx, _, h1, by rw [fr_eq]; show 3 < 1000; decide, ?_⟩
  rw [fr_put]
  have npl : pl ≠ r := ne_of h2 h1 (by intro z; cases z)
  have e2 : upd H r (.ins D dx (fldsR pl tb ((n : Int) + 1))) pl = some (.lst (zs.map V.str)) := by rw [upd_ne npl]; exact h2
  have kr : Kr r H (upd H r (.ins D dx (fldsR pl tb ((n : Int) + 1)))) := fun c o e hc => by rw [upd_ne hc]; exact e
  have tb2 : TabAt K C (upd H r (.ins D dx (fldsR pl tb ((n : Int) + 1)))) tb R := by
    obtain ⟨dx2, b, h, kb, ka, g1, g2, g3, g4⟩ := h3
    have n1 : tb ≠ r := fun z => by
      rw [z, h1] at g1
      have := HO.ins.inj (Option.some.inj g1)
      exact hne this.1.symm
    exact ⟨dx2, b, h, kb, ka, kr _ _ g1 n1, kr _ _ g2 (ne_of g2 h1 (by intro z; cases z)), kr _ _ g3 (ne_of g3 h1 (by intro z; cases z)), g4.mono fun _ _ z => kr.sqT h1 z⟩
  have e1 : upd H r (.ins D dx (fldsR pl tb ((n : Int) + 1))) r = some (.ins D dx (fldsR pl tb ((n : Int) + 1))) := upd_same
  have qq := q z hz _ ⟨dx, tb, e1, e2, tb2⟩ kr
  generalize upd H r (.ins D dx (fldsR pl tb ((n : Int) + 1))) = G at *
  walk_at "sx"
  refine x_fR RC.cl RC.nP rfl e1 (fr_pl pl tb _) ?_
  walk_at "sx"
  refine x_fR RC.cl RC.nA rfl e1 (fr_at pl tb _) ?_
  walk_at "sx"
  rw [show (n : Int) + 1 - 1 = (n : Int) by omega]
  exact x_ixL (.of e2) (atI_nat (by rw [List.getElem?_map, hz]; rfl)) qq
theorem ok_plainE {d : Nat} (F : Fun K "plain_part" "Reading.plain_part" s_Reading_plain_part f fd) (T : Txt mg) (RC : ReC K D) (TC : TabC K C) (E_BadShape : HasErr P w K mg base "BadShape" "line" BS) (C_is_unknown : HasUnknown P w K mg base) (C_is_word : HasIsWord P w K mg base) (C_is_kept : HasIsKept P w K mg base) (M_OperatorTable_has : HasHas C P w K mg base) (M_Reading_is_next : HasNextR D C P w K mg base) (M_Reading_parts_in_brackets : HasBrE D C BS d P w K mg base) : FnOk P w K mg base (L2N.CX P w) (4 * d + 6) f fd ["self", "piece"] (spPlainE K D C BS d) := by
  refine F.okN sc_Reading_plain_part (fun vs H Q E h => ?_) (fun cdv A outer s H vs Q E hr h => ?_)
  · obtain ⟨r, pl, z, zs, R, n, res, rfl, _⟩ := h
    rfl
  obtain ⟨r, pl, z, zs, R, n, res, rfl, rd, hl, tok, hn, hp, er1, bad, q⟩ := h
  have rd0 := rd
  obtain ⟨dx, tb, h1, h2, h3⟩ := rd
  have tb0 := h3
  obtain ⟨dx2, b, h, kb, ka, g1, g2, g3, g4⟩ := h3
  have eD : ("0123456789" : Str).cps.toList = sD := tl_D
  have e126 : (⟨#[126]⟩ : Str) = ("~" : Str) := by decide +kernel
  have ne126 : ∀ c : Nat, c ≠ 126 → ¬ V.str ⟨#[c]⟩ = V.str ("~" : Str) := fun c hc z => by
    have := V.str.inj z
    rw [← e126] at this
    injection this with this
    injection this with this
    injection this with this
    exact hc this
  refine ⟨_, (pss_cons (ps_if (pt_cmpR op_in_sign (pe_ix ix_str (pv 1) pe_int (fun _ _ => rfl)) (pe_globS rfl T.c_DIGITS) (by rfl))
      (pss_one (ps_ret (pe_callTy call_int_str (by rfl) T.z_int (by decide +kernel) (pa_cons (pv 1) pa_nil))))
      pss_nil)
    (pss_cons (ps_if (pt_cmpR op_eq (pe_ix ix_str (pv 1) pe_int (fun _ _ => rfl)) pe_str (nomark _))
      (pss_one (ps_ret (pe_un un_neg (pe_callTy call_int_str (by rfl) T.z_int (by decide +kernel) (pa_cons (pe_slice sl_str (pv 1) (po_some pe_int) po_none) pa_nil)))))
      pss_nil)
    (pss_cons (ps_if (pt_val (pe_callH C_is_unknown hr (pa_cons (pv 1) pa_nil) (hk := by omega)))
      (pss_one (ps_ret (pv 1)))
      pss_nil)
    (pss_cons (ps_if (PW.pt (pw_or (pt_not (pt_val (pe_callH C_is_word hr (pa_cons (pv 1) pa_nil) (hk := by omega)))) (pw_or (pt_val (pe_callH C_is_kept hr (pa_cons (pv 1) pa_nil) (hk := by omega))) (pw_or1 (pt_val (C8.pe_mt M_OperatorTable_has hr (by omega) (pe_fld (pv 0) rfl) (pa_cons (pv 1) pa_nil)))))))
      (pss_one (ps_raiseEN E_BadShape rfl (L2N.takes_of rfl rfl rfl rfl) hr (pa_cons pe_int pa_nil) (hk := by omega)))
      pss_nil)
    (pss_cons (ps_if (pt_val (C8.pe_mt M_Reading_is_next hr (by omega) (pv 0) (pa_cons (pe_tup (pa_cons pe_str pa_nil)) pa_nil)))
      (pss_cons (ps_set (i := 2) sc_Reading_plain_part.nd rfl (Or.inl rfl) (pe_mt0E M_Reading_parts_in_brackets hr (by omega) (L2N.takes_of rfl rfl rfl rfl) (pv 0)))
    (pss_one (ps_ret (pe_tup (pa_cons (pv 1) (pa_starK (K := K) (pv 2) pa_nil))))))
      pss_nil)
    (pss_one (ps_ret (pv 1)))))))), ?_⟩
  walk_at "sx"
  have word : Wd R z → (zs[n]? ≠ some ("(" : Str) ∧ res = some (.s z, n) ∨ zs[n]? = some ("(" : Str) ∧ ∃ r2, RB R zs d 0 (n + 1) r2 ∧ res = r2.map fun q => (.t z q.1, q.2)) → hp = hp → True := fun _ _ _ => trivial
  obtain ⟨m, ⟨em, bm, _⟩, rfl⟩ | ⟨⟨⟨c, t, et, hc⟩, _, lz12⟩, rfl⟩ | ⟨⟨c, t, et, n1, n2, n3, hb, lz12⟩, rfl⟩ | ⟨⟨⟨c, t, et, hc⟩, nk, n1, n2, lz12⟩, hw2⟩ : (∃ m, Num R m z ∧ res = some (.i m, n)) ∨ (Unk R z ∧ res = some (.s z, n)) ∨ (PlBad R z ∧ res = none) ∨ (Wd R z ∧ (zs[n]? ≠ some ("(" : Str) ∧ res = some (.s z, n) ∨ zs[n]? = some ("(" : Str) ∧ ∃ r2, RB R zs d 0 (n + 1) r2 ∧ res = r2.map fun q => (.t z q.1, q.2))) := by
    cases hp with
    | num h => exact .inl ⟨_, h, rfl⟩
    | unk h => exact .inr (.inl ⟨h, rfl⟩)
    | bad h => exact .inr (.inr (.inl ⟨h, rfl⟩))
    | word h h2 => exact .inr (.inr (.inr ⟨h, .inl ⟨h2, rfl⟩⟩))
    | compB h h2 h3 => exact .inr (.inr (.inr ⟨h, .inr ⟨h2, _, h3, rfl⟩⟩))
    | comp h h2 h3 => exact .inr (.inr (.inr ⟨h, .inr ⟨h2, _, h3, rfl⟩⟩))
  · by_cases hm : m < 0
    · rw [figT, if_pos hm] at em
      have lz : z.length ≤ 61 := by
        have := congrArg List.length em
        rw [tl_lenP, List.length_cons] at this
        have := numL_len (k := 60) (n := (0 - m).toNat) (by decide) (by omega)
        omega
      refine x_ixS (sz (by omega)) (at0 (show (tl z)[0]? = some 126 by rw [em]; rfl)) ?_
      walk_at "sx"
      refine x_ixS (sz (by omega)) (at0 (show (tl z)[0]? = some 126 by rw [em]; rfl)) ?_
      walk_at "sx"
      refine x_slS (sz (by omega)) ?_
      walk_at "sx"
      have ec : cutS z (some 1) none = Str.ofString (toString (((0 - m).toNat : Nat) : Int)) := by
        refine tl_injP ?_
        rw [tl_num]
        show ((tl z).drop (HT.sIx z.length 0 (some ((1 : Nat) : Int)))).take (HT.sIx z.length z.length none - HT.sIx z.length 0 (some ((1 : Nat) : Int))) = _
        have l1 : 1 ≤ z.length := by rw [← tl_lenP, em]; simp
        rw [HT.sIx_nat, HT.sIx_none, Nat.min_eq_left l1, em, List.drop_succ_cons, List.drop_zero]
        refine List.take_of_length_le ?_
        rw [← tl_lenP, em, List.length_cons]
        omega
      have h60 := numL_len (k := 60) (n := (0 - m).toNat) (by decide) (by omega)
      refine ⟨_, _, rfl, by rw [ec]; exact int_num (by omega), ?_, ?_⟩
      · rw [ec, ← tl_lenP, tl_num]
        omega
      · walk_at "sx"
        rw [show -(((0 - m).toNat : Nat) : Int) = m by omega]
        exact q _ _ rfl _ _ (Nat.le_refl _) hn rd0 (.refl _) rfl
    · rw [figT, if_neg hm] at em
      obtain ⟨c, t, ec⟩ : ∃ c t, numL m.toNat = c :: t := by
        cases e : numL m.toNat with
        | nil => exact absurd e (numL_ne _)
        | cons c t => exact ⟨c, t, rfl⟩
      have cD : c ∈ sD := numL_D m.toNat c (by rw [ec]; exact List.mem_cons_self ..)
      have h60 := numL_len (k := 60) (n := m.toNat) (by decide) (by omega)
      have lz : z.length ≤ 60 := by
        rw [← tl_lenP, em]
        exact h60
      refine x_ixS (sz (by omega)) (at0 (show (tl z)[0]? = some c by rw [em, ec]; rfl)) ?_
      walk_at "sx"
      rw [eD, decide_eq_true cD]
      walk_at "sx"
      have ez : z = Str.ofString (toString ((m.toNat : Nat) : Int)) := tl_injP (by rw [em, tl_num])
      refine ⟨_, _, rfl, by rw [ez]; exact int_num (by omega), by omega, ?_⟩
      rw [show ((m.toNat : Nat) : Int) = m by omega]
      exact q _ _ rfl _ _ (Nat.le_refl _) hn rd0 (.refl _) rfl
  · have hc' := sC_iff.mp hc
    have lz : z.length ≤ 1000 := by omega
    refine x_ixS (sz (by omega)) (at0 (show (tl z)[0]? = some c by rw [et]; rfl)) ?_
    walk_at "sx"
    rw [eD, decide_eq_false (show ¬ c ∈ sD by rw [sD_iff]; omega)]
    walk_at "sx"
    refine x_ixS (sz (by omega)) (at0 (show (tl z)[0]? = some c by rw [et]; rfl)) ?_
    walk_at "sx"
    refine x_ite (fun c' => absurd c' (ne126 c (by omega))) (fun _ => ?_)
    walk_at "sx"
    refine ⟨_, 1, .s z, rfl, rfl, (fun y e => by cases e; exact ⟨c, t, et, lz⟩), ?_⟩
    rw [show unk (.s z) = true from by show unkS z = true; unfold unkS; rw [et]; exact decide_eq_true hc]
    walk_at "sx"
    exact q _ _ rfl _ _ (Nat.le_refl _) hn rd0 (.refl _) rfl
  · have lz : z.length ≤ 1000 := by omega
    have bad' := bad rfl
    refine x_ixS (sz (by omega)) (at0 (show (tl z)[0]? = some c by rw [et]; rfl)) ?_
    walk_at "sx"
    rw [eD, decide_eq_false n1]
    walk_at "sx"
    refine x_ixS (sz (by omega)) (at0 (show (tl z)[0]? = some c by rw [et]; rfl)) ?_
    walk_at "sx"
    refine x_ite (fun c' => absurd c' (ne126 c n2)) (fun _ => ?_)
    walk_at "sx"
    refine ⟨_, 1, .s z, rfl, rfl, (fun y e => by cases e; exact ⟨c, t, et, lz⟩), ?_⟩
    rw [show unk (.s z) = false from by show unkS z = false; unfold unkS; rw [et]; exact decide_eq_false n3]
    walk_at "sx"
    refine ⟨z, c, t, rfl, et, lz, ?_⟩
    by_cases cs : c ∈ sS
    · rw [decide_eq_true cs]
      walk_at "sx"
      refine ⟨z, rfl, ?_⟩
      by_cases ck : z ∈ keptL
      · rw [decide_eq_true ck]
        walk_at "sx"
        exact x_mkE (n := 0) (by decide) fun dd hd => bad'.done hd
      · rw [decide_eq_false ck]
        walk_at "sx"
        refine x_mtT g1 (flds_no b h (by decide +kernel) (by decide +kernel)) ?_ (fun Q' q' => x_fR RC.cl RC.nT rfl h1 (fr_tb pl tb n) q')
        walk_at "sx"
        refine ⟨tb, R, z, rfl, tb0, ?_⟩
        have r2 : rowOf R z 2 ≠ none := (hb.resolve_left (fun h => h cs)).resolve_left ck
        rw [Option.isSome_iff_ne_none.mpr r2]
        walk_at "sx"
        exact x_mkE (n := 0) (by decide) fun dd hd => bad'.done hd
    · rw [decide_eq_false cs]
      walk_at "sx"
      exact x_mkE (n := 0) (by decide) fun dd hd => bad'.done hd
  · have hc' := sS_iff.mp hc
    have lz : z.length ≤ 1000 := by omega
    refine x_ixS (sz (by omega)) (at0 (show (tl z)[0]? = some c by rw [et]; rfl)) ?_
    walk_at "sx"
    rw [eD, decide_eq_false (show ¬ c ∈ sD by rw [sD_iff]; omega)]
    walk_at "sx"
    refine x_ixS (sz (by omega)) (at0 (show (tl z)[0]? = some c by rw [et]; rfl)) ?_
    walk_at "sx"
    refine x_ite (fun c' => absurd c' (ne126 c (by omega))) (fun _ => ?_)
    walk_at "sx"
    refine ⟨_, 1, .s z, rfl, rfl, (fun y e => by cases e; exact ⟨c, t, et, lz⟩), ?_⟩
    rw [show unk (.s z) = false from by show unkS z = false; unfold unkS; rw [et]; exact decide_eq_false (by rw [sC_iff]; omega)]
    walk_at "sx"
    refine ⟨z, c, t, rfl, et, lz, ?_⟩
    rw [decide_eq_true hc]
    walk_at "sx"
    refine ⟨z, rfl, ?_⟩
    rw [decide_eq_false nk]
    walk_at "sx"
    refine x_mtT g1 (flds_no b h (by decide +kernel) (by decide +kernel)) ?_ (fun Q' q' => x_fR RC.cl RC.nT rfl h1 (fr_tb pl tb n) q')
    walk_at "sx"
    refine ⟨tb, R, z, rfl, tb0, ?_⟩
    rw [n1, n2]
    walk_at "sx"
    refine x_mt rfl h1 (fr_no pl tb n (by decide +kernel) (by decide +kernel) (by decide +kernel)) ?_
    walk_at "sx"
    rename_i t1 nt1
    have s1 := same_upd (o := .tup [.str ("(" : Str)]) nt1
    refine ⟨r, pl, zs, R, n, t1, rfl, rd0.same s1, hl, hn, .inr ⟨.of upd_same, ?_⟩⟩
    rcases hw2 with ⟨hne, rfl⟩ | ⟨hbr, r2, hr2, rfl⟩
    · rw [decide_eq_false hne]
      walk_at "sx"
      exact q _ _ rfl _ _ (Nat.le_refl _) hn (rd0.same s1) (.of s1) rfl
    · rw [decide_eq_true hbr]
      have rd1 := rd0.same s1
      have h11 := s1 _ _ h1
      walk_at "sx"
      refine x_mt rfl h11 (fr_no pl tb n (by decide +kernel) (by decide +kernel) (by decide +kernel)) ?_
      walk_at "sx"
      refine ⟨r, pl, zs, R, n, r2, rfl, rd1, hl, tok, hbr, hr2, fun e => (bad (by rw [e]; rfl)).same s1, fun ps n1 e a vs H' hge hle na ea rd2 kr2 pv => ?_⟩
      subst e
      walk_at "sx"
      refine ⟨a, vs, rfl, .inr (.of ea), ?_⟩
      walk_at "sx"
      have lv := pv.1
      obtain ⟨_, _, _, _, l4⟩ := RB.sound tok.lv hr2 _ _ rfl
      refine ⟨sz (by simp; omega), fun t nt => ?_⟩
      have s3 := same_upd (o := .tup (.str z :: (vs ++ []))) nt
      have st : SqT K (upd H' t (.tup (.str z :: (vs ++ [])))) t (.str z :: vs) := .of (by rw [upd_same, List.append_nil])
      refine q _ _ rfl _ _ hge hle (rd2.same s3) ((Kr.of s1).trans (kr2.trans (.of s3))) ?_
      rw [dpT, Nat.add_comm]
      exact PtAt.tup st (pv.same s3)
/-- where the reading of parts in brackets stands -/
def BrWE (K : PySem.W.Frag) (D C r a pl : Addr) (zs : List Str) (R : List Op) (n d : Nat) (res : Option (List Pt × Nat)) (H : Hp) (k : Nat) (σ' : L2.St) (G : Hp) : Prop := ∃ (psd : List Pt) (vs : List V) (e : Str) (x3 x4 : Option V) (n' : Nat), σ' = [some (.ref r), some (.ref a), some (.str e), x3, x4] ∧ G a = some (.lst vs) ∧ PtsAt K G (dpL psd) vs psd ∧ RdAt K D C G r pl zs R n' ∧ Kr r H G ∧ n ≤ n' ∧ n' ≤ zs.length ∧ psd.length ≤ 4 ∧
    ((e = (")" : Str) ∧ res = some (psd, n') ∧ k = 0) ∨ (e ≠ (")" : Str) ∧ k = zs.length - n' + 1 ∧ ∃ r2, RB R zs d psd.length n' r2 ∧ (r2 = none → res = none) ∧ ∀ ps2 n2, r2 = some (ps2, n2) → res = some (psd ++ ps2, n2)))
theorem ok_brE {d : Nat} (F : Fun K "parts_in_brackets" "Reading.parts_in_brackets" s_Reading_parts_in_brackets f fd) (T : Txt mg) (RC : ReC K D) (E_BadShape : HasErr P w K mg base "BadShape" "line" BS) (M_Reading_take : HasTakeE D C BS P w K mg base) (M_Reading_part : HasPartE D C BS d P w K mg base) : FnOk P w K mg base (L2N.CX P w) (4 * d + 5) f fd ["self"] (spBrE K D C BS d) := by
  refine F.okN sc_Reading_parts_in_brackets (fun vs H Q E h => ?_) (fun cdv A outer s H vs Q E hr h => ?_)
  · obtain ⟨r, pl, zs, R, n, res, rfl, _⟩ := h
    rfl
  obtain ⟨r, pl, zs, R, n, res, rfl, rd, hl, tok, hbr, hb, bad, q⟩ := h
  obtain ⟨dx, tb, h1, h2, h3⟩ := id rd
  have hnl := lt_of_at hbr
  refine ⟨_, (pss_cons (ps_set (i := 1) sc_Reading_parts_in_brackets.nd rfl (Or.inl rfl) (pe_lst pa_nil))
    (pss_cons (ps_set (i := 2) sc_Reading_parts_in_brackets.nd rfl (Or.inl rfl) (pe_mt0E M_Reading_take hr (by omega) (L2N.takes_of rfl rfl rfl rfl) (pv 0)))
    (pss_cons (ps_while (passes_of rfl) (pt_cmpR op_ne (pv 2) pe_str (nomark _))
      (pss_cons (ps_asg (pe_mtE M_Reading_part hr (by omega) (L2N.takes_of rfl rfl rfl rfl) (pv 0) (pa_cons (pe_globI rfl T.c_LEVELS) pa_nil)) (pg_tup (by rfl) (pgs_cons (pg_name (i := 3) sc_Reading_parts_in_brackets.nd rfl (.inl rfl)) (pgs_cons (pg_name (i := 4) sc_Reading_parts_in_brackets.nd rfl (.inl rfl)) pgs_nil))))
    (pss_cons (ps_expr (pe_bm PySem.F.plainAttrs_list PySem.F.slot_list_append PySem.F.type_list_append mt_append (pv 1) (pa_cons (pv 3) pa_nil)))
    (pss_cons (ps_set (i := 2) sc_Reading_parts_in_brackets.nd rfl (Or.inl rfl) (pe_mt0E M_Reading_take hr (by omega) (L2N.takes_of rfl rfl rfl rfl) (pv 0)))
    (pss_one (ps_if (PW.pt (pw_or (pt_cmpR (op_notInK (K := K)) (pv 2) (pe_tup (pa_cons pe_str (pa_cons pe_str pa_nil))) (by first | exact nomark _ | rfl)) (pw_or1 (pt_cmpR op_gt (pe_callB (call_lenK (K := K)) (by rfl) T.z_len (by decide +kernel) (pa_cons (pv 1) pa_nil)) (pe_globI rfl T.c_PARTS) (nomark _)))))
      (pss_one (ps_raiseEN E_BadShape rfl (L2N.takes_of rfl rfl rfl rfl) hr (pa_cons pe_int pa_nil) (hk := by omega)))
      pss_nil))))))
    (pss_one (ps_ret (pv 1)))))), ?_⟩
  walk_at "sx"
  rename_i a na
  have s1 := same_upd (o := .lst []) na
  have nar : a ≠ r := ne_of_none h1 na |>.symm
  refine x_mt rfl (s1 _ _ h1) (fr_no pl tb n (by decide +kernel) (by decide +kernel) (by decide +kernel)) ?_
  walk_at "sx"
  refine ⟨r, pl, zs, R, n, rfl, rd.same s1, hl, by omega, (fun e => by rw [hbr] at e; cases e), fun z hz H2 rd2 kr2 => ?_⟩
  rw [hbr] at hz
  cases hz
  have a2 := kr2 _ _ (upd_same (H := H) (a := a) (o := .lst [])) nar
  have kr0 : Kr r H H2 := (Kr.of s1).trans kr2
  walk_at "sx"
  refine x_while (BrWE K D C r a pl zs R n d res H) (zs.length - (n + 1) + 1) ?_ ?_
  · exact ⟨[], [], _, none, none, n + 1, rfl, a2, .nil, rd2, kr0, by omega, by omega, by simp, .inr ⟨by decide +kernel, rfl, res, hb, fun e => e, fun ps2 n2 e => e⟩⟩
  rintro k σ' G ⟨psd, vs, e, x3, x4, n', rfl, aG, pts, rdG, krG, hge, hle, lps, hc⟩
  rcases hc with ⟨rfl, er, rfl⟩ | ⟨he, rfl, r2, hr2, c1, c2⟩
  · walk_at "sx"
    exact q psd n' er a vs G hge hle na aG rdG krG pts
  · walk_at "sx"
    refine x_iteN (fun _ => ?_) (fun c => absurd (V.str.inj c) he)
    obtain ⟨dxG, tbG, g1, g2, g3⟩ := id rdG
    refine ⟨fun σ' G' => ∃ m', m' < zs.length - n' + 1 ∧ BrWE K D C r a pl zs R n d res H m' σ' G', fun σ' H' h => h, ?_⟩
    have lvs := pts.1
    obtain ⟨rp, hp, hnone, hsome⟩ : ∃ rp, RP R zs d 9 n' rp ∧ (rp = none → r2 = none) ∧ ∀ p l n1, rp = some (p, l, n1) → ((zs[n1]? ≠ some (")" : Str) ∧ zs[n1]? ≠ some ("," : Str)) ∨ 4 < psd.length + 1) ∧ r2 = none ∨ psd.length + 1 ≤ 4 ∧ (zs[n1]? = some (")" : Str) ∧ r2 = some ([p], n1 + 1) ∨ zs[n1]? = some ("," : Str) ∧ ∃ r3, RB R zs d (psd.length + 1) (n1 + 1) r3 ∧ (r3 = none → r2 = none) ∧ ∀ ps2 n2, r3 = some (ps2, n2) → r2 = some (p :: ps2, n2)) := by
      cases hr2 with
      | bad h => exact ⟨_, h, fun _ => rfl, fun p l n1 e => by cases e⟩
      | sign h h2 => exact ⟨_, h, fun _ => rfl, fun p l n1 e => by cases e; exact .inl ⟨h2, rfl⟩⟩
      | last h h2 h3 => exact ⟨_, h, (fun e => by cases e), fun p l n1 e => by cases e; exact .inr ⟨h3, .inl ⟨h2, rfl⟩⟩⟩
      | nextB h h2 h3 h4 => exact ⟨_, h, (fun e => by cases e), fun p l n1 e => by cases e; exact .inr ⟨h3, .inr ⟨h2, _, h4, fun _ => rfl, fun _ _ e => by cases e⟩⟩⟩
      | next h h2 h3 h4 => exact ⟨_, h, (fun e => by cases e), fun p l n1 e => by cases e; exact .inr ⟨h3, .inr ⟨h2, _, h4, (fun e => by cases e), fun _ _ e => by cases e; rfl⟩⟩⟩
    walk_at "sx"
    refine x_mt rfl g1 (fr_no pl tbG n' (by decide +kernel) (by decide +kernel) (by decide +kernel)) ?_
    walk_at "sx"
    refine ⟨r, pl, zs, R, n', 9, rp, rfl, rdG, hl, tok, hle, hp, fun e => (bad (c1 (hnone e))).kr krG, fun p lev n1 erp t x G3 hge3 hle3 rd3 kr3 st3 px3 => ?_⟩
    have hs := hsome p lev n1 erp
    have a3 := kr3 _ _ aG nar
    have pts3 : PtsAt K G3 (dpL psd) vs psd := pts.mono fun _ _ z => kr3.sqT g1 z
    walk_at "sx"
    refine x_app a3 (szl (by omega)) ?_
    have s4 : ∀ b xs, SqT K G3 b xs → SqT K (upd G3 a (.lst (vs ++ [x]))) b xs := fun b xs z => sqT_lst a3 z
    have e4 : upd G3 a (.lst (vs ++ [x])) a = some (.lst (vs ++ [x])) := upd_same
    have rd4 : RdAt K D C (upd G3 a (.lst (vs ++ [x]))) r pl zs R n1 := by
      obtain ⟨dx4, tb4, j1, j2, dx5, b5, h5, kb5, ka5, j3, j4, j5, j6⟩ := rd3
      have nap : pl ≠ a := ne_of_none h2 na
      exact ⟨dx4, tb4, by rw [upd_ne (ne_of j1 a3 (by intro z; cases z))]; exact j1, by rw [upd_ne nap]; exact j2, dx5, b5, h5, kb5, ka5, by rw [upd_ne (ne_of j3 a3 (by intro z; cases z))]; exact j3, by rw [upd_ne (ne_of j4 a3 (by intro z; cases z))]; exact j4, by rw [upd_ne (ne_of j5 a3 (by intro z; cases z))]; exact j5, j6.mono s4⟩
    have ed : dpL (psd ++ [p]) = max (dpL psd) (dpT p) := by
      rw [dpL_append, dpL, dpL]
      omega
    have pts4 : PtsAt K (upd G3 a (.lst (vs ++ [x]))) (dpL (psd ++ [p])) (vs ++ [x]) (psd ++ [p]) := ((pts3.allG (by omega)).append (.one (px3.up (j := dpL (psd ++ [p])) (by omega)))).mono s4
    have kr4 : Kr r H (upd G3 a (.lst (vs ++ [x]))) := fun c o e hc => by
      rw [upd_ne (ne_of_none e na)]
      exact (krG.trans kr3) c o e hc
    generalize upd G3 a (.lst (vs ++ [x])) = G4 at *
    obtain ⟨dx6, tb6, j1, j2, j3⟩ := id rd4
    walk_at "sx"
    refine x_mt rfl j1 (fr_no pl tb6 _ (by decide +kernel) (by decide +kernel) (by decide +kernel)) ?_
    walk_at "sx"
    refine ⟨r, pl, zs, R, n1, rfl, rd4, hl, hle3, fun e => ?_, fun sg hsg G5 rd5 kr5 => ?_⟩
    · rcases hs with ⟨_, h⟩ | ⟨_, ⟨h, _⟩ | ⟨h, _⟩⟩
      · exact (bad (c1 h)).kr kr4
      · rw [e] at h
        cases h
      · rw [e] at h
        cases h
    have a5 := kr5 _ _ e4 nar
    have pts5 := pts4.mono fun _ _ z => kr5.sqT j1 z
    have kr05 := kr4.trans kr5
    have hn1 := lt_of_at hsg
    walk_at "sx"
    rename_i tt ntt
    refine ⟨tt, [.str ("," : Str), .str (")" : Str)], rfl, .inr (.of upd_same), rfl, by decide, ?_⟩
    rw [if_pos rfl, show ([.str ("," : Str), .str (")" : Str)] : List V) = ([("," : Str), (")" : Str)] : List Str).map V.str from rfl, inV_strs]
    have s6 := same_upd (o := .tup [.str ("," : Str), .str (")" : Str)]) ntt
    have lv5 : (vs ++ [x]).length = psd.length + 1 := by rw [List.length_append, List.length_singleton, lvs]
    by_cases hin : sg ∈ ([("," : Str), (")" : Str)] : List Str)
    · rw [decide_eq_true hin]
      walk_at "sx"
      refine x_ite (fun c => ?_) (fun c => ?_)
      · have c' : (4 : Int) < (((vs ++ [x]).length : Nat) : Int) := c
        rcases hs with ⟨_, h⟩ | ⟨h, _⟩
        · walk_at "sx"
          exact x_mkE (n := 0) (by decide) fun dd hd => (((bad (c1 h)).kr kr05).same s6).done hd
        · omega
      · have c' : ¬ (4 : Int) < (((vs ++ [x]).length : Nat) : Int) := c
        walk_at "sx"
        rcases hs with ⟨h | h, _⟩ | ⟨hk, ⟨h, e2⟩ | ⟨h, r3, h3, c3, c4⟩⟩
        · rw [hsg] at h
          rcases List.mem_cons.mp hin with z | z
          · exact absurd (congrArg some z) h.2
          · exact absurd (congrArg some (List.mem_singleton.mp z)) h.1
        · omega
        · rw [hsg] at h
          cases h
          exact ⟨0, Nat.succ_pos _, psd ++ [p], vs ++ [x], _, _, _, _, rfl, s6 _ _ a5, pts5.same s6, rd5.same s6, kr05.trans (.of s6), by omega, by omega, by rw [List.length_append]; exact hk, .inl ⟨rfl, c2 _ _ e2, rfl⟩⟩
        · rw [hsg] at h
          cases h
          exact ⟨zs.length - (n1 + 1) + 1, by omega, psd ++ [p], vs ++ [x], _, _, _, _, rfl, s6 _ _ a5, pts5.same s6, rd5.same s6, kr05.trans (.of s6), by omega, by omega, by rw [List.length_append]; exact hk, .inr ⟨by decide +kernel, rfl, r3, by rw [List.length_append]; exact h3, fun e => c1 (c3 e), fun ps2 n2 e => by rw [c2 _ _ (c4 _ _ e)]; simp⟩⟩
    · rw [decide_eq_false hin]
      walk_at "sx"
      rcases hs with ⟨_, h⟩ | ⟨_, ⟨h, _⟩ | ⟨h, _⟩⟩
      · exact x_mkE (n := 0) (by decide) fun dd hd => (((bad (c1 h)).kr kr05).same s6).done hd
      · rw [hsg] at h
        cases h
        exact absurd (by simp) hin
      · rw [hsg] at h
        cases h
        exact absurd (by simp) hin
end
end Gs
namespace Gs
open PySem PySem.Spec PyProof.Rows L2 TL
abbrev s_read_pieces : Stmt := PySem.Challenge.pw_goalstead_k21_sizes_as_read.main.body.getD 45 (.Pass ⟨0, 0, 0, 0⟩)
theorem sc_read_pieces : FnScope ["pieces", "table"] ["pieces", "table"] (defScope s_read_pieces) := ⟨rfl, rfl, rfl, by decide +kernel, rfl, by decide +kernel, by decide +kernel⟩
/-- where a part's steps stand -/
def PaWE (K : PySem.W.Frag) (D C r pl : Addr) (zs : List Str) (R : List Op) (n d : Nat) (most : Int) (res : Option (Pt × Int × Nat)) (H : Hp) (k : Nat) (σ' : L2.St) (G : Hp) : Prop := ∃ (xl : V) (lv : Int) (al : Pt) (n' : Nat) (x4 x5 x6 : Option V), σ' = [some (.ref r), some (.int most), some xl, some (.int lv), x4, x5, x6] ∧ RdAt K D C G r pl zs R n' ∧ Kr r H G ∧ PtAt K G (dpT al) xl al ∧ RL R zs d most lv al n' res ∧ k = zs.length - n' ∧ n ≤ n' ∧ n' ≤ zs.length
section
variable {P : Program} {w : World} {K : PySem.W.Frag} {mg : Str → Option Value} {base : Heap} {f C D BS : Addr} {fd : FuncData}
theorem ok_firstE {d : Nat} (F : Fun K "first_part" "Reading.first_part" s_Reading_first_part f fd) (T : Txt mg) (RC : ReC K D) (TC : TabC K C) (E_BadShape : HasErr P w K mg base "BadShape" "line" BS) (M_Reading_take : HasTakeE D C BS P w K mg base) (M_OperatorTable_ahead_bound : HasAB C P w K mg base) (M_Reading_plain_part : HasPlainE D C BS d P w K mg base) (M_Reading_part : HasPartE D C BS d P w K mg base) : FnOk P w K mg base (L2N.CX P w) (4 * d + 7) f fd ["self", "most"] (spFirstE K D C BS d) := by
  refine F.okN sc_Reading_first_part (fun vs H Q E h => ?_) (fun cdv A outer s H vs Q E hr h => ?_)
  · obtain ⟨r, pl, zs, R, n, most, res, rfl, _⟩ := h
    rfl
  obtain ⟨r, pl, zs, R, n, most, res, rfl, rd, hl, tok, hn, hp, bad, q⟩ := h
  obtain ⟨dx0, tb, h1, h2, h3⟩ := id rd
  refine ⟨_, (pss_cons (ps_set (i := 2) sc_Reading_first_part.nd rfl (Or.inl rfl) (pe_mt0E M_Reading_take hr (by omega) (L2N.takes_of rfl rfl rfl rfl) (pv 0)))
    (pss_cons (ps_if (pt_cmp (pc_din (hu_of hr) (pv 2) (pe_fld (pe_fld (pv 0) rfl) rfl)))
      (pss_cons (ps_if (pt_cmpR op_gt (pe_dget (hu_of hr) (pe_fld (pe_fld (pv 0) rfl) rfl) (pv 2) (fun _ _ => rfl)) (pv 1) (nomark _))
      (pss_one (ps_raiseEN E_BadShape rfl (L2N.takes_of rfl rfl rfl rfl) hr (pa_cons pe_int pa_nil) (hk := by omega)))
      pss_nil)
    (pss_cons (ps_asg (pe_mtE M_Reading_part hr (by omega) (L2N.takes_of rfl rfl rfl rfl) (pv 0) (pa_cons (C8.pe_mt M_OperatorTable_ahead_bound hr (by omega) (pe_fld (pv 0) rfl) (pa_cons (pv 2) pa_nil)) pa_nil)) (pg_tup (by rfl) (pgs_cons (pg_name (i := 3) sc_Reading_first_part.nd rfl (.inl rfl)) (pgs_cons (pg_name (i := 4) sc_Reading_first_part.nd rfl (.inl rfl)) pgs_nil))))
    (pss_one (ps_ret (pe_tup (pa_cons (pe_tup (pa_cons (pv 2) (pa_cons (pv 3) pa_nil))) (pa_cons (pe_dget (hu_of hr) (pe_fld (pe_fld (pv 0) rfl) rfl) (pv 2) (fun _ _ => rfl)) pa_nil)))))))
      pss_nil)
    (pss_cons (ps_if (pt_cmpR op_eq (pv 2) pe_str (nomark _))
      (pss_cons (ps_asg (pe_mtE M_Reading_part hr (by omega) (L2N.takes_of rfl rfl rfl rfl) (pv 0) (pa_cons (pe_globI rfl T.c_LEVELS) pa_nil)) (pg_tup (by rfl) (pgs_cons (pg_name (i := 5) sc_Reading_first_part.nd rfl (.inl rfl)) (pgs_cons (pg_name (i := 4) sc_Reading_first_part.nd rfl (.inl rfl)) pgs_nil))))
    (pss_cons (ps_if (pt_cmpR op_ne (pe_mt0E M_Reading_take hr (by omega) (L2N.takes_of rfl rfl rfl rfl) (pv 0)) pe_str (nomark _))
      (pss_one (ps_raiseEN E_BadShape rfl (L2N.takes_of rfl rfl rfl rfl) hr (pa_cons pe_int pa_nil) (hk := by omega)))
      pss_nil)
    (pss_one (ps_ret (pe_tup (pa_cons (pv 5) (pa_cons pe_int pa_nil)))))))
      pss_nil)
    (pss_one (ps_ret (pe_tup (pa_cons (pe_mtE M_Reading_plain_part hr (by omega) (L2N.takes_of rfl rfl rfl rfl) (pv 0) (pa_cons (pv 2) pa_nil)) (pa_cons pe_int pa_nil)))))))), ?_⟩
  walk_at "sx"
  refine x_mt rfl h1 (fr_no pl tb n (by decide +kernel) (by decide +kernel) (by decide +kernel)) ?_
  walk_at "sx"
  refine ⟨r, pl, zs, R, n, rfl, rd, hl, hn, fun e => ?_, fun z hz G rdG krG => ?_⟩
  · refine bad ?_
    cases hp with
    | none => rfl
    | high h => rfl
    | aheadB h => rfl
    | ahead h => rw [e] at h; cases h
    | brB h => rfl
    | brE h => rfl
    | br h => rw [e] at h; cases h
    | plainB h => rfl
    | plain h => rw [e] at h; cases h
  obtain ⟨dx, tb, g0, g1, g2⟩ := id rdG
  have tbG := g2
  obtain ⟨dx2, b, h, kb, ka, j1, j2, j3, j4⟩ := g2
  have hnz := lt_of_at hz
  have badG := fun e => (bad e).kr krG
  walk_at "sx"
  refine x_din ?_
  walk_at "sx"
  refine x_fT TC.cl TC.nA j1 (flds_a b h) ?_ (fun Q' q' => x_fR RC.cl RC.nT rfl g0 (fr_tb pl tb _) q')
  refine ⟨h, _, rfl, DGet.k (k := Sum.inr z) j3, ?_⟩
  by_cases ha : ∃ o, rowOf R z 1 = some o
  · obtain ⟨o, ho⟩ := ha
    rw [j4.as z o ho]
    walk_at "sx"
    refine x_dget ?_
    refine x_fT TC.cl TC.nA j1 (flds_a b h) ?_ (fun Q' q' => x_fR RC.cl RC.nT rfl g0 (fr_tb pl tb _) q')
    walk_at "sx"
    refine ⟨h, .int o.l, rfl, j4.as z o ho ▸ DGet.k (k := Sum.inr z) j3, ?_⟩
    walk_at "sx"
    obtain ⟨hhigh, hok⟩ : (o.l > most → res = none) ∧ (o.l ≤ most → ∃ rp, RP R zs d (o.l - 1) (n + 1) rp ∧ (rp = none → res = none) ∧ ∀ x lx n1, rp = some (x, lx, n1) → res = some (.t z [x], o.l, n1)) := by
      cases hp with
      | none h => rw [hz] at h; cases h
      | high h h2 h3 =>
        rw [hz] at h
        cases h
        rw [ho] at h2
        cases h2
        exact ⟨fun _ => rfl, fun h => by omega⟩
      | aheadB h h2 h3 h4 =>
        rw [hz] at h
        cases h
        rw [ho] at h2
        cases h2
        exact ⟨fun _ => rfl, fun _ => ⟨_, h4, fun _ => rfl, fun _ _ _ e => by cases e⟩⟩
      | ahead h h2 h3 h4 =>
        rw [hz] at h
        cases h
        rw [ho] at h2
        cases h2
        exact ⟨fun h => by omega, fun _ => ⟨_, h4, (fun e => by cases e), fun _ _ _ e => by cases e; rfl⟩⟩
      | brB h => rw [hz] at h; cases h; rw [(tok.br _ (by simp)).1] at ho; cases ho
      | brE h => rw [hz] at h; cases h; rw [(tok.br _ (by simp)).1] at ho; cases ho
      | br h => rw [hz] at h; cases h; rw [(tok.br _ (by simp)).1] at ho; cases ho
      | plainB h h2 => rw [hz] at h; cases h; rw [ho] at h2; cases h2
      | plain h h2 => rw [hz] at h; cases h; rw [ho] at h2; cases h2
    refine x_ite (fun c => ?_) (fun c => ?_)
    · have c' : most < o.l := c
      walk_at "sx"
      exact x_mkE (n := 0) (by decide) fun dd hd => (badG (hhigh c')).done hd
    have c' : ¬ most < o.l := c
    obtain ⟨rp, hrp, hnone, hsome⟩ := hok (by omega)
    walk_at "sx"
    refine x_mt rfl g0 (fr_no pl tb _ (by decide +kernel) (by decide +kernel) (by decide +kernel)) ?_
    walk_at "sx"
    refine x_mtT j1 (flds_no b h (by decide +kernel) (by decide +kernel)) ?_ (fun Q' q' => x_fR RC.cl RC.nT rfl g0 (fr_tb pl tb _) q')
    walk_at "sx"
    refine ⟨tb, R, z, o, rfl, tbG, ho, ?_⟩
    walk_at "sx"
    refine ⟨r, pl, zs, R, n + 1, o.l - 1, rp, rfl, rdG, hl, tok, hnz, hrp, fun e => badG (hnone e), fun x lx n1 e t y G2 hge hle rd2 kr2 st2 py2 => ?_⟩
    have eres := hsome x lx n1 e
    obtain ⟨dx3, tb3, i0, i1, i2⟩ := id rd2
    obtain ⟨dx4, b4, h4', kb4, ka4, k1, k2, k3, k4⟩ := id i2
    walk_at "sx"
    rename_i t1 nt1
    have s1 := same_upd (o := .tup [.str z, y]) nt1
    have e1 : SqT K (upd G2 t1 (.tup [.str z, y])) t1 [.str z, y] := .of upd_same
    have i0' := s1 _ _ i0
    have k1' := s1 _ _ k1
    have k3' := s1 _ _ k3
    have rd3 := rd2.same s1
    have py3 := py2.same s1
    have kr3 := (krG.trans kr2).trans (.of s1)
    generalize upd G2 t1 (.tup [.str z, y]) = G3 at *
    refine x_dget ?_
    refine x_fT TC.cl TC.nA k1' (flds_a b4 h4') ?_ (fun Q' q' => x_fR RC.cl RC.nT rfl i0' (fr_tb pl tb3 _) q')
    walk_at "sx"
    refine ⟨h4', .int o.l, rfl, k4.as z o ho ▸ DGet.k (k := Sum.inr z) k3', ?_⟩
    walk_at "sx"
    rename_i t2 nt2
    have s2 := same_upd (o := .tup [.ref t1, .int o.l]) nt2
    refine q _ _ _ eres _ (.ref t1) _ (by omega) hle (rd3.same s2) (kr3.trans (.of s2)) (.of upd_same) ?_
    rw [dpT, dpL, dpL, Nat.max_eq_left (Nat.zero_le _), Nat.add_comm]
    exact PtAt.tup (Same.sqT s2 e1) (.one (py3.same s2))
  · have hn1 : rowOf R z 1 = none := by
      cases e : rowOf R z 1 with
      | none => rfl
      | some o => exact absurd ⟨o, e⟩ ha
    rw [j4.an z hn1]
    walk_at "sx"
    by_cases hbr : z = ("(" : Str)
    · subst hbr
      obtain ⟨rp, hrp, hnone, hsome⟩ : ∃ rp, RP R zs d 9 (n + 1) rp ∧ (rp = none → res = none) ∧ ∀ p l n1, rp = some (p, l, n1) → (zs[n1]? ≠ some (")" : Str) → res = none) ∧ (zs[n1]? = some (")" : Str) → res = some (p, 0, n1 + 1)) := by
        cases hp with
        | none h => rw [hz] at h; cases h
        | high h h2 => rw [hz] at h; cases h; rw [hn1] at h2; cases h2
        | aheadB h h2 => rw [hz] at h; cases h; rw [hn1] at h2; cases h2
        | ahead h h2 => rw [hz] at h; cases h; rw [hn1] at h2; cases h2
        | brB h h2 => exact ⟨_, h2, fun _ => rfl, fun _ _ _ e => by cases e⟩
        | brE h h2 h3 => exact ⟨_, h2, fun _ => rfl, fun _ _ _ e => by cases e; exact ⟨fun _ => rfl, fun h => absurd h h3⟩⟩
        | br h h2 h3 => exact ⟨_, h2, (fun e => by cases e), fun _ _ _ e => by cases e; exact ⟨fun h => absurd h3 h, fun _ => rfl⟩⟩
        | plainB h h2 h3 => rw [hz] at h; cases h; exact absurd rfl h3
        | plain h h2 h3 => rw [hz] at h; cases h; exact absurd rfl h3
      walk_at "sx"
      refine x_mt rfl g0 (fr_no pl tb _ (by decide +kernel) (by decide +kernel) (by decide +kernel)) ?_
      walk_at "sx"
      refine ⟨r, pl, zs, R, n + 1, 9, rp, rfl, rdG, hl, tok, hnz, hrp, fun e => badG (hnone e), fun x lx n1 e t y G2 hge hle rd2 kr2 st2 py2 => ?_⟩
      obtain ⟨hne, heq⟩ := hsome x lx n1 e
      obtain ⟨dx3, tb3, i0, i1, i2⟩ := id rd2
      have kr02 := krG.trans kr2
      walk_at "sx"
      refine x_mt rfl i0 (fr_no pl tb3 _ (by decide +kernel) (by decide +kernel) (by decide +kernel)) ?_
      walk_at "sx"
      refine ⟨r, pl, zs, R, n1, rfl, rd2, hl, hle, fun e => (bad (hne (by rw [e]; simp))).kr kr02, fun z2 hz2 G3 rd3 kr3 => ?_⟩
      have kr03 := kr02.trans kr3
      walk_at "sx"
      refine x_iteN (fun c => ?_) (fun c => ?_)
      · walk_at "sx"
        refine x_mkE (n := 0) (by decide) fun dd hd => ((bad (hne fun e => c ?_)).kr kr03).done hd
        rw [hz2] at e
        cases e
        rfl
      · have ez2 : z2 = (")" : Str) := V.str.inj c
        subst ez2
        have hlt := lt_of_at hz2
        walk_at "sx"
        rename_i t2 nt2
        have s2 := same_upd (o := .tup [y, .int 0]) nt2
        exact q _ _ _ (heq hz2) _ y _ (by omega) (by omega) (rd3.same s2) (kr03.trans (.of s2)) (.of upd_same) ((py2.kr kr3 i0).same s2)
    · obtain ⟨rw1, hrw, hnone, hsome⟩ : ∃ rw1, RW R zs d z (n + 1) rw1 ∧ (rw1 = none → res = none) ∧ ∀ p n1, rw1 = some (p, n1) → res = some (p, 0, n1) := by
        cases hp with
        | none h => rw [hz] at h; cases h
        | high h h2 => rw [hz] at h; cases h; rw [hn1] at h2; cases h2
        | aheadB h h2 => rw [hz] at h; cases h; rw [hn1] at h2; cases h2
        | ahead h h2 => rw [hz] at h; cases h; rw [hn1] at h2; cases h2
        | brB h h2 => rw [hz] at h; cases h; exact absurd rfl hbr
        | brE h h2 h3 => rw [hz] at h; cases h; exact absurd rfl hbr
        | br h h2 h3 => rw [hz] at h; cases h; exact absurd rfl hbr
        | plainB h h2 h3 h4 =>
          rw [hz] at h
          cases h
          exact ⟨_, h4, fun _ => rfl, fun _ _ e => by cases e⟩
        | plain h h2 h3 h4 =>
          rw [hz] at h
          cases h
          exact ⟨_, h4, (fun e => by cases e), fun _ _ e => by cases e; rfl⟩
      walk_at "sx"
      refine x_ite (fun c => absurd (V.str.inj c) hbr) (fun _ => ?_)
      walk_at "sx"
      refine x_mt rfl g0 (fr_no pl tb _ (by decide +kernel) (by decide +kernel) (by decide +kernel)) ?_
      walk_at "sx"
      refine ⟨r, pl, z, zs, R, n + 1, rw1, rfl, rdG, hl, tok, hnz, hrw, hn1, fun e => badG (hnone e), fun p n1 e y G2 hge hle rd2 kr2 py2 => ?_⟩
      walk_at "sx"
      rename_i t2 nt2
      have s2 := same_upd (o := .tup [y, .int 0]) nt2
      exact q _ _ _ (hsome p n1 e) _ y _ (by omega) hle (rd2.same s2) ((krG.trans kr2).trans (.of s2)) (.of upd_same) (py2.same s2)
theorem ok_partE {d : Nat} (F : Fun K "part" "Reading.part" s_Reading_part f fd) (T : Txt mg) (RC : ReC K D) (TC : TabC K C) (M_Reading_take : HasTakeE D C BS P w K mg base) (M_Reading_goes_on : HasGoes D C P w K mg base) (M_OperatorTable_right_bound : HasRB C P w K mg base) (M_Reading_first_part : HasFirstE D C BS d P w K mg base) (M_Reading_part : HasPartE D C BS d P w K mg base) : FnOk P w K mg base (L2N.CX P w) (4 * d + 8) f fd ["self", "most"] (spPartE K D C BS (d + 1)) := by
  refine F.okN sc_Reading_part (fun vs H Q E h => ?_) (fun cdv A outer s H vs Q E hr h => ?_)
  · obtain ⟨r, pl, zs, R, n, most, res, rfl, _⟩ := h
    rfl
  obtain ⟨r, pl, zs, R, n, most, res, rfl, rd, hl, tok, hn, hp, bad, q⟩ := h
  obtain ⟨dx0, tb, h1, h2, h3⟩ := id rd
  obtain ⟨rf, hrf, hnone, hsome⟩ : ∃ rf, RF R zs d most n rf ∧ (rf = none → res = none) ∧ ∀ a la n1, rf = some (a, la, n1) → RL R zs d most la a n1 res := by
    cases hp with
    | bad h => exact ⟨_, h, fun _ => rfl, fun _ _ _ e => by cases e⟩
    | go h h2 => exact ⟨_, h, (fun e => by cases e), fun _ _ _ e => by cases e; exact h2⟩
  refine ⟨_, (pss_cons (ps_asg (pe_mtE M_Reading_first_part hr (by omega) (L2N.takes_of rfl rfl rfl rfl) (pv 0) (pa_cons (pv 1) pa_nil)) (pg_tup (by rfl) (pgs_cons (pg_name (i := 2) sc_Reading_part.nd rfl (.inl rfl)) (pgs_cons (pg_name (i := 3) sc_Reading_part.nd rfl (.inl rfl)) pgs_nil))))
    (pss_cons (ps_while (passes_of rfl) (pt_val (C8.pe_mt M_Reading_goes_on hr (by omega) (pv 0) (pa_cons (pv 3) (pa_cons (pv 1) pa_nil))))
      (pss_cons (ps_set (i := 4) sc_Reading_part.nd rfl (Or.inl rfl) (pe_mt0E M_Reading_take hr (by omega) (L2N.takes_of rfl rfl rfl rfl) (pv 0)))
    (pss_cons (ps_asg (pe_mtE M_Reading_part hr (by omega) (L2N.takes_of rfl rfl rfl rfl) (pv 0) (pa_cons (C8.pe_mt M_OperatorTable_right_bound hr (by omega) (pe_fld (pv 0) rfl) (pa_cons (pv 4) pa_nil)) pa_nil)) (pg_tup (by rfl) (pgs_cons (pg_name (i := 5) sc_Reading_part.nd rfl (.inl rfl)) (pgs_cons (pg_name (i := 6) sc_Reading_part.nd rfl (.inl rfl)) pgs_nil))))
    (pss_cons (ps_set (i := 2) sc_Reading_part.nd rfl (Or.inl rfl) (pe_tup (pa_cons (pv 4) (pa_cons (pv 2) (pa_cons (pv 5) pa_nil)))))
    (pss_one (ps_asg (pe_dget (hu_of hr) (pe_fld (pe_fld (pv 0) rfl) rfl) (pv 4) (fun _ _ => rfl)) (pg_tup (by rfl) (pgs_cons (pg_name (i := 3) sc_Reading_part.nd rfl (.inl rfl)) (pgs_cons (pg_name (i := 6) sc_Reading_part.nd rfl (.inl rfl)) pgs_nil)))))))))
    (pss_one (ps_ret (pe_tup (pa_cons (pv 2) (pa_cons (pv 3) pa_nil))))))), ?_⟩
  walk_at "sx"
  refine x_mt rfl h1 (fr_no pl tb n (by decide +kernel) (by decide +kernel) (by decide +kernel)) ?_
  walk_at "sx"
  refine ⟨r, pl, zs, R, n, most, rf, rfl, rd, hl, tok, hn, hrf, fun e => bad (hnone e), fun a la n1 e t x G hge hle rdG krG st px => ?_⟩
  have hrl := hsome a la n1 e
  walk_at "sx"
  refine x_while (PaWE K D C r pl zs R n d most res H) (zs.length - n1) ?_ ?_
  · exact ⟨x, la, a, n1, none, none, none, rfl, rdG, krG, px, hrl, rfl, hge, hle⟩
  clear hrl px st krG rdG hle hge e hsome hnone hrf h1 h2 h3 G
  rintro k σ' G ⟨xl, lv, al, n', x4, x5, x6, rfl, rdG, krG, px, hst, rfl, hge, hle⟩
  obtain ⟨dx, tb, g0, g1, g2⟩ := id rdG
  have tbG := g2
  obtain ⟨dx2, b, h, kb, ka, j1, j2, j3, j4⟩ := g2
  walk_at "sx"
  refine x_mt rfl g0 (fr_no pl tb _ (by decide +kernel) (by decide +kernel) (by decide +kernel)) ?_
  walk_at "sx"
  refine ⟨r, pl, zs, R, n', lv, most, rfl, rdG, hl, hle, ?_⟩
  cases eg : goesB R lv most zs[n']? with
  | false =>
    have er : res = some (al, lv, n') := by
      cases hst with
      | stop _ => rfl
      | bad h h2 h3 => rw [h, h3] at eg; cases eg
      | step h h2 h3 => rw [h, h3] at eg; cases eg
    walk_at "sx"
    rename_i t2 nt2
    have s2 := same_upd (o := .tup [xl, .int lv]) nt2
    exact q _ _ _ er _ xl _ hge hle (rdG.same s2) (krG.trans (.of s2)) (.of upd_same) (px.same s2)
  | true =>
    obtain ⟨nm, o, rp, ez, ho, hrp, hnone, hsome⟩ : ∃ nm o rp, zs[n']? = some nm ∧ rowOf R nm 2 = some o ∧ RP R zs d (rbO o) (n' + 1) rp ∧ (rp = none → res = none) ∧ ∀ bb lb n1, rp = some (bb, lb, n1) → RL R zs d most o.l (.t nm [al, bb]) n1 res := by
      cases hst with
      | stop h => rw [h] at eg; cases eg
      | bad h h2 h3 h4 => exact ⟨_, _, _, h, h2, h4, fun _ => rfl, fun _ _ _ e => by cases e⟩
      | step h h2 h3 h4 h5 => exact ⟨_, _, _, h, h2, h4, (fun e => by cases e), fun _ _ _ e => by cases e; exact h5⟩
    have hlt := lt_of_at ez
    have badG := fun e => (bad e).kr krG
    walk_at "sx"
    refine ⟨fun σ' G' => ∃ m', m' < zs.length - n' ∧ PaWE K D C r pl zs R n d most res H m' σ' G', fun σ' H' h => h, ?_⟩
    walk_at "sx"
    refine x_mt rfl g0 (fr_no pl tb _ (by decide +kernel) (by decide +kernel) (by decide +kernel)) ?_
    walk_at "sx"
    refine ⟨r, pl, zs, R, n', rfl, rdG, hl, hle, (fun e => by rw [ez] at e; cases e), fun z2 hz2 G2 rd2 kr2 => ?_⟩
    rw [ez] at hz2
    cases hz2
    obtain ⟨dx3, tb3, i0, i1, i2⟩ := id rd2
    have tb2 := i2
    obtain ⟨dx4, b4, h4', kb4, ka4, k1, k2, k3, k4⟩ := i2
    have px2 := px.kr kr2 g0
    walk_at "sx"
    refine x_mt rfl i0 (fr_no pl tb3 _ (by decide +kernel) (by decide +kernel) (by decide +kernel)) ?_
    walk_at "sx"
    refine x_mtT k1 (flds_no b4 h4' (by decide +kernel) (by decide +kernel)) ?_ (fun Q' q' => x_fR RC.cl RC.nT rfl i0 (fr_tb pl tb3 _) q')
    walk_at "sx"
    refine ⟨tb3, R, nm, o, rfl, tb2, ho, ?_⟩
    walk_at "sx"
    refine ⟨r, pl, zs, R, n' + 1, rbO o, rp, rfl, rd2, hl, tok, hlt, hrp, fun e => (badG (hnone e)).kr kr2, fun bb lb n1 e t y G3 hge3 hle3 rd3 kr3 st3 py3 => ?_⟩
    have hrl := hsome bb lb n1 e
    have px3 := px2.kr kr3 i0
    walk_at "sx"
    rename_i t1 nt1
    have s1 := same_upd (o := .tup [.str nm, xl, y]) nt1
    have e1 : SqT K (upd G3 t1 (.tup [.str nm, xl, y])) t1 [.str nm, xl, y] := .of upd_same
    have rd4 := rd3.same s1
    have px4 := px3.same s1
    have py4 := py3.same s1
    have kr4 := ((krG.trans kr2).trans kr3).trans (.of s1)
    generalize upd G3 t1 (.tup [.str nm, xl, y]) = G4 at *
    obtain ⟨dx5, tb5, l0, l1, l2⟩ := id rd4
    obtain ⟨dx6, b6, h6', kb6, ka6, m1, m2, m3, m4⟩ := l2
    obtain ⟨t6, et6, st6⟩ := m4.bs nm o ho
    refine x_dget ?_
    refine x_fT TC.cl TC.nB m1 (flds_b b6 h6') ?_ (fun Q' q' => x_fR RC.cl RC.nT rfl l0 (fr_tb pl tb5 _) q')
    walk_at "sx"
    refine ⟨b6, .ref t6, rfl, et6 ▸ DGet.k (k := Sum.inr nm) m2, ?_⟩
    walk_at "sx"
    refine ⟨zs.length - n1, by omega, .ref t1, o.l, .t nm [al, bb], n1, _, _, _, rfl, rd4, kr4, ?_, hrl, rfl, by omega, hle3⟩
    rw [dpT, Nat.add_comm]
    exact PtAt.tup (vs := [xl, y]) e1 (.append (vs := [xl]) (ps := [al]) (.one (px4.up (by rw [dpL]; omega))) (.one (py4.up (by rw [dpL, dpL]; omega))))
end
end Gs
namespace Gs
open PySem PySem.Spec PyProof.Rows L2 TL
abbrev s_is_great : Stmt := PySem.Challenge.pw_goalstead_k21_sizes_as_read.main.body.getD 50 (.Pass ⟨0, 0, 0, 0⟩)
theorem sc_is_great : FnScope ["pattern"] ["pattern"] (defScope s_is_great) := ⟨rfl, rfl, rfl, by decide +kernel, rfl, by decide +kernel, by decide +kernel⟩
abbrev s_is_pattern : Stmt := PySem.Challenge.pw_goalstead_k21_sizes_as_read.main.body.getD 55 (.Pass ⟨0, 0, 0, 0⟩)
theorem sc_is_pattern : FnScope ["reading", "waiting", "part"] ["reading"] (defScope s_is_pattern) := ⟨rfl, rfl, rfl, by decide +kernel, rfl, by decide +kernel, by decide +kernel⟩
abbrev s_table_of : Stmt := PySem.Challenge.pw_goalstead_k21_sizes_as_read.main.body.getD 80 (.Pass ⟨0, 0, 0, 0⟩)
theorem sc_table_of : FnScope ["operators"] ["operators"] (defScope s_table_of) := ⟨rfl, rfl, rfl, by decide +kernel, rfl, by decide +kernel, by decide +kernel⟩
abbrev s_measure : Stmt := PySem.Challenge.pw_goalstead_k21_sizes_as_read.main.body.getD 81 (.Pass ⟨0, 0, 0, 0⟩)
theorem sc_measure : FnScope ["reading"] ["reading"] (defScope s_measure) := ⟨rfl, rfl, rfl, by decide +kernel, rfl, by decide +kernel, by decide +kernel⟩
abbrev s_read_term : Stmt := PySem.Challenge.pw_goalstead_k21_sizes_as_read.main.body.getD 74 (.Pass ⟨0, 0, 0, 0⟩)
theorem sc_read_term : FnScope ["line", "operators", "most", "pieces", "pattern"] ["line", "operators", "most"] (defScope s_read_term) := ⟨rfl, rfl, rfl, by decide +kernel, rfl, by decide +kernel, by decide +kernel⟩
/-- what all pieces together are read to -/
def RdO (R : List Op) (d : Nat) (zs : List Str) (o : Option Pt) : Prop := ∃ res, RP R zs d 9 0 res ∧ ((o = none ∧ ∀ p l, res ≠ some (p, l, zs.length)) ∨ ∃ p l, o = some p ∧ res = some (p, l, zs.length))
def NoK (z : Str) : Prop := z ∉ keptL
def BadS (BS : Addr) (H : Hp) (E : XK) : Prop := ∀ dd H', Same H H' → H' dd = some (.xd [("line", .int 0)]) → E (.ref BS) (some dd) H'
theorem BadS.same {BS : Addr} {H G : Hp} {E : XK} (b : BadS BS H E) (k : Same H G) : BadS BS G E := fun dd H' k' h => b dd H' (k.trans k') h
theorem BadS.done {BS : Addr} {H : Hp} {E : XK} (b : BadS BS H E) {dd : Addr} (h : H dd = none) : E (.ref BS) (some dd) (upd H dd (.xd [("line", .int ((0 : Nat) : Int))])) := b dd _ (same_upd h) upd_same
mutual
/-- a name of it is kept -/
def hasK : Pt → Bool
  | .i _ => false
  | .s _ => false
  | .t nm ps => decide (nm ∈ keptL) || hasKL ps
def hasKL : List Pt → Bool
  | [] => false
  | x :: r => hasK x || hasKL r
end
theorem hasKL_append : ∀ a b : List Pt, hasKL (a ++ b) = (hasKL a || hasKL b)
  | [], b => by simp [hasKL]
  | x :: r, b => by rw [List.cons_append, hasKL, hasKL, hasKL_append r b, Bool.or_assoc]
theorem hasKL_last {ps : List Pt} {u : Pt} (h : ps[ps.length - 1]? = some u) : hasKL ps = (hasKL ps.dropLast || hasK u) := by
  have hl := (List.getElem?_eq_some_iff.mp h).1
  have hne : ps ≠ [] := fun z => by rw [z] at hl; simp at hl
  have e : ps = ps.dropLast ++ [u] := by
    have h1 := List.dropLast_concat_getLast hne
    rw [List.getLast_eq_getElem] at h1
    rw [List.getElem?_eq_getElem hl] at h
    rw [Option.some.inj h] at h1
    exact h1.symm
  rw [e, hasKL_append, List.dropLast_concat, hasKL, hasKL, Bool.or_false]
def spRdInit (K : PySem.W.Frag) (D C : Addr) : Sp := fun vs H Q _ => ∃ (r pl tb dx : Addr) (zs : List Str) (R : List Op), vs = [.ref r, .ref pl, .ref tb] ∧ H r = some (.ins D dx []) ∧ H pl = some (.lst (zs.map V.str)) ∧ TabAt K C H tb R ∧ ∀ H', RdAt K D C H' r pl zs R 0 → Kr r H H' → Q .non H'
def spWholeE (K : PySem.W.Frag) (D C BS : Addr) (d : Nat) : Sp := fun vs H Q E => ∃ (r pl : Addr) (zs : List Str) (R : List Op) (o : Option Pt), vs = [.ref r] ∧ RdAt K D C H r pl zs R 0 ∧ zs.length ≤ 1000 ∧ TabOk R ∧ RdO R d zs o ∧ (o = none → BadR BS r H E) ∧ ∀ p, o = some p → ∀ x H', Kr r H H' → PtAt K H' (dpT p) x p → Q x H'
def spReadPE (K : PySem.W.Frag) (C BS : Addr) (d : Nat) : Sp := fun vs H Q E => ∃ (pl tb : Addr) (zs : List Str) (R : List Op) (o : Option Pt), vs = [.ref pl, .ref tb] ∧ H pl = some (.lst (zs.map V.str)) ∧ TabAt K C H tb R ∧ zs.length ≤ 1000 ∧ TabOk R ∧ RdO R d zs o ∧ (o = none → BadS BS H E) ∧ ∀ p, o = some p → ∀ x H', Same H H' → PtAt K H' (dpT p) x p → Q x H'
theorem x_mtMk {D : Addr} {m : Str} {sp1 sp2 : Sp} {t t2 : TA} {σ : L2.St} {H : Hp} {Q : VK} {E E1 : XK} (q : t σ H fun vs H1 => ∀ x dx, H1 x = none → H1 dx = none → dx ≠ x → sp1 (.ref x :: (vs ++ [])) (upd (upd H1 dx (.own x)) x (.ins D dx [])) (fun v H2 => v = .non ∧ ∃ a dx' fs, V.ref x = .ref a ∧ H2 a = some (.ins D dx' fs) ∧ fs.lookup m = none ∧ t2 σ H2 fun vs2 H3 => sp2 (.ref x :: (vs2 ++ [])) H3 Q E) E1) : tMeth D m sp2 [] E (tMake D sp1 [] E1 t) t2 σ H Q := by
  unfold tMeth tMake
  have h : ∀ x : Addr, (fun (v : V) (H2 : Hp) => v = V.non ∧ ∃ a dx' fs, V.ref x = .ref a ∧ H2 a = some (HO.ins D dx' fs) ∧ fs.lookup m = none ∧ t2 σ H2 fun vs2 H3 => sp2 (.ref x :: (vs2 ++ [])) H3 Q E) = (fun (v : V) (H2 : Hp) => v = V.non ∧ ∃ a dx' fs, V.ref x = .ref a ∧ H2 a = some (HO.ins D dx' fs) ∧ fs.lookup m = none ∧ t2 σ H2 fun vs2 H3 => sp2 (V.ref x :: (vs2 ++ [])) H3 Q E) := fun x => rfl
  exact q
def spGreat (K : PySem.W.Frag) : Sp := fun vs H Q _ => ∃ (v : V) (k : Nat) (p : Pt), vs = [v] ∧ PtAt K H k v p ∧ szT p ≤ 10000 ∧ ∀ H', Same H H' → Q (.bl (decide (60 < szT p ∨ 12 < dpT p))) H'
def spMeasE (K : PySem.W.Frag) (BZ : Addr) : Sp := fun vs H Q E => ∃ (v : V) (k : Nat) (p : Pt), vs = [v] ∧ PtAt K H k v p ∧ szT p ≤ 10000 ∧ ((60 < szT p ∨ 12 < dpT p) → BadS BZ H E) ∧ (szT p ≤ 60 ∧ dpT p ≤ 12 → ∀ H', Same H H' → Q .non H')
def spIsPat (K : PySem.W.Frag) : Sp := fun vs H Q _ => ∃ (v : V) (k : Nat) (p : Pt), vs = [v] ∧ PtAt K H k v p ∧ szT p ≤ 10000 ∧ ∀ H', Same H H' → Q (.bl (!hasK p)) H'
def spTable (K : PySem.W.Frag) (C : Addr) : Sp := fun vs H Q _ => ∃ (b : Addr) (es : List V) (ops : List Op), vs = [.ref b] ∧ H b = some (.lst es) ∧ RowsAt K H es ops ∧ OpsOk ops ∧ ∀ t H', Same H H' → TabAt K C H' t (ownL ++ ops) → Q (.ref t) H'
def spReadTE (K : PySem.W.Frag) (BS BZ : Addr) (d : Nat) : Sp := fun vs H Q E => ∃ (line : Str) (most : Int) (b : Addr) (es : List V) (ops : List Op) (zs : List Str) (o : Option Pt), vs = [.str line, .ref b, .int most] ∧ H b = some (.lst es) ∧ RowsAt K H es ops ∧ OpsOk ops ∧ TabOk (ownL ++ ops) ∧
  line.length ≤ 100000 ∧ Cut (tl line) (zs.map tl) ∧ (∀ z ∈ zs, isPc (tl z) = true) ∧ (zs.length : Int) ≤ most ∧ most ≤ 1000 ∧ mostOpen zs ≤ 12 ∧ RdO (ownL ++ ops) d zs o ∧ (o = none → BadS BS H E) ∧
  ∀ p, o = some p → szT p ≤ 10000 ∧ (hasK p = true → BadS BS H E) ∧ (hasK p = false → (60 < szT p ∨ 12 < dpT p) → BadS BZ H E) ∧ (hasK p = false → szT p ≤ 60 ∧ dpT p ≤ 12 → ∀ x H', Same H H' → PtAt K H' (dpT p) x p → Q x H')
section
variable {X : Cx} {x : Str} {p pos : Pos} {e : PySem.Expr} {es : List PySem.Expr} {t : TA}
/-- a def with defaults of the text that may raise -/
structure HasKE (P : Program) (w : World) (K : PySem.W.Frag) (mg : Str → Option Value) (base : Heap) (k : Nat) (x : Str) (ps : List Str) (n : Nat) (ks : List Str) (dvs : List V) (sp : Sp) : Prop where
  ex : ∃ (f : Addr) (fd : FuncData), FnOk P w K mg base (L2N.CX P w) k f fd ps sp ∧ (∃ ds, Vals dvs ds ∧ Binds K fd ps ds) ∧ KBn K fd ps n ks (fun us ws => us ++ ws) (fun vs zs => vs ++ zs) ∧ PySem.W.keepIn K (.ref f) = true ∧ mg x = some (.ref f)
theorem pe_callHDE {k j n : Nat} {ps ks : List Str} {dvs : List V} {sp : Sp} {W : WX} (C : HasKE X.prog X.w X.K X.mg X.base k x ps n ks dvs sp) (hr : Room j X.A) (tk : L2N.Takes X W) (ha : PA X (e :: es) t) (hk : k ≤ j := by decide) (hg : Gl X x := by rfl) (hdb : (x == ("__debug__" : Str)) = false := by decide)
    (he : starEach (e :: es) X.env = (false, eval e X.env) :: starEach es X.env := by rfl) (hpl : (backTo pos (starEach es X.env)).any (·.1) = false := by rfl) :
    PE X (.Call (.Name x p) (e :: es) [] pos) (tCallSD sp dvs (WE W) t) := by
  obtain ⟨f, fd, F, ⟨ds, hv, b⟩, _, kp, m⟩ := C.ex
  exact pe_callSD F (hr.mono hk) hg m kp b hv (fun σ => L2N.passAt tk σ) ha hdb he hpl
theorem x_callSD {σ : L2.St} {H : Hp} {Q : VK} {sp : Sp} {dvs : List V} {E : L2.St → XK} {t : TA} (q : t σ H fun vs H1 => sp (vs ++ dvs) H1 Q (E σ)) : tCallSD sp dvs E t σ H Q := q
end
section
variable {P : Program} {w : World} {K : PySem.W.Frag} {mg : Str → Option Value} {base : Heap} {f C D BS BZ fp ff fl fb : Addr} {fd fdp fdf fdl fdb : FuncData}
def HasWholeE (D C BS : Addr) (d : Nat) (P : Program) (w : World) (K : PySem.W.Frag) (mg : Str → Option Value) (base : Heap) : Prop := MetE P w K mg base (4 * d + 5) D "whole" (spWholeE K D C BS d)
def HasRdInit (D C : Addr) (P : Program) (w : World) (K : PySem.W.Frag) (mg : Str → Option Value) (base : Heap) : Prop := C8.Mak P w K mg base 1 "Reading" D (spRdInit K D C) []
def HasReadPE (C BS : Addr) (d : Nat) (P : Program) (w : World) (K : PySem.W.Frag) (mg : Str → Option Value) (base : Heap) : Prop := HasEN P w K mg base (4 * d + 6) "read_pieces" ["pieces", "table"] (spReadPE K C BS d)
def HasSize (P : Program) (w : World) (K : PySem.W.Frag) (mg : Str → Option Value) (base : Heap) : Prop := Has P w K mg base 1 "size_of" ["pattern"] (spSize K)
def HasDepthOf (P : Program) (w : World) (K : PySem.W.Frag) (mg : Str → Option Value) (base : Heap) : Prop := Has P w K mg base 1 "depth_of" ["pattern"] (spDepthOf K)
def HasGreat (P : Program) (w : World) (K : PySem.W.Frag) (mg : Str → Option Value) (base : Heap) : Prop := Has P w K mg base 2 "is_great" ["pattern"] (spGreat K)
def HasMeasE (BZ : Addr) (P : Program) (w : World) (K : PySem.W.Frag) (mg : Str → Option Value) (base : Heap) : Prop := HasEN P w K mg base 4 "_measure" ["reading"] (spMeasE K BZ)
def HasIsPat (P : Program) (w : World) (K : PySem.W.Frag) (mg : Str → Option Value) (base : Heap) : Prop := Has P w K mg base 2 "is_pattern" ["reading"] (spIsPat K)
def HasTable (C : Addr) (P : Program) (w : World) (K : PySem.W.Frag) (mg : Str → Option Value) (base : Heap) : Prop := Has P w K mg base 3 "_table_of" ["operators"] (spTable K C)
def HasPieces (P : Program) (w : World) (K : PySem.W.Frag) (mg : Str → Option Value) (base : Heap) : Prop := HasK P w K mg base 3 "pieces_of" ["line", "most"] 1 ["most"] [.int 200] (spPieces K)
def HasReadTE (BS BZ : Addr) (d : Nat) (P : Program) (w : World) (K : PySem.W.Frag) (mg : Str → Option Value) (base : Heap) : Prop := HasKE P w K mg base (4 * d + 7) "read_term" ["line", "operators", "most"] 2 ["most"] [.int 200] (spReadTE K BS BZ d)
theorem parts_allE (T : Txt mg) (RC : ReC K D) (TC : TabC K C) (E_BadShape : HasErr P w K mg base "BadShape" "line" BS) (M_Reading_take : HasTakeE D C BS P w K mg base) (M_Reading_is_next : HasNextR D C P w K mg base) (M_Reading_goes_on : HasGoes D C P w K mg base) (M_OperatorTable_right_bound : HasRB C P w K mg base) (M_OperatorTable_ahead_bound : HasAB C P w K mg base) (M_OperatorTable_has : HasHas C P w K mg base)
    (C_is_unknown : HasUnknown P w K mg base) (C_is_word : HasIsWord P w K mg base) (C_is_kept : HasIsKept P w K mg base)
    (Fp : Fun K "part" "Reading.part" s_Reading_part fp fdp) (mp : Meth K D "part" fp) (bp : Binds K fdp ["self", "most"] [])
    (Ff : Fun K "first_part" "Reading.first_part" s_Reading_first_part ff fdf) (mf : Meth K D "first_part" ff) (bf : Binds K fdf ["self", "most"] [])
    (Fl : Fun K "plain_part" "Reading.plain_part" s_Reading_plain_part fl fdl) (ml : Meth K D "plain_part" fl) (bl : Binds K fdl ["self", "piece"] [])
    (Fb : Fun K "parts_in_brackets" "Reading.parts_in_brackets" s_Reading_parts_in_brackets fb fdb) (mb : Meth K D "parts_in_brackets" fb) (bb : Binds K fdb ["self"] []) : ∀ d, HasPartE D C BS d P w K mg base
  | 0 => ⟨fp, fdp, _, RC.cl, mp, ⟨(fun vs H Q E h => by
      obtain ⟨r, pl, zs, R, n, most, res, rfl, _, _, _, _, h, _⟩ := h
      cases h), (fun A outer s H args us vs Q E _ _ _ _ h => by
      obtain ⟨r, pl, zs, R, n, most, res, rfl, _, _, _, _, h, _⟩ := h
      cases h)⟩, bp⟩
  | d + 1 => by
    have M_Reading_part := parts_allE T RC TC E_BadShape M_Reading_take M_Reading_is_next M_Reading_goes_on M_OperatorTable_right_bound M_OperatorTable_ahead_bound M_OperatorTable_has C_is_unknown C_is_word C_is_kept Fp mp bp Ff mf bf Fl ml bl Fb mb bb d
    have M1 : HasBrE D C BS d P w K mg base := ⟨fb, fdb, _, RC.cl, mb, ok_brE Fb T RC E_BadShape M_Reading_take M_Reading_part, bb⟩
    have M2 : HasPlainE D C BS d P w K mg base := ⟨fl, fdl, _, RC.cl, ml, ok_plainE Fl T RC TC E_BadShape C_is_unknown C_is_word C_is_kept M_OperatorTable_has M_Reading_is_next M1, bl⟩
    have M3 : HasFirstE D C BS d P w K mg base := ⟨ff, fdf, _, RC.cl, mf, ok_firstE Ff T RC TC E_BadShape M_Reading_take M_OperatorTable_ahead_bound M2 M_Reading_part, bf⟩
    exact ⟨fp, fdp, _, RC.cl, mp, ok_partE Fp T RC TC M_Reading_take M_Reading_goes_on M_OperatorTable_right_bound M3 M_Reading_part, bp⟩
theorem ok_wholeE {d : Nat} (F : Fun K "whole" "Reading.whole" s_Reading_whole f fd) (T : Txt mg) (RC : ReC K D) (E_BadShape : HasErr P w K mg base "BadShape" "line" BS) (M_Reading_part : HasPartE D C BS d P w K mg base) : FnOk P w K mg base (L2N.CX P w) (4 * d + 5) f fd ["self"] (spWholeE K D C BS d) := by
  refine F.okN sc_Reading_whole (fun vs H Q E h => ?_) (fun cdv A outer s H vs Q E hr h => ?_)
  · obtain ⟨r, pl, zs, R, o, rfl, _⟩ := h
    rfl
  obtain ⟨r, pl, zs, R, o, rfl, rd, hl, tok, ⟨res, hp, ho⟩, bad, q⟩ := h
  obtain ⟨dx0, tb, h1, h2, h3⟩ := id rd
  refine ⟨_, (pss_cons (ps_asg (pe_mtE M_Reading_part hr (by omega) (L2N.takes_of rfl rfl rfl rfl) (pv 0) (pa_cons (pe_globI rfl T.c_LEVELS) pa_nil)) (pg_tup (by rfl) (pgs_cons (pg_name (i := 1) sc_Reading_whole.nd rfl (.inl rfl)) (pgs_cons (pg_name (i := 2) sc_Reading_whole.nd rfl (.inl rfl)) pgs_nil))))
    (pss_cons (ps_if (pt_cmpR op_lt (pe_fld (pv 0) rfl) (pe_callB (call_lenK (K := K)) (by rfl) T.z_len (by decide +kernel) (pa_cons (pe_fld (pv 0) rfl) pa_nil)) (nomark _))
      (pss_one (ps_raiseEN E_BadShape rfl (L2N.takes_of rfl rfl rfl rfl) hr (pa_cons pe_int pa_nil) (hk := by omega)))
      pss_nil)
    (pss_one (ps_ret (pv 1))))), ?_⟩
  walk_at "sx"
  refine x_mt rfl h1 (fr_no pl tb _ (by decide +kernel) (by decide +kernel) (by decide +kernel)) ?_
  walk_at "sx"
  refine ⟨r, pl, zs, R, 0, 9, res, rfl, rd, hl, tok, Nat.zero_le _, hp, fun e => bad ?_, fun p l n1 e t x G hge hle rdG krG st px => ?_⟩
  · rcases ho with ⟨h, _⟩ | ⟨p, l, _, h⟩
    · exact h
    · rw [e] at h
      cases h
  obtain ⟨dx, tb2, g0, g1, g2⟩ := id rdG
  walk_at "sx"
  refine x_fR RC.cl RC.nA rfl g0 (fr_at pl tb2 _) ?_
  walk_at "sx"
  refine x_fR RC.cl RC.nP rfl g0 (fr_pl pl tb2 _) ?_
  walk_at "sx"
  refine x_ite (fun c => ?_) (fun c => ?_)
  · have c' : (n1 : Int) < (((zs.map V.str).length : Nat) : Int) := c
    rw [List.length_map] at c'
    walk_at "sx"
    refine x_mkE (n := 0) (by decide) fun dd hd => ((bad ?_).kr krG).done hd
    rcases ho with ⟨h, _⟩ | ⟨p', l', _, h⟩
    · exact h
    · rw [e] at h
      cases h
      omega
  · have c' : ¬ (n1 : Int) < (((zs.map V.str).length : Nat) : Int) := c
    rw [List.length_map] at c'
    have en : n1 = zs.length := by omega
    subst en
    walk_at "sx"
    refine q p ?_ x G krG px
    rcases ho with ⟨_, h⟩ | ⟨p', l', h, h2⟩
    · exact absurd e (h p l)
    · rw [e] at h2
      cases h2
      exact h
theorem ok_rd_init (F : Fun K "__init__" "Reading.__init__" s_Reading_init f fd) (RC : ReC K D) (hne : C ≠ D) : FnOk P w K mg base CX0 1 f fd ["self", "pieces", "table"] (spRdInit K D C) := by
  refine F.ok sc_Reading_init (fun vs H Q E h => ?_) (fun cdv A outer s H vs Q E hr h => ?_)
  · obtain ⟨r, pl, tb, dx, zs, R, rfl, _⟩ := h
    rfl
  obtain ⟨r, pl, tb, dx, zs, R, rfl, h1, h2, h3, q⟩ := h
  refine ⟨_, (pss_cons (ps_fld (pv 0) (pv 1) rfl)
    (pss_cons (ps_fld (pv 0) (pv 2) rfl)
    (pss_one (ps_fld (pv 0) pe_int rfl)))), ?_⟩
  walk_at "sx"
  refine ⟨.ref pl, rfl, .ref r, rfl, r, D, dx, [], rfl, h1, RC.cl, RC.nP, (by show 0 < 1000; decide), ?_⟩
  refine ⟨.ref tb, rfl, .ref r, rfl, r, D, dx, _, rfl, upd_same, RC.cl, RC.nT, (by show 1 < 1000; decide), ?_⟩
  refine ⟨.ref r, rfl, r, D, dx, _, rfl, upd_same, RC.cl, RC.nA, (by rw [putF_nil, putF_ne nat3]; show 2 < 1000; decide), ?_⟩
  have e : upd (upd (upd H r (.ins D dx (L2.putF "pieces" (.ref pl) []))) r (.ins D dx (L2.putF "table" (.ref tb) (L2.putF "pieces" (.ref pl) [])))) r (.ins D dx (L2.putF "at" (.int 0) (L2.putF "table" (.ref tb) (L2.putF "pieces" (.ref pl) [])))) = upd H r (.ins D dx (fldsR pl tb 0)) := by
    rw [upd_upd, upd_upd]
    rfl
  have kr : Kr r H (upd H r (.ins D dx (fldsR pl tb 0))) := fun c o e hc => by rw [upd_ne hc]; exact e
  have npl : pl ≠ r := ne_of h2 h1 (by intro z; cases z)
  have tb2 : TabAt K C (upd H r (.ins D dx (fldsR pl tb 0))) tb R := by
    obtain ⟨dx2, b, h, kb, ka, g1, g2, g3, g4⟩ := h3
    have n1 : tb ≠ r := fun z => by
      rw [z, h1] at g1
      have := HO.ins.inj (Option.some.inj g1)
      exact hne this.1.symm
    exact ⟨dx2, b, h, kb, ka, kr _ _ g1 n1, kr _ _ g2 (ne_of g2 h1 (by intro z; cases z)), kr _ _ g3 (ne_of g3 h1 (by intro z; cases z)), g4.mono fun _ _ z => kr.sqT h1 z⟩
  have qq : Q .non (upd H r (.ins D dx (fldsR pl tb 0))) := q _ ⟨dx, tb, upd_same, kr _ _ h2 npl, tb2⟩ kr
  rw [← e] at qq
  exact qq
theorem ok_read_piecesE {d : Nat} (F : Fun K "read_pieces" "read_pieces" s_read_pieces f fd) (M_Reading_whole : HasWholeE D C BS d P w K mg base) (MK_Reading : HasRdInit D C P w K mg base) : FnOk P w K mg base (L2N.CX P w) (4 * d + 6) f fd ["pieces", "table"] (spReadPE K C BS d) := by
  refine F.okN sc_read_pieces (fun vs H Q E h => ?_) (fun cdv A outer s H vs Q E hr h => ?_)
  · obtain ⟨pl, tb, zs, R, o, rfl, _⟩ := h
    rfl
  obtain ⟨pl, tb, zs, R, o, rfl, h1, h2, hl, tok, hp, bad, q⟩ := h
  refine ⟨_, (pss_one (ps_ret (pe_mt0E M_Reading_whole hr (by omega) (L2N.takes_of rfl rfl rfl rfl) (C8.pe_mk MK_Reading hr (by omega) rfl (pa_cons (pv 0) (pa_cons (pv 1) pa_nil)))))), ?_⟩
  refine x_mtMk ?_
  walk_at "sx"
  intro r dx nr ndx nex
  have s1 : Same H (upd (upd H dx (.own r)) r (.ins D dx [])) := fun c o e => by
    rw [upd_ne (ne_of_none e nr), upd_ne (ne_of_none e ndx)]
    exact e
  refine ⟨r, pl, tb, dx, zs, R, rfl, upd_same, s1 _ _ h1, h2.same s1, fun H' rd kr => ⟨rfl, ?_⟩⟩
  obtain ⟨dx', tb', g0, g1, g2⟩ := id rd
  have s2 : Same H H' := fun c o e => kr c o (s1 c o e) (ne_of_none e nr)
  refine ⟨r, dx', _, rfl, g0, fr_no pl tb' _ (by decide +kernel) (by decide +kernel) (by decide +kernel), ?_⟩
  walk_at "sx"
  refine ⟨r, pl, zs, R, o, rfl, rd, hl, tok, hp, fun e dd G kG hd => bad e dd G (fun c o e => kG c o (s2 c o e) (ne_of_none e nr)) hd, fun p e x G krG px => q p e x G (fun c o e => krG c o (s2 c o e) (ne_of_none e nr)) px⟩
theorem ok_is_great (F : Fun K "is_great" "is_great" s_is_great f fd) (T : Txt mg) (C_size_of : HasSize P w K mg base) (C_depth_of : HasDepthOf P w K mg base) : FnOk P w K mg base CX0 2 f fd ["pattern"] (spGreat K) := by
  refine F.ok sc_is_great (fun vs H Q E h => ?_) (fun cdv A outer s H vs Q E hr h => ?_)
  · obtain ⟨v, k, p, rfl, _⟩ := h
    rfl
  obtain ⟨v, k, p, rfl, hp, h1, q⟩ := h
  refine ⟨_, (pss_one (ps_ret (pe_or (pe_cmpR op_gt (pe_callH C_size_of hr (pa_cons (pv 0) pa_nil) (hk := by omega)) (pe_globI rfl T.c_SIZE) (nomark _)) (pe_one (pe_cmpR op_gt (pe_callH C_depth_of hr (pa_cons (pv 0) pa_nil) (hk := by omega)) (pe_globI rfl T.c_DEEP) (nomark _)))))), ?_⟩
  walk_at "sx"
  refine ⟨v, k, p, rfl, hp, by omega, fun G s1 => ?_⟩
  walk_at "sx"
  refine x_ite (fun c => ?_) (fun c => ?_)
  · have c' : (60 : Int) < (szT p : Int) := c
    walk_at "sx"
    rw [decide_eq_true (show 60 < szT p ∨ 12 < dpT p from .inl (by omega))] at q
    exact q _ s1
  have c' : ¬ (60 : Int) < (szT p : Int) := c
  walk_at "sx"
  refine ⟨v, k, p, rfl, hp.same s1, by omega, fun G2 s2 => ?_⟩
  walk_at "sx"
  have e : decide ((12 : Int) < (dpT p : Int)) = decide (60 < szT p ∨ 12 < dpT p) := by
    rw [decide_eq_decide]
    omega
  rw [e]
  exact q _ (s1.trans s2)
theorem ok_measE (F : Fun K "_measure" "_measure" s_measure f fd) (C_is_great : HasGreat P w K mg base) (E_BadSize : HasErr P w K mg base "BadSize" "line" BZ) : FnOk P w K mg base (L2N.CX P w) 4 f fd ["reading"] (spMeasE K BZ) := by
  refine F.okN sc_measure (fun vs H Q E h => ?_) (fun cdv A outer s H vs Q E hr h => ?_)
  · obtain ⟨v, k, p, rfl, _⟩ := h
    rfl
  obtain ⟨v, k, p, rfl, hp, h1, bad, q⟩ := h
  refine ⟨_, (pss_one (ps_if (pt_val (pe_callH C_is_great hr (pa_cons (pv 0) pa_nil) (hk := by omega)))
      (pss_one (ps_raiseEN E_BadSize rfl (L2N.takes_of rfl rfl rfl rfl) hr (pa_cons pe_int pa_nil) (hk := by omega)))
      pss_nil)), ?_⟩
  walk_at "sx"
  refine ⟨v, k, p, rfl, hp, h1, fun G s1 => ?_⟩
  walk_at "sx"
  refine x_ite (fun c => ?_) (fun c => ?_)
  · walk_at "sx"
    exact x_mkE (n := 0) (by decide) fun dd hd => ((bad c).same s1).done hd
  · walk_at "sx"
    exact q (by omega) _ s1
theorem ok_table_of (F : Fun K "_table_of" "_table_of" s_table_of f fd) (T : Txt mg) (C_own : HasOwn P w K mg base) (MK_OperatorTable : HasTab C P w K mg base) : FnOk P w K mg base CX0 3 f fd ["operators"] (spTable K C) := by
  refine F.ok sc_table_of (fun vs H Q E h => ?_) (fun cdv A outer s H vs Q E hr h => ?_)
  · obtain ⟨b, es, ops, rfl, _⟩ := h
    rfl
  obtain ⟨b, es, ops, rfl, hb, hro, oko, q⟩ := h
  refine ⟨_, (pss_one (ps_ret (C8.pe_mk MK_OperatorTable hr (by omega) rfl (pa_cons (pe_op op_cat (pe_callH0 C_own hr (hk := by omega)) (pv 0)) pa_nil)))), ?_⟩
  walk_at "sx"
  refine ⟨rfl, fun o ws G no ho sG rw1 => ?_⟩
  have b1 := sG _ _ hb
  have r1 := hro.same sG
  have hws : ws.length = 16 := rw1.1
  have hes : es.length = ops.length := hro.1
  have l7 := oko.len
  walk_at "sx"
  refine x_cat ho b1 (sz (by omega)) fun u2 nu => ?_
  walk_at "sx"
  intro t dx nt ndx nex
  have s1 : Same G (upd G u2 (.lst (ws ++ es))) := same_upd nu
  have s2 : Same (upd G u2 (.lst (ws ++ es))) (upd (upd (upd G u2 (.lst (ws ++ es))) dx (.own t)) t (.ins C dx [])) := fun c o e => by
    rw [upd_ne (ne_of_none e nt), upd_ne (ne_of_none e ndx)]
    exact e
  refine ⟨t, u2, dx, ws ++ es, ownL ++ ops, rfl, upd_same, s2 _ _ upd_same, ((rw1.append r1).same s1).same s2, by rw [List.length_append]; show 16 + ops.length ≤ 100; omega, oko.nd, fun H' tb kp => ⟨rfl, ?_⟩⟩
  have s3 : Same (upd G u2 (.lst (ws ++ es))) H' := fun c o e => kp c o (s2 c o e) (ne_of_none e nt)
  exact q t H' ((sG.trans s1).trans s3) tb
theorem ok_is_pattern (F : Fun K "is_pattern" "is_pattern" s_is_pattern f fd) (T : Txt mg) (C_is_kept : HasIsKept P w K mg base) : FnOk P w K mg base CX0 2 f fd ["reading"] (spIsPat K) := by
  refine F.ok sc_is_pattern (fun vs H Q E h => ?_) (fun cdv A outer s H vs Q E hr h => ?_)
  · obtain ⟨v, k, p, rfl, _⟩ := h
    rfl
  obtain ⟨v, k, p, rfl, hp, hs, q⟩ := h
  refine ⟨_, (pss_cons (ps_set (i := 1) sc_is_pattern.nd rfl (Or.inl rfl) (pe_lst (pa_cons (pv 0) pa_nil)))
    (pss_cons (ps_while PassesOwn.never (pt_truthK (K := K) (pv 1) (by intro _; rfl))
      (pss_cons (ps_set (i := 2) sc_is_pattern.nd rfl (Or.inl rfl) (pe_bm0 PySem.F.plainAttrs_list PySem.F.slot_list_pop PySem.F.type_list_pop mt_pop (pv 1)))
    (pss_one (ps_if (pt_val (pe_callB (call_isiKK (K := K)) (by rfl) T.z_isinstance (by decide +kernel) (pa_cons (pv 2) (pa_cons (pe_bltn (v := .ty "tuple") (by rfl) T.z_tuple (by decide +kernel) rfl) pa_nil))))
      (pss_cons (ps_if (pt_val (pe_callH C_is_kept hr (pa_cons (pe_ix (ix_tupK (K := K)) (pv 2) pe_int (fun _ _ => rfl)) pa_nil)))
      (pss_one (ps_ret pe_bl))
      pss_nil)
    (pss_one (ps_expr (pe_bm PySem.F.plainAttrs_list PySem.F.slot_list_extend PySem.F.type_list_extend mt_extX (pv 1) (pa_cons (pe_slice (sl_tupX (K := K)) (pv 2) (po_some pe_int) po_none) pa_nil)))))
      pss_nil))))
    (pss_one (ps_ret pe_bl)))), ?_⟩
  walk_at "sx"
  rename_i w1 nw
  refine x_while (fun m σ' G => ∃ (vs : List V) (ps : List Pt) (x : Option V), σ' = [some v, some (.ref w1), x] ∧ G w1 = some (.lst vs) ∧ PtsAt K G k vs ps ∧ hasKL ps = hasK p ∧ szL ps ≤ szT p ∧ m = szL ps ∧ Same H G) (szL [p]) ?_ ?_
  · exact ⟨[v], [p], none, rfl, upd_same, .one (hp.same (same_upd nw)), by simp [hasKL], by simp [szL], rfl, same_upd nw⟩
  · rintro m σ' G ⟨vs, ps, x, rfl, hw, hps, hokp, hm, rfl, sG⟩
    have ll := hps.1
    have l2 := szL_len ps
    walk_at "sx"
    refine ⟨!vs.isEmpty, .inl ⟨vs, .of hw, rfl⟩, x_iteB (fun c => ?_) (fun c => ?_)⟩
    · have hn : 0 < vs.length := by
        cases vs with
        | nil => cases c
        | cons a r => exact Nat.succ_pos _
      have hy : vs[vs.length - 1]? = some (vs[vs.length - 1]'(by omega)) := List.getElem?_eq_getElem _
      obtain ⟨u, hu, pu⟩ := hps.at hy
      rw [ll] at hu
      have hs1 := last_szL hu
      have hs2 := szT_pos u
      rw [hasKL_last hu] at hokp
      refine ⟨fun σ' G => ∃ (vs' : List V) (ps' : List Pt) (x : Option V), σ' = [some v, some (.ref w1), x] ∧ G w1 = some (.lst vs') ∧ PtsAt K G k vs' ps' ∧ hasKL ps' = hasK p ∧ szL ps' < szL ps ∧ Same H G, ?_, ?_⟩
      · rintro σ' G' ⟨vs', ps', x', e1, e2, e3, e4, e5, e6⟩
        exact ⟨_, e5, vs', ps', x', e1, e2, e3, e4, by omega, rfl, e6⟩
      walk_at "sx"
      refine ⟨w1, vs, _, rfl, rfl, hw, hy, ?_⟩
      walk_at "sx"
      have hw2 : upd G w1 (.lst vs.dropLast) w1 = some (.lst vs.dropLast) := upd_same
      have pu2 := pu.lst (o := .lst vs.dropLast) hw
      have hps2 := hps.dropLast.lst (o := .lst vs.dropLast) hw
      have sG2 : Same H (upd G w1 (.lst vs.dropLast)) := same_updf sG nw
      generalize upd G w1 (.lst vs.dropLast) = G2 at *
      generalize vs[vs.length - 1]'(by omega) = y at *
      rcases pu2.three with ⟨n, rfl, rfl⟩ | ⟨z, rfl, rfl⟩ | ⟨j, nm, qs, a, us, rfl, rfl, rfl, sa, pq⟩
      · rw [hasK, Bool.or_false] at hokp
        refine x_isT (t := .type "int") (c := false) (.base (.int n)) (kit_ty (by decide +kernel)) ?_
        walk_at "sx"
        exact ⟨_, _, _, rfl, hw2, hps2, hokp, by omega, sG2⟩
      · rw [hasK, Bool.or_false] at hokp
        refine x_isT (t := .type "str") (c := false) (.base (.str z)) (kit_ty (by decide +kernel)) ?_
        walk_at "sx"
        exact ⟨_, _, _, rfl, hw2, hps2, hokp, by omega, sG2⟩
      · refine x_isT (t := .type "tuple") (c := true) (ty_tup sa) (kit_ty (by decide +kernel)) ?_
        walk_at "sx"
        refine ⟨nm, rfl, ?_⟩
        rw [hasK] at hokp
        by_cases ck : nm ∈ keptL
        · rw [decide_eq_true ck]
          rw [decide_eq_true ck, Bool.true_or, Bool.or_true] at hokp
          walk_at "sx"
          rw [← hokp] at q
          exact q _ sG2
        rw [decide_eq_false ck]
        rw [decide_eq_false ck, Bool.false_or] at hokp
        walk_at "sx"
        rw [szT] at hs1
        have lq := szL_len qs
        have lu := pq.1
        have ld := hps2.1
        have ld2 := szL_len ps.dropLast
        refine ⟨a, _, rfl, sa, cut_tail_ne _ _, fun b nb => ?_⟩
        rw [cut_tail]
        walk_at "sx"
        refine ⟨w1, b, vs.dropLast, us, rfl, rfl, by walk_at "hx", upd_same, sz (by omega), ?_⟩
        walk_at "sx"
        have kb : Same G2 (upd G2 b (txO b us)) := same_upd nb
        refine ⟨vs.dropLast ++ us, ps.dropLast ++ qs, _, rfl, upd_same, ?_, by rw [hasKL_append]; exact hokp, by rw [szL_append]; omega, same_updf (sG2.trans kb) nw⟩
        exact ((hps2.same kb).append ((pq.up (Nat.le_succ _)).same kb)).lst (ys := vs.dropLast) (by walk_at "hx")
    · have e0 : ps = [] := by
        cases vs with
        | nil => exact List.eq_nil_of_length_eq_zero (by rw [← ll]; rfl)
        | cons a r => cases c
      subst e0
      walk_at "sx"
      have hk : hasK p = false := by rw [← hokp]; rfl
      rw [hk] at q
      exact q _ sG
theorem ok_read_termE {d : Nat} {kws : List (Str × V)} (F : FunD K "read_term" "read_term" (defArgs s_read_term) (defBody s_read_term) (defScope s_read_term) [] kws f fd) (T : Txt mg) (E_BadShape : HasErr P w K mg base "BadShape" "line" BS) (C_pieces_of : HasPieces P w K mg base) (C_read_pieces : HasReadPE C BS d P w K mg base) (C_table_of : HasTable C P w K mg base) (C_is_pattern : HasIsPat P w K mg base) (C_measure : HasMeasE BZ P w K mg base) : FnOk P w K mg base (L2N.CX P w) (4 * d + 7) f fd ["line", "operators", "most"] (spReadTE K BS BZ d) := by
  refine F.ok sc_read_term (fun vs H Q E h => ?_) (fun cdv A outer s H vs Q E hr h => ?_)
  · obtain ⟨line, most, b, es, ops, zs, o, rfl, _⟩ := h
    rfl
  obtain ⟨line, most, b, es, ops, zs, o, rfl, hb, hro, oko, tok, hl, hcut, hpc, hm, hm2, ho, hrd, bad, q⟩ := h
  refine ⟨_, (pss_cons (ps_set (i := 3) sc_read_term.nd rfl (Or.inl rfl) (pe_callHK C_pieces_of hr (pa_cons (pv 0) pa_nil) (pk_cons (pv 2) pk_nil) (hk := by omega)))
    (pss_cons (ps_set (i := 4) sc_read_term.nd rfl (Or.inl rfl) (pe_callEN C_read_pieces hr (L2N.takes_of rfl rfl rfl rfl) (pa_cons (pv 3) (pa_cons (pe_callH C_table_of hr (pa_cons (pv 1) pa_nil) (hk := by omega)) pa_nil)) (hk := by omega)))
    (pss_cons (ps_if (pt_not (pt_val (pe_callH C_is_pattern hr (pa_cons (pv 4) pa_nil) (hk := by omega))))
      (pss_one (ps_raiseEN E_BadShape rfl (L2N.takes_of rfl rfl rfl rfl) hr (pa_cons pe_int pa_nil) (hk := by omega)))
      pss_nil)
    (pss_cons (ps_expr (pe_callEN C_measure hr (L2N.takes_of rfl rfl rfl rfl) (pa_cons (pv 4) pa_nil) (hk := by omega)))
    (pss_one (ps_ret (pv 4))))))), ?_⟩
  walk_at "sx"
  refine ⟨rfl, rfl, line, most, zs, rfl, hl, hcut, hpc, hm, ho, fun pl H1 npl s1 epl => ?_⟩
  walk_at "sx"
  refine ⟨b, es, ops, rfl, s1 _ _ hb, hro.same s1, oko, fun t H2 s2 tb => ?_⟩
  have s12 := s1.trans s2
  walk_at "sx"
  refine ⟨pl, t, zs, ownL ++ ops, o, rfl, s2 _ _ epl, tb, by omega, tok, hrd, fun e => (bad e).same s12, fun p e x H3 s3 px => ?_⟩
  obtain ⟨h1, h2, h3, h4⟩ := q p e
  have s13 := s12.trans s3
  walk_at "sx"
  refine ⟨x, _, p, rfl, px, h1, fun H4 s4 => ?_⟩
  have s14 := s13.trans s4
  cases hk : hasK p with
  | true =>
    walk_at "sx"
    exact x_mkE (n := 0) (by decide) fun dd hd => ((h2 hk).same s14).done hd
  | false =>
    walk_at "sx"
    refine ⟨x, _, p, rfl, px.same s4, h1, fun e => (h3 hk e).same s14, fun e H5 s5 => ?_⟩
    walk_at "sx"
    exact h4 hk e x H5 (s14.trans s5) ((px.same s4).same s5)
end
end Gs
namespace Gs
open PySem PySem.Spec PyProof.Rows L2
section
variable {CX : Cx} {X : Cx} {k n : Nat} {f : Addr} {fd : FuncData} {ps ks : List Str} {sp : Sp} {E : L2.St → XK} {g : List Value → List Value → List Value} {gV : List V → List V → List V} {x : Str} {p pos : Pos} {e : PySem.Expr} {es : List PySem.Expr} {t tk : TA} {kws : List Keyword}
/-- a call with keywords of a def that may raise -/
def tCallNS (n m : Nat) (sp : Sp) (g : List V → List V → List V) (E : L2.St → XK) (t tk : TA) : TE := fun σ H Q => t σ H fun vs H1 => tk σ H1 fun zs H2 => vs.length = n ∧ zs.length = m ∧ sp (g vs zs) H2 Q (E σ)
theorem run_fnNS {pins : List (Addr × Obj)} {σ : L2.St} {H : Hp} {s : Shared} {Q : VK} {us ws : List Value} {vs zs : List V} (F : FnOk X.prog X.w X.K X.mg X.base (L2N.CX X.prog X.w) k f fd ps sp) (hr : Room k X.A) (hb : KBn X.K fd ps n ks g gV) (hx : PassesAt (L2N.CX X.prog X.w) X σ (E σ))
    (I : Inv X pins σ H s) (r : Vals vs us) (rz : Vals zs ws) (l1 : vs.length = n) (l2 : zs.length = ks.length) (h : sp (gV vs zs) H Q (E σ)) : wpAny (model X.prog X.w) X.A (call (.ref f) us (ks.zip ws)) (EP X pins σ Q) X.xe s := by
  have r2 := hb.rel r rz
  refine wpAny_call (codeAny_mono (F.run X.A X.stack s H ⟨us, ks.zip ws⟩ (g us ws) (gV vs zs) Q (E σ) hr I.env0 (hb.to s us ws I.kIn (r.length.symm.trans l1) (rz.length.symm.trans l2)) r2 h) fun r s' hq => ?_)
  cases r with
  | error e => exact hx pins H s e s' I hq
  | ok fl =>
    cases fl with
    | ret u => exact I.after hq
    | next => exact False.elim hq
    | brk => exact False.elim hq
    | cont => exact False.elim hq
theorem pe_callNS (F : FnOk X.prog X.w X.K X.mg X.base (L2N.CX X.prog X.w) k f fd ps sp) (hr : Room k X.A) (hg : Gl X x) (hm : X.mg x = some (.ref f)) (hk : PySem.W.keepIn X.K (.ref f) = true) (hb : KBn X.K fd ps n ks g gV) (hx : ∀ σ, PassesAt (L2N.CX X.prog X.w) X σ (E σ))
    (ha : PA X (e :: es) t) (hkw : L2.PK X kws tk) (hall : (backToKw pos (keywordEach kws X.env)).all (·.1.isSome) = true := by rfl) (hks : (backToKw pos (keywordEach kws X.env)).filterMap (·.1) = ks := by rfl)
    (hdb : (x == ("__debug__" : Str)) = false := by decide) (he : starEach (e :: es) X.env = (false, eval e X.env) :: starEach es X.env := by rfl)
    (hpl : ((backTo pos (starEach (e :: es) X.env)).any (·.1) || (backToKw pos (keywordEach kws X.env)).any (·.1.isNone)) = false := by rfl) :
    PE X (.Call (.Name x p) (e :: es) kws pos) (tCallNS n ks.length sp gV E t tk) := by
  refine ⟨fun pins s σ H Q I h => ?_⟩
  refine wpAny_Call_Name_kw (ld_glob I hg hm ?_ hdb)
  refine PySem.W.callWith_KW (h₀ := X.base) I.ok.mod.kin hk hall (thn (ha.run pos pins s σ H _ I h) fun us s1 ⟨vs, H1, I1, r, q⟩ => ?_) hpl he
  refine thn (hkw.run pos pins s1 σ H1 _ I1 q) fun ws s2 ⟨zs, H2, I2, rz, l1, l2, q2⟩ => ⟨I2.kIn, ?_⟩
  rw [hks]
  exact run_fnNS F hr hb (hx σ) I2 r rz l1 l2 q2
theorem pe_callHKE {j : Nat} {dvs : List V} {W : WX} (C : HasKE X.prog X.w X.K X.mg X.base k x ps n ks dvs sp) (hr : Room j X.A) (tak : L2N.Takes X W) (ha : PA X (e :: es) t) (hkw : L2.PK X kws tk) (hk : k ≤ j := by decide) (hg : Gl X x := by rfl)
    (hall : (backToKw pos (keywordEach kws X.env)).all (·.1.isSome) = true := by rfl) (hks : (backToKw pos (keywordEach kws X.env)).filterMap (·.1) = ks := by rfl)
    (hdb : (x == ("__debug__" : Str)) = false := by decide) (he : starEach (e :: es) X.env = (false, eval e X.env) :: starEach es X.env := by rfl)
    (hpl : ((backTo pos (starEach (e :: es) X.env)).any (·.1) || (backToKw pos (keywordEach kws X.env)).any (·.1.isNone)) = false := by rfl) :
    PE X (.Call (.Name x p) (e :: es) kws pos) (tCallNS n ks.length sp (fun vs zs => vs ++ zs) (WE W) t tk) := by
  obtain ⟨f, fd, F, _, b, kp, m⟩ := C.ex
  exact pe_callNS F (hr.mono hk) hg m kp b (fun σ => L2N.passAt tak σ) ha hkw hall hks hdb he hpl
theorem x_callNS {σ : L2.St} {H : Hp} {Q : VK} {m : Nat} {sp : Sp} {g : List V → List V → List V} {E : L2.St → XK} {t tk : TA} (q : t σ H fun vs H1 => tk σ H1 fun zs H2 => vs.length = n ∧ zs.length = m ∧ sp (g vs zs) H2 Q (E σ)) : tCallNS n m sp g E t tk σ H Q := q
end
end Gs
namespace Gs
open PySem PySem.Spec PyProof.Rows L2 TL
/-- the promise of pieces_of: lines of too many pieces or brackets are refused -/
def spPiecesE (K : PySem.W.Frag) (BZ : Addr) : Sp := fun vs H Q E => ∃ (line : Str) (most : Int) (zs : List Str), vs = [.str line, .int most] ∧ line.length ≤ 100000 ∧ Cut (tl line) (zs.map tl) ∧ (∀ z ∈ zs, isPc (tl z) = true) ∧ ((zs.length : Int) > most ∨ mostOpen zs > 12 → BadS BZ H E) ∧
  ((zs.length : Int) ≤ most → mostOpen zs ≤ 12 → ∀ (p : Addr) (H' : Hp), H p = none → Same H H' → H' p = some (.lst (zs.map V.str)) → Q (.ref p) H')
section
variable {P : Program} {w : World} {K : PySem.W.Frag} {mg : Str → Option Value} {base : Heap} {f BZ : Addr} {fd : FuncData}
def HasPiecesE (BZ : Addr) (P : Program) (w : World) (K : PySem.W.Frag) (mg : Str → Option Value) (base : Heap) : Prop := HasKE P w K mg base 3 "pieces_of" ["line", "most"] 1 ["most"] [.int 200] (spPiecesE K BZ)
theorem ok_pieces_ofE {kws : List (Str × V)} (F : FunD K "pieces_of" "pieces_of" (defArgs s_pieces_of) (defBody s_pieces_of) (defScope s_pieces_of) [] kws f fd) (T : Txt mg) (C_run : HasRun P w K mg base) (C_end_of_piece : HasEnd P w K mg base)
    (C_is_piece : HasIsPiece P w K mg base) (C_most_open : HasMostOpen P w K mg base) (E_BadSize : HasErr P w K mg base "BadSize" "line" BZ) : FnOk P w K mg base (L2N.CX P w) 3 f fd ["line", "most"] (spPiecesE K BZ) := by
  refine F.ok sc_pieces_of (fun vs H Q E h => ?_) (fun cdv A outer s H vs Q E hr h => ?_)
  · obtain ⟨line, most, zs, rfl, _⟩ := h
    rfl
  obtain ⟨line, most, zs, rfl, hl, hcut, hpc, bad, q⟩ := h
  refine ⟨_, (pss_cons (ps_set (i := 2) sc_pieces_of.nd rfl (Or.inl rfl) (pe_lst pa_nil))
    (pss_cons (ps_set (i := 3) sc_pieces_of.nd rfl (Or.inl rfl) (pe_callH C_run hr (pa_cons (pv 0) (pa_cons pe_int (pa_cons pe_str pa_nil)))))
    (pss_cons (ps_while (passes_of rfl) (pt_cmpR op_lt (pv 3) (pe_callB call_len_str (by rfl) T.z_len (by decide +kernel) (pa_cons (pv 0) pa_nil)) (nomark _))
      (pss_cons (ps_set (i := 4) sc_pieces_of.nd rfl (Or.inl rfl) (pe_callH C_end_of_piece hr (pa_cons (pv 0) (pa_cons (pv 3) pa_nil))))
    (pss_cons (ps_if (pt_not (pt_val (pe_callH C_is_piece hr (pa_cons (pe_slice sl_str (pv 0) (po_some (pv 3)) (po_some (pv 4))) pa_nil))))
      (pss_one ps_never)
      pss_nil)
    (pss_cons (ps_expr (pe_bm PySem.F.plainAttrs_list PySem.F.slot_list_append PySem.F.type_list_append mt_append (pv 2) (pa_cons (pe_slice sl_str (pv 0) (po_some (pv 3)) (po_some (pv 4))) pa_nil)))
    (pss_one (ps_set (i := 3) sc_pieces_of.nd rfl (Or.inl rfl) (pe_callH C_run hr (pa_cons (pv 0) (pa_cons (pv 4) (pa_cons pe_str pa_nil))))))))))
    (pss_cons (ps_if (PW.pt (pw_or (pt_cmpR op_gt (pe_callB (call_lenK (K := K)) (by rfl) T.z_len (by decide +kernel) (pa_cons (pv 2) pa_nil)) (pv 1) (nomark _)) (pw_or1 (pt_cmpR op_gt (pe_callH C_most_open hr (pa_cons (pv 2) pa_nil)) (pe_globI rfl T.c_BRACKETS) (nomark _)))))
      (pss_one (ps_raiseEN E_BadSize rfl (L2N.takes_of rfl rfl rfl rfl) hr (pa_cons pe_int pa_nil)))
      pss_nil)
    (pss_one (ps_ret (pv 2))))))), ?_⟩
  walk_at "sx"
  rename_i a na
  have sa := same_upd (o := .lst []) na
  have e32 : tl (" " : Str) = [32] := by decide +kernel
  have hk0 : runL [32] (tl line) 0 ≤ line.length := by
    have := runL_le [32] (tl line) 0 (Nat.zero_le _)
    rw [tl_len] at this
    omega
  refine ⟨line, _, 0, rfl, Nat.zero_le _, hl, ?_⟩
  rw [e32]
  walk_at "sx"
  refine x_while (fun m σ' H' => ∃ (k : Nat) (done todo : List Str) (y : Option V), σ' = [some (.str line), some (.int most), some (.ref a), some (.int (k : Int)), y] ∧ Same H H' ∧ H' a = some (.lst (done.map V.str)) ∧ zs = done ++ todo ∧ Cut ((tl line).drop k) (todo.map tl) ∧
    (∀ r, (tl line).drop k ≠ 32 :: r) ∧ k ≤ line.length ∧ m = line.length - k) _ ⟨_, [], zs, none, rfl, sa, upd_same, rfl, ?_, ?_, ?_, rfl⟩ ?_
  · exact (run_blanks (k := 0) hcut).1
  · exact (run_blanks (k := 0) hcut).2
  · rw [Nat.zero_add]
    exact hk0
  rintro m σ' H' ⟨k, done, todo, y, rfl, sH, eH, ez, hc, hb, hk, rfl⟩
  walk_at "sx"
  refine x_lenS (sz hl) ?_
  walk_at "sx"
  refine x_ite (fun c => ?_) (fun c => ?_)
  · have hkl : k < (tl line).length := by rw [tl_len]; omega
    obtain ⟨cd, hcd⟩ : ∃ cd, (tl line)[k]? = some cd := ⟨_, List.getElem?_eq_getElem hkl⟩
    have ed : (tl line).drop k = cd :: (tl line).drop (k + 1) := by
      obtain ⟨h1, h2⟩ := List.getElem?_eq_some_iff.mp hcd
      rw [List.drop_eq_getElem_cons h1, h2]
    rw [ed] at hc hb
    have hc32 : cd ≠ 32 := fun z => hb _ (by rw [z])
    obtain ⟨t, l, z, todo', el, et, eo, ht, hs, hcut'⟩ : ∃ t l z todo', (tl line).drop (k + 1) = t ++ l ∧ tl z = cd :: t ∧ todo = z :: todo' ∧ (∀ x ∈ t, x ∈ cls cd) ∧ Stop cd l ∧ Cut l (todo'.map tl) := by
      generalize hL : cd :: (tl line).drop (k + 1) = L0 at hc
      generalize hT : todo.map tl = T0 at hc
      cases hc with
      | nil => cases hL
      | blank h => exact absurd (List.cons.inj hL).1 hc32
      | @piece c' t l ts h1 h2 h3 h4 =>
        obtain ⟨e1, e2⟩ := List.cons.inj hL
        subst e1
        cases todo with
        | nil => cases hT
        | cons z todo' =>
          obtain ⟨e3, e4⟩ := List.cons.inj hT
          subst e4
          exact ⟨t, l, z, todo', e2, e3, rfl, h2, h3, h4⟩
    subst eo
    have er : runL (cls cd) (tl line) (k + 1) = t.length := by
      unfold runL
      rw [el, run_stop ht (stop_of hs)]
    have elen : (tl line).length = k + 1 + t.length + l.length := by
      have := congrArg List.length el
      rw [List.length_drop, List.length_append] at this
      omega
    have edl : (tl line).drop (k + 1 + t.length) = l := by
      rw [← List.drop_drop, el, List.drop_left]
    rw [tl_len] at elen
    have hkz : isPc (tl z) = true := hpc z (by rw [ez]; simp)
    have ecut : cutS line (some (k : Int)) (some ((k + 1 + t.length : Nat) : Int)) = z := by
      refine ext_tl ?_
      rw [cut_mid (by omega) (by omega), et, ed, el, show k + 1 + t.length - k = t.length + 1 by omega, List.take_succ_cons, List.take_left]
    have zl : z.length = t.length + 1 := by rw [← tl_len, et, List.length_cons]
    refine ⟨fun σ2 H2 => ∃ (k2 : Nat) (y : Option V), σ2 = [some (.str line), some (.int most), some (.ref a), some (.int (k2 : Int)), y] ∧ Same H H2 ∧ H2 a = some (.lst ((done ++ [z]).map V.str)) ∧ k2 = k + 1 + t.length + runL [32] (tl line) (k + 1 + t.length), fun σ2 H2 h => ?_, ?_⟩
    · obtain ⟨k2, y2, rfl, s2, e2, rfl⟩ := h
      have rb := run_blanks (L := tl line) (k := k + 1 + t.length) (ts := todo'.map tl) (by rw [edl]; exact hcut')
      have rle := runL_le [32] (tl line) (k + 1 + t.length) (by rw [tl_len]; omega)
      rw [tl_len] at rle
      exact ⟨_, by omega, _, done ++ [z], todo', y2, rfl, s2, e2, by rw [ez, List.append_assoc]; rfl, rb.1, rb.2, rle, rfl⟩
    · walk_at "sx"
      refine ⟨line, k, cd, rfl, hl, hcd, ?_⟩
      rw [er]
      walk_at "sx"
      refine x_slS (sz hl) ?_
      rw [ecut]
      walk_at "sx"
      refine ⟨z, rfl, by omega, by omega, ?_⟩
      rw [hkz]
      walk_at "sx"
      refine x_slS (sz hl) ?_
      rw [ecut]
      walk_at "sx"
      have hdl : done.length < 100000 := by
        have h1 := hcut.len
        rw [ez, List.length_map, List.length_append, List.length_cons, tl_len] at h1
        omega
      refine x_app eH (szl (by rw [List.length_map]; exact hdl)) ?_
      walk_at "sx"
      refine ⟨line, _, k + 1 + t.length, rfl, by omega, hl, ?_⟩
      rw [e32]
      walk_at "sx"
      refine ⟨_, _, rfl, fun b o hb2 => ?_, ?_, rfl⟩
      · rw [upd_ne (ne_of_none hb2 na)]
        exact sH b o hb2
      · rw [upd_same, List.map_append]
        rfl
  · have ek : (tl line).drop k = [] := List.drop_eq_nil_of_le (by rw [tl_len]; omega)
    rw [ek] at hc
    have et : todo = [] := by
      generalize hT : todo.map tl = T0 at hc
      cases hc
      cases todo with
      | nil => rfl
      | cons z r => cases hT
    subst et
    rw [List.append_nil] at ez
    subst ez
    walk_at "sx"
    rw [List.length_map]
    refine x_ite (fun cm => ?_) (fun cm => ?_)
    · walk_at "sx"
      exact x_mkE (n := 0) (by decide) fun dd hd => ((bad (.inl cm)).same sH).done hd
    have cm' : ¬ most < (zs.length : Int) := cm
    walk_at "sx"
    refine ⟨a, zs, rfl, .of eH, ?_⟩
    walk_at "sx"
    refine x_ite (fun c12 => ?_) (fun c12 => ?_)
    · walk_at "sx"
      exact x_mkE (n := 0) (by decide) fun dd hd => ((bad (.inr c12)).same sH).done hd
    have c12' : ¬ (12 : Int) < _ := c12
    walk_at "sx"
    exact q (by omega) (by omega) a H' na sH eH
end
end Gs
namespace Gs
open PySem PySem.Spec PyProof.Rows L2 TL
/-! ### a spelling is read to what it spells -/
theorem dropc {zs : List Str} {n : Nat} {z : Str} {r : List Str} (h : zs.drop n = z :: r) : zs[n]? = some z ∧ zs.drop (n + 1) = r := by
  have e : (zs.drop n)[0]? = some z := by rw [h]; rfl
  rw [List.getElem?_drop] at e
  refine ⟨by simpa using e, ?_⟩
  have : zs.drop (n + 1) = (zs.drop n).drop 1 := by rw [List.drop_drop]
  rw [this, h]
  rfl
theorem dropa {zs : List Str} {n : Nat} {a r : List Str} (h : zs.drop n = a ++ r) : zs.drop (n + a.length) = r := by
  rw [← List.drop_drop, h, List.drop_left]
theorem TabOk.no2 {R : List Op} (t : TabOk R) : ∀ nm o, rowOf R nm 2 = some o → nm ≠ ("(" : Str) := fun nm o h z => by
  rw [z, (t.br _ (by simp)).2] at h
  cases h
theorem fo_sign {R : List Op} (t : TabOk R) {z : Str} (hz : z = (")" : Str) ∨ z = ("," : Str)) (m : Int) (r : List Str) : Fo R m (z :: r) := by
  refine ⟨fun e => ?_, fun nm o e ho => ?_⟩
  · have e' : z = ("(" : Str) := Option.some.inj e
    rcases hz with h | h
    · rw [h] at e'
      exact absurd e' (by decide +kernel)
    · rw [h] at e'
      exact absurd e' (by decide +kernel)
  · have e' : z = nm := Option.some.inj e
    rw [← e'] at ho
    rcases hz with h | h
    · rw [h, (t.br _ (by simp)).2] at ho
      cases ho
    · rw [h, (t.br _ (by simp)).2] at ho
      cases ho
theorem num_ne_br {R : List Op} {m : Int} {z : Str} (h : Num R m z) : z ≠ ("(" : Str) := by
  obtain ⟨e, _, _⟩ := h
  rw [figT] at e
  by_cases hm : m < 0
  · rw [if_pos hm] at e
    exact ne_br e (by decide)
  · rw [if_neg hm] at e
    cases en : numL m.toNat with
    | nil => exact absurd en (numL_ne _)
    | cons c t =>
      have := sD_iff.mp (numL_D m.toNat c (by rw [en]; exact List.mem_cons_self ..))
      exact ne_br (by rw [e, en]) (by omega)
theorem unk_ne_br {R : List Op} {z : Str} (h : Unk R z) : z ≠ ("(" : Str) := by
  obtain ⟨⟨c, t, e, hc⟩, _⟩ := h
  exact ne_br e (by have := sC_iff.mp hc; omega)
theorem wd_ne_br {R : List Op} {z : Str} (h : Wd R z) : z ≠ ("(" : Str) := by
  obtain ⟨⟨c, t, e, hc⟩, _⟩ := h
  exact ne_br e (by have := sS_iff.mp hc; omega)
theorem goes_rest {R : List Op} {zs : List Str} {n : Nat} {rest : List Str} {lev most : Int} (h : zs.drop n = rest) (f : Fo R most rest) : goesB R lev most zs[n]? = false := by
  have e : zs[n]? = rest.head? := by rw [← h, List.head?_drop]
  rw [e]
  cases er : rest.head? with
  | none => rfl
  | some nm =>
    cases eo : rowOf R nm 2 with
    | none => simp only [goesB, eo]
    | some o =>
      have := f.2 nm o er eo
      simp only [goesB, eo]
      rw [decide_eq_false (show ¬ o.l ≤ most by omega), Bool.and_false]
theorem goes_on {R : List Op} {lev most : Int} {nm : Str} {o : Op} (h : rowOf R nm 2 = some o) (h1 : lev ≤ lbO o) (h2 : o.l ≤ most) : goesB R lev most (some nm) = true := by
  simp only [goesB, h]
  rw [decide_eq_true h1, decide_eq_true h2]
  rfl
mutual
theorem Prim.rf {R : List Op} {zs : List Str} (tk : TabOk R) : ∀ {e : Nat} {la : Int} {a : Pt} {ta : List Str}, Prim R e la a ta → ∀ (d : Nat), e = d + 1 → ∀ (n : Nat) (most : Int) (rest : List Str), zs.drop n = ta ++ rest → la ≤ most → Fo R (la - 1) rest → RF R zs d most n (some (a, la, n + ta.length))
  | _, _, _, _, .num h, d, he, n, most, rest, hd, hm, _ => .plain (dropc hd).1 h.2.2 (num_ne_br h) (.num h)
  | _, _, _, _, .unk h, d, he, n, most, rest, hd, hm, _ => .plain (dropc hd).1 h.2.1 (unk_ne_br h) (.unk h)
  | _, _, _, _, .word h, d, he, n, most, rest, hd, hm, f => .plain (dropc hd).1 h.2.2.1 (wd_ne_br h) (.word h (by
      have e : zs.drop (n + 1) = rest := (dropc hd).2
      have : zs[n + 1]? = rest.head? := by rw [← e, List.head?_drop]
      rw [this]
      exact f.1))
  | _, _, _, _, .comp (ts := ts) h h0 h4 hl, d, he, n, most, rest, hd, hm, f => by
    cases he
    have h1 := dropc (z := _) (r := ("(" : Str) :: (ts ++ rest)) hd
    have h2 := dropc h1.2
    have := SptL.rb tk hl 0 (n + 1 + 1) rest h2.2 (by omega)
    have e : n + (2 + ts.length) = n + 1 + 1 + ts.length := by omega
    rw [List.length_cons, List.length_cons, show ts.length + 1 + 1 = 2 + ts.length by omega, e]
    exact .plain h1.1 h.2.2.1 (wd_ne_br h) (.comp h h2.1 this)
  | _, _, _, _, .ahead (ts := ts) h hs hl, d, he, n, most, rest, hd, hm, f => by
    cases he
    have h1 := dropc (r := ts ++ rest) hd
    have := Spt.rp tk hs (n + 1) _ rest h1.2 hl f
    rw [List.length_cons, show n + (ts.length + 1) = n + 1 + ts.length by omega]
    exact .ahead h1.1 h hm this
  | _, _, _, _, .paren (ts := ts) hs hl, d, he, n, most, rest, hd, hm, f => by
    cases he
    have h1 := dropc (z := ("(" : Str)) (r := ts ++ ((")" : Str) :: rest)) (by rw [hd]; simp)
    have := Spt.rp tk hs (n + 1) 9 _ h1.2 hl (fo_sign tk (.inl rfl) 9 rest)
    have h2 := dropc (dropa h1.2)
    rw [List.length_cons, List.length_append, List.length_singleton, show n + (ts.length + 1 + 1) = n + 1 + ts.length + 1 by omega]
    exact .br h1.1 this h2.1
theorem Spt.rp {R : List Op} {zs : List Str} (tk : TabOk R) : ∀ {d : Nat} {lev : Int} {p : Pt} {ts : List Str}, Spt R d lev p ts → ∀ (n : Nat) (most : Int) (rest : List Str), zs.drop n = ts ++ rest → lev ≤ most → Fo R most rest → RP R zs d most n (some (p, lev, n + ts.length))
  | _, _, _, _, .mk (ta := ta) (ts := ts) h1 h2, n, most, rest, hd, hm, f => by
    rw [List.append_assoc] at hd
    have hup := h2.up
    have e1 := Prim.rf tk h1 _ rfl n most (ts ++ rest) hd (by omega) (fo_prim h2 (f.less hm) tk.no2)
    have e2 := Stp.rl tk h2 (n + ta.length) most rest (dropa hd) hm f
    rw [List.length_append, ← Nat.add_assoc]
    exact .go e1 e2
theorem Stp.rl {R : List Op} {zs : List Str} (tk : TabOk R) : ∀ {d : Nat} {la : Int} {a : Pt} {lev : Int} {p : Pt} {ts : List Str}, Stp R d la a lev p ts → ∀ (n : Nat) (most : Int) (rest : List Str), zs.drop n = ts ++ rest → lev ≤ most → Fo R most rest → RL R zs d most la a n (some (p, lev, n + ts.length))
  | _, _, _, _, _, _, .nil, n, most, rest, hd, hm, f => .stop (goes_rest hd f)
  | _, _, _, _, _, _, .cons (tb := tb) (ts := ts) (nm := nm) h1 h2 h3 h4 h5, n, most, rest, hd, hm, f => by
    have hup := h5.up
    have e0 := dropc (z := nm) (r := tb ++ (ts ++ rest)) (by rw [hd]; simp)
    have e1 := Spt.rp tk h3 (n + 1) _ (ts ++ rest) e0.2 h4 (fo_step tk.sd h1 h5 (f.less hm) tk.no2)
    have e2 := Stp.rl tk h5 (n + 1 + tb.length) most rest (dropa e0.2) hm f
    rw [List.length_cons, List.length_append, show n + (tb.length + ts.length + 1) = n + 1 + tb.length + ts.length by omega]
    exact .step e0.1 h1 (goes_on h1 h2 (by omega)) e1 e2
theorem SptL.rb {R : List Op} {zs : List Str} (tk : TabOk R) : ∀ {d : Nat} {ps : List Pt} {us : List Str}, SptL R d ps us → ∀ (k n : Nat) (rest : List Str), zs.drop n = us ++ rest → k + ps.length ≤ 4 → RB R zs d k n (some (ps, n + us.length))
  | _, _, _, .one (ts := ts) h h9, k, n, rest, hd, hk => by
    have hd' : zs.drop n = ts ++ ((")" : Str) :: rest) := by rw [hd]; simp
    have e1 := Spt.rp tk h n 9 _ hd' h9 (fo_sign tk (.inl rfl) 9 rest)
    have e2 := dropc (dropa hd')
    rw [List.length_append, List.length_singleton, ← Nat.add_assoc]
    exact .last e1 e2.1 hk
  | _, _, _, .cons (ts := ts) (us := us) h h9 hl, k, n, rest, hd, hk => by
    have hd' : zs.drop n = ts ++ (("," : Str) :: (us ++ rest)) := by rw [hd]; simp
    have e1 := Spt.rp tk h n 9 _ hd' h9 (fo_sign tk (.inr rfl) 9 _)
    have e2 := dropc (dropa hd')
    rw [List.length_cons] at hk
    have e3 := SptL.rb tk hl (k + 1) (n + ts.length + 1) rest e2.2 (by omega)
    rw [List.length_append, List.length_cons, show n + (ts.length + (us.length + 1)) = n + ts.length + 1 + us.length by omega]
    exact .next e1 e2.1 (by omega) e3
end
theorem Spt.rdo {R : List Op} {zs : List Str} (tk : TabOk R) {d : Nat} {lev : Int} {p : Pt} (h : Spt R d lev p zs) (h9 : lev ≤ 9) : RdO R d zs (some p) := by
  have := Spt.rp (zs := zs) tk h 0 9 [] (by simp) h9 ⟨by simp, fun nm o e => by cases e⟩
  rw [Nat.zero_add] at this
  exact ⟨_, this, .inr ⟨p, lev, rfl, rfl⟩⟩
end Gs
namespace Gs
open PySem PySem.Spec PyProof.Rows L2 TL
abbrev s_is_named : Stmt := PySem.Challenge.pw_goalstead_k21_sizes_as_read.main.body.getD 65 (.Pass ⟨0, 0, 0, 0⟩)
theorem sc_is_named : FnScope ["reading", "names", "many"] ["reading", "names", "many"] (defScope s_is_named) := ⟨rfl, rfl, rfl, by decide +kernel, rfl, by decide +kernel, by decide +kernel⟩
abbrev s_parted_by_and : Stmt := PySem.Challenge.pw_goalstead_k21_sizes_as_read.main.body.getD 64 (.Pass ⟨0, 0, 0, 0⟩)
theorem sc_parted_by_and : FnScope ["reading", "parts"] ["reading"] (defScope s_parted_by_and) := ⟨rfl, rfl, rfl, by decide +kernel, rfl, by decide +kernel, by decide +kernel⟩
abbrev s_is_relation : Stmt := PySem.Challenge.pw_goalstead_k21_sizes_as_read.main.body.getD 56 (.Pass ⟨0, 0, 0, 0⟩)
theorem sc_is_relation : FnScope ["reading"] ["reading"] (defScope s_is_relation) := ⟨rfl, rfl, rfl, by decide +kernel, rfl, by decide +kernel, by decide +kernel⟩
abbrev s_is_goal : Stmt := PySem.Challenge.pw_goalstead_k21_sizes_as_read.main.body.getD 57 (.Pass ⟨0, 0, 0, 0⟩)
theorem sc_is_goal : FnScope ["reading"] ["reading"] (defScope s_is_goal) := ⟨rfl, rfl, rfl, by decide +kernel, rfl, by decide +kernel, by decide +kernel⟩
abbrev s_is_not : Stmt := PySem.Challenge.pw_goalstead_k21_sizes_as_read.main.body.getD 58 (.Pass ⟨0, 0, 0, 0⟩)
theorem sc_is_not : FnScope ["reading"] ["reading"] (defScope s_is_not) := ⟨rfl, rfl, rfl, by decide +kernel, rfl, by decide +kernel, by decide +kernel⟩
abbrev s_is_likeness : Stmt := PySem.Challenge.pw_goalstead_k21_sizes_as_read.main.body.getD 59 (.Pass ⟨0, 0, 0, 0⟩)
theorem sc_is_likeness : FnScope ["reading"] ["reading"] (defScope s_is_likeness) := ⟨rfl, rfl, rfl, by decide +kernel, rfl, by decide +kernel, by decide +kernel⟩
abbrev s_is_reckoning : Stmt := PySem.Challenge.pw_goalstead_k21_sizes_as_read.main.body.getD 60 (.Pass ⟨0, 0, 0, 0⟩)
theorem sc_is_reckoning : FnScope ["reading"] ["reading"] (defScope s_is_reckoning) := ⟨rfl, rfl, rfl, by decide +kernel, rfl, by decide +kernel, by decide +kernel⟩
abbrev s_is_test : Stmt := PySem.Challenge.pw_goalstead_k21_sizes_as_read.main.body.getD 61 (.Pass ⟨0, 0, 0, 0⟩)
theorem sc_is_test : FnScope ["reading"] ["reading"] (defScope s_is_test) := ⟨rfl, rfl, rfl, by decide +kernel, rfl, by decide +kernel, by decide +kernel⟩
abbrev s_is_field : Stmt := PySem.Challenge.pw_goalstead_k21_sizes_as_read.main.body.getD 62 (.Pass ⟨0, 0, 0, 0⟩)
theorem sc_is_field : FnScope ["reading"] ["reading"] (defScope s_is_field) := ⟨rfl, rfl, rfl, by decide +kernel, rfl, by decide +kernel, by decide +kernel⟩
abbrev s_is_sum : Stmt := PySem.Challenge.pw_goalstead_k21_sizes_as_read.main.body.getD 63 (.Pass ⟨0, 0, 0, 0⟩)
theorem sc_is_sum : FnScope ["reading"] ["reading"] (defScope s_is_sum) := ⟨rfl, rfl, rfl, by decide +kernel, rfl, by decide +kernel, by decide +kernel⟩
abbrev s_is_range : Stmt := PySem.Challenge.pw_goalstead_k21_sizes_as_read.main.body.getD 66 (.Pass ⟨0, 0, 0, 0⟩)
theorem sc_is_range : FnScope ["reading", "unknown", "span"] ["reading"] (defScope s_is_range) := ⟨rfl, rfl, rfl, by decide +kernel, rfl, by decide +kernel, by decide +kernel⟩
abbrev s_is_box : Stmt := PySem.Challenge.pw_goalstead_k21_sizes_as_read.main.body.getD 67 (.Pass ⟨0, 0, 0, 0⟩)
theorem sc_is_box : FnScope ["reading", "ranges", "part", "names", "unknown"] ["reading"] (defScope s_is_box) := ⟨rfl, rfl, rfl, by decide +kernel, rfl, by decide +kernel, by decide +kernel⟩
abbrev s_are_tests : Stmt := PySem.Challenge.pw_goalstead_k21_sizes_as_read.main.body.getD 68 (.Pass ⟨0, 0, 0, 0⟩)
theorem sc_are_tests : FnScope ["reading", "tests", "part"] ["reading"] (defScope s_are_tests) := ⟨rfl, rfl, rfl, by decide +kernel, rfl, by decide +kernel, by decide +kernel⟩
/-! ### the shapes of goals, told of patterns -/
def sums5 : List Str := ["+", "-", "*", "//", "mod"]
def tests4 : List Str := ["<", "=<", "==", "=/="]
def namedP (ns : List Str) (many : Nat) : Pt → Bool
  | .t nm ps => decide (nm ∈ ns) && decide (ps.length = many)
  | _ => false
def isTup : Pt → Bool
  | .t _ _ => true
  | _ => false
def wordS (z : Str) : Bool := match tl z with
  | c :: _ => decide (c ∈ sS)
  | [] => false
def wordP : Pt → Bool
  | .s z => wordS z
  | _ => false
/-- a part by its number -/
def kid (i : Nat) : Pt → Pt
  | .t _ ps => ps.getD i (.i 0)
  | _ => .i 0
mutual
def sumP : Pt → Bool
  | .i _ => true
  | .s z => unkS z
  | .t nm ps => decide (nm ∈ sums5) && decide (ps.length = 2) && sumPL ps
def sumPL : List Pt → Bool
  | [] => true
  | x :: r => sumP x && sumPL r
end
def relP (p : Pt) : Bool := !hasK p && (wordP p || isTup p)
def notP (p : Pt) : Bool := namedP ["not"] 1 p && relP (kid 0 p)
def likeP (p : Pt) : Bool := namedP ["="] 2 p && (!hasK (kid 0 p) && !hasK (kid 1 p))
def reckP (p : Pt) : Bool := namedP ["is"] 2 p && (!hasK (kid 0 p) && sumP (kid 1 p))
def testP (p : Pt) : Bool := namedP tests4 2 p && (sumP (kid 0 p) && sumP (kid 1 p))
def spanP (p : Pt) : Bool := namedP [".."] 2 p && (sumP (kid 0 p) && sumP (kid 1 p))
def rangeP (p : Pt) : Bool := namedP ["in"] 2 p && (unk (kid 0 p) && spanP (kid 1 p))
/-- the parts that are joined by and -/
def partsN : Nat → Pt → List Pt
  | 0, p => [p]
  | n + 1, p => if namedP ["and"] 2 p = true then kid 0 p :: partsN n (kid 1 p) else [p]
def partsA (p : Pt) : List Pt := partsN (szT p) p
def rname (p : Pt) : Str := match kid 0 p with
  | .s z => z
  | _ => Str.empty
def boxP (p : Pt) : Bool := (partsA p).all rangeP && !(decide (3 < (partsA p).length) || decide ((once ((partsA p).map rname)).length < (partsA p).length)) && (partsA p).all fun r => (once (nmT (kid 1 r))).all fun u => !decide (u ∈ (partsA p).map rname)
def testsP (p : Pt) : Bool := (partsA p).all testP && decide ((partsA p).length ≤ 4)
def fieldQ (p : Pt) : Bool := if namedP ["such"] 2 p = true then boxP (kid 0 p) && testsP (kid 1 p) else boxP p
def goalP (p : Pt) : Bool := relP p || (notP p || (likeP p || (reckP p || (testP p || fieldQ p))))
theorem named_t {ns : List Str} {many : Nat} {p : Pt} (h : namedP ns many p = true) : ∃ nm ps, p = .t nm ps ∧ nm ∈ ns ∧ ps.length = many := by
  cases p with
  | i n => cases h
  | s z => cases h
  | t nm ps =>
    have h' : (decide (nm ∈ ns) && decide (ps.length = many)) = true := h
    rw [Bool.and_eq_true, decide_eq_true_iff, decide_eq_true_iff] at h'
    exact ⟨nm, ps, rfl, h'.1, h'.2⟩
theorem named2 {ns : List Str} {p : Pt} (h : namedP ns 2 p = true) : ∃ nm a b, p = .t nm [a, b] ∧ nm ∈ ns := by
  obtain ⟨nm, ps, rfl, h1, h2⟩ := named_t h
  match ps, h2 with
  | [a, b], _ => exact ⟨nm, a, b, rfl, h1⟩
theorem named1 {ns : List Str} {p : Pt} (h : namedP ns 1 p = true) : ∃ nm a, p = .t nm [a] ∧ nm ∈ ns := by
  obtain ⟨nm, ps, rfl, h1, h2⟩ := named_t h
  match ps, h2 with
  | [a], _ => exact ⟨nm, a, rfl, h1⟩
theorem sumP_two {nm : Str} {a b : Pt} : sumP (.t nm [a, b]) = (decide (nm ∈ sums5) && (sumP a && sumP b)) := by
  rw [sumP, sumPL, sumPL, sumPL, Bool.and_true]
  simp
theorem sumP_not {p : Pt} (ht : isTup p = true) (h : namedP sums5 2 p = false) : sumP p = false := by
  cases p with
  | i n => cases ht
  | s z => cases ht
  | t nm ps =>
    have h' : (decide (nm ∈ sums5) && decide (ps.length = 2)) = false := h
    rw [sumP, h', Bool.false_and]
/-- what holds of a tuple's texts and of its parts' -/
abbrev OkP (p : Pt) : Prop := okT TxOk (fun _ => True) p
theorem OkP.two {nm : Str} {a b : Pt} (h : OkP (.t nm [a, b])) : OkP a ∧ OkP b := by
  have h' : okT TxOk (fun _ => True) (.t nm [a, b]) := h
  rw [okT, okL, okL] at h'
  exact ⟨h'.2.2.2.1, h'.2.2.2.2.1⟩
theorem OkP.one {nm : Str} {a : Pt} (h : OkP (.t nm [a])) : OkP a := by
  have h' : okT TxOk (fun _ => True) (.t nm [a]) := h
  rw [okT, okL] at h'
  exact h'.2.2.2.1
theorem PtAt.two {K : PySem.W.Frag} {H : Hp} {k : Nat} {v : V} {nm : Str} {a b : Pt} (h : PtAt K H k v (.t nm [a, b])) : ∃ j r x y, k = j + 1 ∧ v = .ref r ∧ SqT K H r [.str nm, x, y] ∧ PtAt K H j x a ∧ PtAt K H j y b := by
  rcases h.three with ⟨n, _, e⟩ | ⟨z, _, e⟩ | ⟨j, nm', ps, r, ys, ej, ev, e, sa, pq⟩
  · cases e
  · cases e
  · cases e
    match ys, pq with
    | [x, y], pq => exact ⟨j, r, x, y, ej, ev, sa, pq.2 0 x a rfl rfl, pq.2 1 y b rfl rfl⟩
theorem PtAt.one1 {K : PySem.W.Frag} {H : Hp} {k : Nat} {v : V} {nm : Str} {a : Pt} (h : PtAt K H k v (.t nm [a])) : ∃ j r x, k = j + 1 ∧ v = .ref r ∧ SqT K H r [.str nm, x] ∧ PtAt K H j x a := by
  rcases h.three with ⟨n, _, e⟩ | ⟨z, _, e⟩ | ⟨j, nm', ps, r, ys, ej, ev, e, sa, pq⟩
  · cases e
  · cases e
  · cases e
    match ys, pq with
    | [x], pq => exact ⟨j, r, x, ej, ev, sa, pq.2 0 x a rfl rfl⟩
structure TxG (K : PySem.W.Frag) (mg : Str → Option Value) : Prop where
  tst : ∃ p, mg "TEST_SIGNS" = some (.ref p) ∧ ∀ H, SqT K H p (tests4.map V.str)
  sms : ∃ p, mg "SUM_SIGNS" = some (.ref p) ∧ ∀ H, SqT K H p (sums5.map V.str)
/-- what a def that looks at a pattern tells -/
def spLook (K : PySem.W.Frag) (d : Nat) (f : Pt → Bool) : Sp := fun vs H Q _ => ∃ (v : V) (k : Nat) (p : Pt), vs = [v] ∧ PtAt K H k v p ∧ OkP p ∧ szT p ≤ 1000 ∧ dpT p ≤ d ∧ ∀ H', Same H H' → Q (.bl (f p)) H'
def spNamedG (K : PySem.W.Frag) : Sp := fun vs H Q _ => ∃ (v : V) (b : Addr) (k many : Nat) (p : Pt) (ns : List Str), vs = [v, .ref b, .int (many : Int)] ∧ PtAt K H k v p ∧ SqT K H b (ns.map V.str) ∧ Q (.bl (namedP ns many p)) H
def spPartsA (K : PySem.W.Frag) : Sp := fun vs H Q _ => ∃ (v : V) (k : Nat) (p : Pt), vs = [v] ∧ PtAt K H k v p ∧ szT p ≤ 1000 ∧ ∀ a us H', H a = none → Same H H' → H' a = some (.lst us) → PtsAt K H' k us (partsA p) → Q (.ref a) H'
section
variable {P : Program} {w : World} {K : PySem.W.Frag} {mg : Str → Option Value} {base : Heap} {f : Addr} {fd : FuncData}
def HasLook (k : Nat) (x : Str) (d : Nat) (g : Pt → Bool) (P : Program) (w : World) (K : PySem.W.Frag) (mg : Str → Option Value) (base : Heap) : Prop := Has P w K mg base k x ["reading"] (spLook K d g)
def HasNamedG (P : Program) (w : World) (K : PySem.W.Frag) (mg : Str → Option Value) (base : Heap) : Prop := Has P w K mg base 1 "_is_named" ["reading", "names", "many"] (spNamedG K)
def HasPartsA (P : Program) (w : World) (K : PySem.W.Frag) (mg : Str → Option Value) (base : Heap) : Prop := Has P w K mg base 2 "parted_by_and" ["reading"] (spPartsA K)
def HasWordG (d : Nat) (P : Program) (w : World) (K : PySem.W.Frag) (mg : Str → Option Value) (base : Heap) : Prop := Has P w K mg base 1 "is_word" ["part"] (spLook K d wordP)
theorem ok_is_wordG {d : Nat} (F : Fun K "is_word" "is_word" s_is_word f fd) (T : Txt mg) : FnOk P w K mg base CX0 1 f fd ["part"] (spLook K d wordP) := by
  refine F.ok sc_is_word (fun vs H Q E h => ?_) (fun cdv A outer s H vs Q E hr h => ?_)
  · obtain ⟨v, k, p, rfl, _⟩ := h
    rfl
  obtain ⟨v, k, p, rfl, hp, ok, hz, _, q⟩ := h
  refine ⟨_, (pss_one (ps_ret (pe_and (pe_callB (call_isiKK (K := K)) (by rfl) T.z_isinstance (by decide +kernel) (pa_cons (pv 0) (pa_cons (pe_bltn (v := .ty "str") (by rfl) T.z_str (by decide +kernel) rfl) pa_nil))) (pe_one (pe_cmpR op_in_sign (pe_ix ix_str (pv 0) pe_int (fun _ _ => rfl)) (pe_globS rfl T.c_SMALLS) (by rfl)))))), ?_⟩
  walk_at "sx"
  rcases hp.three with ⟨n, rfl, rfl⟩ | ⟨z, rfl, rfl⟩ | ⟨j, nm, qs, a, us, rfl, rfl, rfl, sa, pq⟩
  · refine x_isT (t := .type "int") (c := false) (.base (.int n)) (kit_ty (by decide +kernel)) ?_
    walk_at "sx"
    exact q _ (same_refl _)
  · refine x_isT (t := .type "str") (c := true) (.base (.str z)) (kit_ty (by decide +kernel)) ?_
    walk_at "sx"
    obtain ⟨c, t, e, hl⟩ := ok
    refine x_ixS (c := c) (sz (by omega)) (at0 (show (tl z)[0]? = some c by rw [e]; rfl)) ?_
    walk_at "sx"
    have eu : wordP (.s z) = decide (c ∈ ("abcdefghijklmnopqrstuvwxyz" : Str).cps.toList) := by
      show wordS z = decide (c ∈ tl ("abcdefghijklmnopqrstuvwxyz" : Str))
      rw [tl_S]
      unfold wordS
      rw [e]
    rw [← eu]
    exact q _ (same_refl _)
  · refine x_isT (t := .type "tuple") (c := false) (ty_tup sa) (kit_ty (by decide +kernel)) ?_
    walk_at "sx"
    exact q _ (same_refl _)
theorem ok_is_namedG (F : Fun K "_is_named" "_is_named" s_is_named f fd) (T : Txt mg) : FnOk P w K mg base CX0 1 f fd ["reading", "names", "many"] (spNamedG K) := by
  refine F.ok sc_is_named (fun vs H Q E h => ?_) (fun cdv A outer s H vs Q E hr h => ?_)
  · obtain ⟨v, b, k, many, p, ns, rfl, _⟩ := h
    rfl
  obtain ⟨v, b, k, many, p, ns, rfl, hv, hb, q⟩ := h
  refine ⟨_, (pss_one (ps_ret (pe_and (pe_callB (call_isiKK (K := K)) (by rfl) T.z_isinstance (by decide +kernel) (pa_cons (pv 0) (pa_cons (pe_bltn (v := .ty "tuple") (by rfl) T.z_tuple (by decide +kernel) rfl) pa_nil))) (pe_and (pe_cmpR (op_inK (K := K)) (pe_ix (ix_tupK (K := K)) (pv 0) pe_int (fun _ _ => rfl)) (pv 1) (by first | exact nomark _ | rfl)) (pe_one (pe_cmpR op_eq (pe_callB (call_lenK (K := K)) (by rfl) T.z_len (by decide +kernel) (pa_cons (pv 0) pa_nil)) (pe_op op_add (pv 2) pe_int) (nomark _))))))), ?_⟩
  walk_at "sx"
  rcases hv.three with ⟨nn, rfl, rfl⟩ | ⟨z, rfl, rfl⟩ | ⟨i0, nm, ps, a, ys, ej, rfl, rfl, sa, pq⟩
  · refine x_isT (t := .type "int") (c := false) (.base (.int nn)) (kit_ty (by decide +kernel)) ?_
    walk_at "sx"
    exact q
  · refine x_isT (t := .type "str") (c := false) (.base (.str z)) (kit_ty (by decide +kernel)) ?_
    walk_at "sx"
    exact q
  · refine x_isT (t := .type "tuple") (c := true) (ty_tup sa) (kit_ty (by decide +kernel)) ?_
    have l1 := pq.1
    walk_at "sx"
    refine ⟨b, _, rfl, .inr hb, rfl, by rw [List.all_map]; exact List.all_eq_true.mpr fun _ _ => rfl, _, rfl, ?_⟩
    have e0 : (if false = true then !inV (V.str nm) (List.map V.str ns) else inV (V.str nm) (List.map V.str ns)) = decide (nm ∈ ns) := by
      rw [if_neg Bool.false_ne_true, inV_strs]
    rw [e0]
    refine x_ite (fun c => ?_) (fun c => ?_)
    · walk_at "sx"
      have e2 : decide (V.int (((V.str nm :: ys).length : Nat) : Int) = V.int ((many : Int) + 1)) = namedP ns many (.t nm ps) := by
        show _ = (decide (nm ∈ ns) && decide (ps.length = many))
        rw [decide_eq_true c, Bool.true_and, decide_eq_decide, List.length_cons, l1]
        exact ⟨fun z => by have := V.int.inj z; omega, fun z => congrArg V.int (by omega)⟩
      rw [e2]
      exact q
    · have e3 : namedP ns many (.t nm ps) = false := by
        show (decide (nm ∈ ns) && decide (ps.length = many)) = false
        rw [decide_eq_false c, Bool.false_and]
      rw [e3] at q
      walk_at "sx"
      exact q
theorem ok_is_sumG (F : Fun K "is_sum" "is_sum" s_is_sum f fd) (T : Txt mg) (TG : TxG K mg) (C_is_named : HasNamedG P w K mg base) (C_is_unknown : HasUnknown P w K mg base) (b : Binds K fd ["reading"] []) (kp : PySem.W.keepIn K (.ref f) = true) (m : mg "is_sum" = some (.ref f)) : ∀ k, FnOk P w K mg base CX0 (k + 2) f fd ["reading"] (fun vs H Q _ => ∃ (v : V) (p : Pt), vs = [v] ∧ PtAt K H k v p ∧ OkP p ∧ ∀ H', Same H H' → Q (.bl (sumP p)) H')
  | 0 => ⟨fun vs H Q E h => by
      obtain ⟨v, p, _, h, _⟩ := h
      exact h.elim, fun A outer s H args us vs Q E _ _ _ _ h => by
      obtain ⟨v, p, _, h, _⟩ := h
      exact h.elim⟩
  | k + 1 => by
    have C_is_sum : Has P w K mg base (k + 2) "is_sum" ["reading"] (fun vs H Q _ => ∃ (v : V) (p : Pt), vs = [v] ∧ PtAt K H k v p ∧ OkP p ∧ ∀ H', Same H H' → Q (.bl (sumP p)) H') := ⟨f, fd, ok_is_sumG F T TG C_is_named C_is_unknown b kp m k, b, kp, m⟩
    refine F.ok sc_is_sum (fun vs H Q E h => ?_) (fun cdv A outer s H vs Q E hr h => ?_)
    · obtain ⟨v, p, rfl, _⟩ := h
      rfl
    obtain ⟨v, p, rfl, hp, ok, q⟩ := h
    obtain ⟨ps0, m_SUM_SIGNS, hss⟩ := TG.sms
    refine ⟨_, (pss_cons (ps_if (pt_val (pe_callB (call_isiKK (K := K)) (by rfl) T.z_isinstance (by decide +kernel) (pa_cons (pv 0) (pa_cons (pe_bltn (v := .ty "tuple") (by rfl) T.z_tuple (by decide +kernel) rfl) pa_nil))))
      (pss_one (ps_ret (pe_and (pe_callH C_is_named hr (pa_cons (pv 0) (pa_cons (pe_glob (v := .ref _) rfl m_SUM_SIGNS rfl) (pa_cons pe_int pa_nil))) (hk := by omega)) (pe_and (pe_callH C_is_sum hr (pa_cons (pe_ix (ix_tupK (K := K)) (pv 0) pe_int (fun _ _ => rfl)) pa_nil) (hk := Nat.le_refl _)) (pe_one (pe_callH C_is_sum hr (pa_cons (pe_ix (ix_tupK (K := K)) (pv 0) pe_int (fun _ _ => rfl)) pa_nil) (hk := Nat.le_refl _)))))))
      pss_nil)
    (pss_one (ps_ret (pe_or (pe_callB (call_isiKK (K := K)) (by rfl) T.z_isinstance (by decide +kernel) (pa_cons (pv 0) (pa_cons (pe_bltn (v := .ty "int") (by rfl) T.z_int (by decide +kernel) rfl) pa_nil))) (pe_one (pe_callH C_is_unknown hr (pa_cons (pv 0) pa_nil) (hk := by omega))))))), ?_⟩
    walk_at "sx"
    rcases id hp.three with ⟨n, rfl, rfl⟩ | ⟨z, rfl, rfl⟩ | ⟨j, nm, ps, a, ys, ej, rfl, rfl, sa, pq⟩
    · refine x_isT (t := .type "int") (c := false) (.base (.int n)) (kit_ty (by decide +kernel)) ?_
      walk_at "sx"
      refine x_isT (t := .type "int") (c := true) (.base (.int n)) (kit_ty (by decide +kernel)) ?_
      walk_at "sx"
      exact q _ (same_refl _)
    · refine x_isT (t := .type "str") (c := false) (.base (.str z)) (kit_ty (by decide +kernel)) ?_
      walk_at "sx"
      refine x_isT (t := .type "str") (c := false) (.base (.str z)) (kit_ty (by decide +kernel)) ?_
      walk_at "sx"
      refine ⟨_, _, .s z, rfl, hp, (fun y e => by cases e; exact ok), ?_⟩
      exact q _ (same_refl _)
    · refine x_isT (t := .type "tuple") (c := true) (ty_tup sa) (kit_ty (by decide +kernel)) ?_
      walk_at "sx"
      refine ⟨_, ps0, _, 2, _, sums5, rfl, hp, hss H, ?_⟩
      cases en : namedP sums5 2 (.t nm ps) with
      | false =>
        walk_at "sx"
        rw [sumP_not rfl en] at q
        exact q _ (same_refl _)
      | true =>
        obtain ⟨nm', x, y, e, hm⟩ := named2 en
        cases e
        have ej' : j = k := by omega
        subst ej'
        obtain ⟨ok1, ok2⟩ := ok.two
        match ys, pq with
        | [v1, v2], pq =>
          have e0 : sumP (.t nm [x, y]) = (sumP x && sumP y) := by rw [sumP_two, decide_eq_true hm, Bool.true_and]
          rw [e0] at q
          walk_at "sx"
          refine ⟨v1, x, rfl, pq.2 0 v1 x rfl rfl, ok1, fun G s1 => ?_⟩
          have sa1 := Same.sqT s1 sa
          cases ex : sumP x with
          | false =>
            rw [ex] at q
            walk_at "sx"
            exact q _ s1
          | true =>
            rw [ex, Bool.true_and] at q
            walk_at "sx"
            exact ⟨v2, y, rfl, (pq.2 1 v2 y rfl rfl).same s1, ok2, fun G2 s2 => q _ (s1.trans s2)⟩
def HasSumG (d : Nat) (P : Program) (w : World) (K : PySem.W.Frag) (mg : Str → Option Value) (base : Heap) : Prop := Has P w K mg base (d + 2) "is_sum" ["reading"] (fun vs H Q _ => ∃ (v : V) (p : Pt), vs = [v] ∧ PtAt K H d v p ∧ OkP p ∧ ∀ H', Same H H' → Q (.bl (sumP p)) H')
theorem partsN_more : ∀ (n : Nat) (p : Pt), szT p ≤ n → partsN n p = partsA p
  | 0, p, h => by
    have := szT_pos p
    omega
  | n + 1, p, h => by
    unfold partsA
    obtain ⟨m, em⟩ : ∃ m, szT p = m + 1 := ⟨szT p - 1, by have := szT_pos p; omega⟩
    rw [em, partsN, partsN]
    cases e : namedP ["and"] 2 p with
    | false => rw [if_neg Bool.false_ne_true, if_neg Bool.false_ne_true]
    | true =>
      obtain ⟨nm, a, b, rfl, _⟩ := named2 e
      have hb : szT b ≤ m := by
        rw [szT, szL, szL, szL] at em
        omega
      rw [if_pos rfl, if_pos rfl]
      show a :: partsN n b = a :: partsN m b
      rw [partsN_more n b (by omega)]
      have := partsN_more m b hb
      rw [this]
theorem partsA_and {nm : Str} {a b : Pt} (h : namedP ["and"] 2 (.t nm [a, b]) = true) : partsA (.t nm [a, b]) = a :: partsA b := by
  have e := partsN_more (szT (.t nm [a, b]) + 1) (.t nm [a, b]) (by omega)
  rw [← e, partsN, if_pos h]
  show a :: partsN _ b = _
  rw [partsN_more _ b (by rw [szT, szL, szL, szL]; omega)]
theorem partsA_one {p : Pt} (h : namedP ["and"] 2 p = false) : partsA p = [p] := by
  have e := partsN_more (szT p + 1) p (by omega)
  rw [← e, partsN, h, if_neg Bool.false_ne_true]
theorem ok_partsA (F : Fun K "parted_by_and" "parted_by_and" s_parted_by_and f fd) (T : Txt mg) (C_is_named : HasNamedG P w K mg base) : FnOk P w K mg base CX0 2 f fd ["reading"] (spPartsA K) := by
  refine F.ok sc_parted_by_and (fun vs H Q E h => ?_) (fun cdv A outer s H vs Q E hr h => ?_)
  · obtain ⟨v, k, p, rfl, _⟩ := h
    rfl
  obtain ⟨v, k, p, rfl, hv, hz, q⟩ := h
  refine ⟨_, (pss_cons (ps_set (i := 1) sc_parted_by_and.nd rfl (Or.inl rfl) (pe_lst pa_nil))
    (pss_cons (ps_while PassesOwn.never (pt_val (pe_callH C_is_named hr (pa_cons (pv 0) (pa_cons (pe_tup (pa_cons pe_str pa_nil)) (pa_cons pe_int pa_nil)))))
      (pss_cons (ps_expr (pe_bm PySem.F.plainAttrs_list PySem.F.slot_list_append PySem.F.type_list_append mt_append (pv 1) (pa_cons (pe_ix (ix_tupK (K := K)) (pv 0) pe_int (fun _ _ => rfl)) pa_nil)))
    (pss_one (ps_set (i := 0) sc_parted_by_and.nd rfl (Or.inl rfl) (pe_ix (ix_tupK (K := K)) (pv 0) pe_int (fun _ _ => rfl))))))
    (pss_cons (ps_expr (pe_bm PySem.F.plainAttrs_list PySem.F.slot_list_append PySem.F.type_list_append mt_append (pv 1) (pa_cons (pv 0) pa_nil)))
    (pss_one (ps_ret (pv 1)))))), ?_⟩
  walk_at "sx"
  rename_i pl npl
  refine x_while (fun m σ' G => ∃ (v' : V) (us : List V) (pre : List Pt) (p' : Pt), σ' = [some v', some (.ref pl)] ∧ PtAt K G k v' p' ∧ G pl = some (.lst us) ∧ PtsAt K G k us pre ∧ partsA p = pre ++ partsA p' ∧ m = szT p' ∧ us.length + szT p' ≤ szT p ∧ Same H G) (szT p) ?_ ?_
  · exact ⟨v, [], [], p, rfl, hv.same (same_upd npl), upd_same, .nil, rfl, rfl, by simp, same_upd npl⟩
  · rintro m σ' G ⟨v', us, pre, p', rfl, hv', hpl, hus, e, rfl, hl, kG⟩
    walk_at "sx"
    rename_i tp ntp
    have k1 : Same G (upd G tp (.tup [V.str "and"])) := same_upd ntp
    refine ⟨v', tp, k, 2, p', ["and"], rfl, hv'.same k1, .of upd_same, ?_⟩
    walk_at "sx"
    have hpl1 := k1 _ _ hpl
    cases en : namedP ["and"] 2 p' with
    | false =>
      walk_at "sx"
      refine x_app hpl1 (szl (by omega)) ?_
      walk_at "sx"
      rw [partsA_one en] at e
      rw [e] at q
      refine q pl _ _ npl (same_updf (kG.trans k1) npl) upd_same ?_
      exact ((hus.same k1).append (.one (hv'.same k1))).lst hpl1
    | true =>
      obtain ⟨nm, a, b, rfl, _⟩ := named2 en
      obtain ⟨j, r, x, y, rfl, rfl, sa, h1, h2⟩ := hv'.two
      have hb := szT_pos a
      have hsz : szT (.t nm [a, b]) = 1 + (szT a + szT b) := by rw [szT, szL, szL, szL]; omega
      refine ⟨fun σ' G => ∃ (v' : V) (us : List V) (pre : List Pt) (p2 : Pt), σ' = [some v', some (.ref pl)] ∧ PtAt K G (j + 1) v' p2 ∧ G pl = some (.lst us) ∧ PtsAt K G (j + 1) us pre ∧ partsA p = pre ++ partsA p2 ∧ szT p2 < szT (.t nm [a, b]) ∧ us.length + szT p2 ≤ szT p ∧ Same H G, ?_, ?_⟩
      · rintro σ' G ⟨v', us, pre, p2, rfl, g1, g2, g3, g4, g5, g6, g7⟩
        exact ⟨_, g5, v', us, pre, p2, rfl, g1, g2, g3, g4, rfl, g6, g7⟩
      have sa1 := Same.sqT k1 sa
      walk_at "sx"
      refine x_app hpl1 (szl (by omega)) ?_
      have g : ∀ c xs, SqT K G c xs → SqT K (upd (upd G tp (.tup [V.str "and"])) pl (.lst (us ++ [x]))) c xs := fun _ _ s => sqT_lst hpl1 (Same.sqT k1 s)
      have sa2 := g _ _ sa
      walk_at "sx"
      refine ⟨y, _, pre ++ [a], b, rfl, (h2.up (by omega)).mono g, upd_same, ?_, by rw [e, partsA_and en, List.append_assoc]; rfl, by omega, by rw [List.length_append, List.length_singleton]; omega, same_updf (kG.trans k1) npl⟩
      exact ((hus.same k1).append (.one ((h1.up (by omega)).same k1))).lst hpl1
theorem two_sd {nm : Str} {a b : Pt} {d z : Nat} (hd : dpT (.t nm [a, b]) ≤ d) (hz : szT (.t nm [a, b]) ≤ z) : dpT a ≤ d ∧ dpT b ≤ d ∧ szT a ≤ z ∧ szT b ≤ z := by
  rw [dpT, dpL, dpL, dpL] at hd
  rw [szT, szL, szL, szL] at hz
  omega
theorem ok_is_relationG {d : Nat} (F : Fun K "is_relation" "is_relation" s_is_relation f fd) (T : Txt mg) (C_is_pattern : HasIsPat P w K mg base) (C_is_word : HasWordG d P w K mg base) : FnOk P w K mg base CX0 3 f fd ["reading"] (spLook K d relP) := by
  refine F.ok sc_is_relation (fun vs H Q E h => ?_) (fun cdv A outer s H vs Q E hr h => ?_)
  · obtain ⟨v, k, p, rfl, _⟩ := h
    rfl
  obtain ⟨v, k, p, rfl, hp, ok, hz, hd, q⟩ := h
  refine ⟨_, (pss_one (ps_ret (pe_and (pe_callH C_is_pattern hr (pa_cons (pv 0) pa_nil)) (pe_one (pe_or (pe_callH C_is_word hr (pa_cons (pv 0) pa_nil)) (pe_one (pe_callB (call_isiKK (K := K)) (by rfl) T.z_isinstance (by decide +kernel) (pa_cons (pv 0) (pa_cons (pe_bltn (v := .ty "tuple") (by rfl) T.z_tuple (by decide +kernel) rfl) pa_nil))))))))), ?_⟩
  walk_at "sx"
  refine ⟨v, k, p, rfl, hp, by omega, fun G s1 => ?_⟩
  unfold relP at q
  cases hk : hasK p with
  | true =>
    rw [hk] at q
    walk_at "sx"
    exact q _ s1
  | false =>
    rw [hk] at q
    walk_at "sx"
    refine ⟨v, k, p, rfl, hp.same s1, ok, hz, hd, fun G2 s2 => ?_⟩
    have hp2 := (hp.same s1).same s2
    have s12 := s1.trans s2
    cases hw : wordP p with
    | true =>
      rw [hw] at q
      walk_at "sx"
      exact q _ s12
    | false =>
      rw [hw] at q
      walk_at "sx"
      rcases hp2.three with ⟨n, rfl, rfl⟩ | ⟨z, rfl, rfl⟩ | ⟨j, nm, qs, a, us, rfl, rfl, rfl, sa, pq⟩
      · exact x_isT (t := .type "int") (c := false) (.base (.int n)) (kit_ty (by decide +kernel)) (q _ s12)
      · exact x_isT (t := .type "str") (c := false) (.base (.str z)) (kit_ty (by decide +kernel)) (q _ s12)
      · exact x_isT (t := .type "tuple") (c := true) (ty_tup sa) (kit_ty (by decide +kernel)) (q _ s12)
theorem ok_is_notG {d : Nat} (F : Fun K "is_not" "is_not" s_is_not f fd) (T : Txt mg) (C_is_named : HasNamedG P w K mg base) (C_is_relation : HasLook 3 "is_relation" d relP P w K mg base) : FnOk P w K mg base CX0 4 f fd ["reading"] (spLook K d notP) := by
  refine F.ok sc_is_not (fun vs H Q E h => ?_) (fun cdv A outer s H vs Q E hr h => ?_)
  · obtain ⟨v, k, p, rfl, _⟩ := h
    rfl
  obtain ⟨v, k, p, rfl, hp, ok, hz, hd, q⟩ := h
  refine ⟨_, (pss_one (ps_ret (pe_and (pe_callH C_is_named hr (pa_cons (pv 0) (pa_cons (pe_tup (pa_cons pe_str pa_nil)) (pa_cons pe_int pa_nil)))) (pe_one (pe_callH C_is_relation hr (pa_cons (pe_ix (ix_tupK (K := K)) (pv 0) pe_int (fun _ _ => rfl)) pa_nil)))))), ?_⟩
  walk_at "sx"
  rename_i tp ntp
  have k1 : Same H (upd H tp (.tup [V.str "not"])) := same_upd ntp
  refine ⟨v, tp, k, 1, p, ["not"], rfl, hp.same k1, .of upd_same, ?_⟩
  unfold notP at q
  cases en : namedP ["not"] 1 p with
  | false =>
    rw [en] at q
    walk_at "sx"
    exact q _ k1
  | true =>
    rw [en] at q
    obtain ⟨nm, a, rfl, _⟩ := named1 en
    obtain ⟨j, r, x, rfl, rfl, sa, h1⟩ := hp.one1
    have sa1 := Same.sqT k1 sa
    rw [szT, szL, szL] at hz
    rw [dpT, dpL, dpL] at hd
    walk_at "sx"
    exact ⟨x, j, a, rfl, h1.same k1, ok.one, by omega, by omega, fun G s1 => q _ (k1.trans s1)⟩
theorem ok_is_likeG {d : Nat} (F : Fun K "is_likeness" "is_likeness" s_is_likeness f fd) (T : Txt mg) (C_is_named : HasNamedG P w K mg base) (C_is_pattern : HasIsPat P w K mg base) : FnOk P w K mg base CX0 3 f fd ["reading"] (spLook K d likeP) := by
  refine F.ok sc_is_likeness (fun vs H Q E h => ?_) (fun cdv A outer s H vs Q E hr h => ?_)
  · obtain ⟨v, k, p, rfl, _⟩ := h
    rfl
  obtain ⟨v, k, p, rfl, hp, ok, hz, hd, q⟩ := h
  refine ⟨_, (pss_one (ps_ret (pe_and (pe_callH C_is_named hr (pa_cons (pv 0) (pa_cons (pe_tup (pa_cons pe_str pa_nil)) (pa_cons pe_int pa_nil)))) (pe_and (pe_callH C_is_pattern hr (pa_cons (pe_ix (ix_tupK (K := K)) (pv 0) pe_int (fun _ _ => rfl)) pa_nil)) (pe_one (pe_callH C_is_pattern hr (pa_cons (pe_ix (ix_tupK (K := K)) (pv 0) pe_int (fun _ _ => rfl)) pa_nil))))))), ?_⟩
  walk_at "sx"
  rename_i tp ntp
  have k1 : Same H (upd H tp (.tup [V.str "="])) := same_upd ntp
  refine ⟨v, tp, k, 2, p, ["="], rfl, hp.same k1, .of upd_same, ?_⟩
  unfold likeP at q
  cases en : namedP ["="] 2 p with
  | false =>
    rw [en] at q
    walk_at "sx"
    exact q _ k1
  | true =>
    rw [en] at q
    obtain ⟨nm, a, b, rfl, _⟩ := named2 en
    obtain ⟨j, r, x, y, rfl, rfl, sa, h1, h2⟩ := hp.two
    have sa1 := Same.sqT k1 sa
    obtain ⟨_, _, z1, z2⟩ := two_sd hd hz
    have q' : ∀ H', Same H H' → Q (.bl (!hasK a && !hasK b)) H' := q
    walk_at "sx"
    refine ⟨x, j, a, rfl, h1.same k1, by omega, fun G s1 => ?_⟩
    have s01 := k1.trans s1
    have sa2 := Same.sqT s01 sa
    cases ha : hasK a with
    | true =>
      rw [ha] at q'
      walk_at "sx"
      exact q' _ s01
    | false =>
      rw [ha] at q'
      walk_at "sx"
      exact ⟨y, j, b, rfl, h2.same s01, by omega, fun G2 s2 => q' _ (s01.trans s2)⟩
theorem ok_is_reckG {d : Nat} (F : Fun K "is_reckoning" "is_reckoning" s_is_reckoning f fd) (T : Txt mg) (C_is_named : HasNamedG P w K mg base) (C_is_pattern : HasIsPat P w K mg base) (C_is_sum : HasSumG d P w K mg base) : FnOk P w K mg base CX0 (d + 3) f fd ["reading"] (spLook K d reckP) := by
  refine F.ok sc_is_reckoning (fun vs H Q E h => ?_) (fun cdv A outer s H vs Q E hr h => ?_)
  · obtain ⟨v, k, p, rfl, _⟩ := h
    rfl
  obtain ⟨v, k, p, rfl, hp, ok, hz, hd, q⟩ := h
  refine ⟨_, (pss_one (ps_ret (pe_and (pe_callH C_is_named hr (pa_cons (pv 0) (pa_cons (pe_tup (pa_cons pe_str pa_nil)) (pa_cons pe_int pa_nil))) (hk := by omega)) (pe_and (pe_callH C_is_pattern hr (pa_cons (pe_ix (ix_tupK (K := K)) (pv 0) pe_int (fun _ _ => rfl)) pa_nil) (hk := by omega)) (pe_one (pe_callH C_is_sum hr (pa_cons (pe_ix (ix_tupK (K := K)) (pv 0) pe_int (fun _ _ => rfl)) pa_nil) (hk := by omega))))))), ?_⟩
  walk_at "sx"
  rename_i tp ntp
  have k1 : Same H (upd H tp (.tup [V.str "is"])) := same_upd ntp
  refine ⟨v, tp, k, 2, p, ["is"], rfl, hp.same k1, .of upd_same, ?_⟩
  unfold reckP at q
  cases en : namedP ["is"] 2 p with
  | false =>
    rw [en] at q
    walk_at "sx"
    exact q _ k1
  | true =>
    rw [en] at q
    obtain ⟨nm, a, b, rfl, _⟩ := named2 en
    obtain ⟨j, r, x, y, rfl, rfl, sa, h1, h2⟩ := hp.two
    have sa1 := Same.sqT k1 sa
    obtain ⟨_, d2, z1, z2⟩ := two_sd hd hz
    have q' : ∀ H', Same H H' → Q (.bl (!hasK a && sumP b)) H' := q
    walk_at "sx"
    refine ⟨x, j, a, rfl, h1.same k1, by omega, fun G s1 => ?_⟩
    have s01 := k1.trans s1
    have sa2 := Same.sqT s01 sa
    cases ha : hasK a with
    | true =>
      rw [ha] at q'
      walk_at "sx"
      exact q' _ s01
    | false =>
      rw [ha] at q'
      walk_at "sx"
      exact ⟨y, b, rfl, (h2.same s01).of_depth d2, ok.two.2, fun G2 s2 => q' _ (s01.trans s2)⟩
theorem ok_is_testG {d : Nat} (F : Fun K "is_test" "is_test" s_is_test f fd) (T : Txt mg) (TG : TxG K mg) (C_is_named : HasNamedG P w K mg base) (C_is_sum : HasSumG d P w K mg base) : FnOk P w K mg base CX0 (d + 3) f fd ["reading"] (spLook K d testP) := by
  refine F.ok sc_is_test (fun vs H Q E h => ?_) (fun cdv A outer s H vs Q E hr h => ?_)
  · obtain ⟨v, k, p, rfl, _⟩ := h
    rfl
  obtain ⟨v, k, p, rfl, hp, ok, hz, hd, q⟩ := h
  obtain ⟨tp, m_TEST_SIGNS, hts⟩ := TG.tst
  refine ⟨_, (pss_one (ps_ret (pe_and (pe_callH C_is_named hr (pa_cons (pv 0) (pa_cons (pe_glob (v := .ref _) rfl m_TEST_SIGNS rfl) (pa_cons pe_int pa_nil))) (hk := by omega)) (pe_and (pe_callH C_is_sum hr (pa_cons (pe_ix (ix_tupK (K := K)) (pv 0) pe_int (fun _ _ => rfl)) pa_nil) (hk := by omega)) (pe_one (pe_callH C_is_sum hr (pa_cons (pe_ix (ix_tupK (K := K)) (pv 0) pe_int (fun _ _ => rfl)) pa_nil) (hk := by omega))))))), ?_⟩
  walk_at "sx"
  refine ⟨v, tp, k, 2, p, tests4, rfl, hp, hts H, ?_⟩
  unfold testP at q
  cases en : namedP tests4 2 p with
  | false =>
    rw [en] at q
    walk_at "sx"
    exact q _ (same_refl _)
  | true =>
    rw [en] at q
    obtain ⟨nm, a, b, rfl, _⟩ := named2 en
    obtain ⟨j, r, x, y, rfl, rfl, sa, h1, h2⟩ := hp.two
    obtain ⟨d1, d2, z1, z2⟩ := two_sd hd hz
    have q' : ∀ H', Same H H' → Q (.bl (sumP a && sumP b)) H' := q
    walk_at "sx"
    refine ⟨x, a, rfl, h1.of_depth d1, ok.two.1, fun G s1 => ?_⟩
    have sa2 := Same.sqT s1 sa
    cases ha : sumP a with
    | false =>
      rw [ha] at q'
      walk_at "sx"
      exact q' _ s1
    | true =>
      rw [ha] at q'
      walk_at "sx"
      exact ⟨y, b, rfl, (h2.same s1).of_depth d2, ok.two.2, fun G2 s2 => q' _ (s1.trans s2)⟩
theorem ok_is_rangeG {d : Nat} (F : Fun K "_is_range" "_is_range" s_is_range f fd) (T : Txt mg) (C_is_named : HasNamedG P w K mg base) (C_is_unknown : HasUnknown P w K mg base) (C_is_sum : HasSumG d P w K mg base) : FnOk P w K mg base CX0 (d + 3) f fd ["reading"] (spLook K d rangeP) := by
  refine F.ok sc_is_range (fun vs H Q E h => ?_) (fun cdv A outer s H vs Q E hr h => ?_)
  · obtain ⟨v, k, p, rfl, _⟩ := h
    rfl
  obtain ⟨v, k, p, rfl, hp, ok, hz, hd, q⟩ := h
  refine ⟨_, (pss_cons (ps_if (pt_not (pt_val (pe_callH C_is_named hr (pa_cons (pv 0) (pa_cons (pe_tup (pa_cons pe_str pa_nil)) (pa_cons pe_int pa_nil))) (hk := by omega))))
      (pss_one (ps_ret pe_bl))
      pss_nil)
    (pss_cons (ps_asg (pe_slice (sl_tupAK (K := K)) (pv 0) (po_some pe_int) po_none) (pg_tup (by rfl) (pgs_cons (pg_name (i := 1) sc_is_range.nd rfl (.inl rfl)) (pgs_cons (pg_name (i := 2) sc_is_range.nd rfl (.inl rfl)) pgs_nil))))
    (pss_one (ps_ret (pe_and (pe_callH C_is_unknown hr (pa_cons (pv 1) pa_nil) (hk := by omega)) (pe_and (pe_callH C_is_named hr (pa_cons (pv 2) (pa_cons (pe_tup (pa_cons pe_str pa_nil)) (pa_cons pe_int pa_nil))) (hk := by omega)) (pe_and (pe_callH C_is_sum hr (pa_cons (pe_ix (ix_tupK (K := K)) (pv 2) pe_int (fun _ _ => rfl)) pa_nil) (hk := by omega)) (pe_one (pe_callH C_is_sum hr (pa_cons (pe_ix (ix_tupK (K := K)) (pv 2) pe_int (fun _ _ => rfl)) pa_nil) (hk := by omega)))))))))), ?_⟩
  walk_at "sx"
  rename_i tp ntp
  have k1 : Same H (upd H tp (.tup [V.str "in"])) := same_upd ntp
  refine ⟨v, tp, k, 2, p, ["in"], rfl, hp.same k1, .of upd_same, ?_⟩
  unfold rangeP at q
  cases en : namedP ["in"] 2 p with
  | false =>
    rw [en] at q
    walk_at "sx"
    exact q _ k1
  | true =>
    rw [en] at q
    obtain ⟨nm, a, b, rfl, _⟩ := named2 en
    obtain ⟨j, r, x, y, rfl, rfl, sa, h1, h2⟩ := hp.two
    have sa1 := Same.sqT k1 sa
    obtain ⟨d1, d2, z1, z2⟩ := two_sd hd hz
    obtain ⟨o1, o2⟩ := ok.two
    have q' : ∀ H', Same H H' → Q (.bl (unk a && spanP b)) H' := q
    walk_at "sx"
    refine x_slA sa1 fun t2 G kG st2 => ?_
    rw [cut_tail] at st2
    have s01 := k1.trans kG
    walk_at "sx"
    refine ⟨x, j, a, rfl, h1.same s01, (fun z e => by subst e; exact o1), ?_⟩
    cases ha : unk a with
    | false =>
      rw [ha] at q'
      walk_at "sx"
      exact q' _ s01
    | true =>
      rw [ha] at q'
      walk_at "sx"
      rename_i tp2 ntp2
      have k3 : Same G (upd G tp2 (.tup [V.str ".."])) := same_upd ntp2
      have s03 := s01.trans k3
      refine ⟨y, tp2, j, 2, b, [".."], rfl, h2.same s03, .of upd_same, ?_⟩
      have q2 : ∀ H', Same H H' → Q (.bl (namedP [".."] 2 b && (sumP (kid 0 b) && sumP (kid 1 b)))) H' := q'
      cases en2 : namedP [".."] 2 b with
      | false =>
        rw [en2] at q2
        walk_at "sx"
        exact q2 _ s03
      | true =>
        rw [en2] at q2
        obtain ⟨nm2, a2, b2, rfl, _⟩ := named2 en2
        obtain ⟨j2, r2, x2, y2, rfl, rfl, sb, g1, g2⟩ := h2.two
        have sb3 := Same.sqT s03 sb
        obtain ⟨e1, e2, _, _⟩ := two_sd d2 z2
        obtain ⟨p1, p2⟩ := o2.two
        have q3 : ∀ H', Same H H' → Q (.bl (sumP a2 && sumP b2)) H' := q2
        walk_at "sx"
        refine ⟨x2, a2, rfl, (g1.same s03).of_depth e1, p1, fun G4 s4 => ?_⟩
        have s04 := s03.trans s4
        have sb4 := Same.sqT s04 sb
        cases hs : sumP a2 with
        | false =>
          rw [hs] at q3
          walk_at "sx"
          exact q3 _ s04
        | true =>
          rw [hs] at q3
          walk_at "sx"
          exact ⟨y2, b2, rfl, (g2.same s04).of_depth e2, p2, fun G5 s5 => q3 _ (s04.trans s5)⟩
theorem partsN_sub : ∀ (n : Nat) (p q : Pt), q ∈ partsN n p → (OkP p → OkP q) ∧ szT q ≤ szT p ∧ dpT q ≤ dpT p
  | 0, p, q, h => by
    rw [partsN, List.mem_singleton] at h
    subst h
    exact ⟨id, Nat.le_refl _, Nat.le_refl _⟩
  | n + 1, p, q, h => by
    rw [partsN] at h
    cases e : namedP ["and"] 2 p with
    | false =>
      rw [e, if_neg Bool.false_ne_true, List.mem_singleton] at h
      subst h
      exact ⟨id, Nat.le_refl _, Nat.le_refl _⟩
    | true =>
      rw [e, if_pos rfl] at h
      obtain ⟨nm, a, b, rfl, _⟩ := named2 e
      have hs : szT (.t nm [a, b]) = 1 + (szT a + szT b) := by rw [szT, szL, szL, szL]; omega
      have hd : dpT (.t nm [a, b]) = 1 + max (dpT a) (dpT b) := by rw [dpT, dpL, dpL, dpL]; omega
      rcases List.mem_cons.mp h with g | h
      · have g' : q = a := g
        rw [g']
        exact ⟨fun o => o.two.1, by omega, by omega⟩
      · obtain ⟨g1, g2, g3⟩ := partsN_sub n b q h
        exact ⟨fun o => g1 o.two.2, by omega, by omega⟩
theorem partsN_len : ∀ (n : Nat) (p : Pt), (partsN n p).length ≤ szT p
  | 0, p => by
    rw [partsN]
    exact szT_pos p
  | n + 1, p => by
    rw [partsN]
    cases e : namedP ["and"] 2 p with
    | false =>
      rw [if_neg Bool.false_ne_true]
      exact szT_pos p
    | true =>
      rw [if_pos rfl]
      obtain ⟨nm, a, b, rfl, _⟩ := named2 e
      have hs : szT (.t nm [a, b]) = 1 + (szT a + szT b) := by rw [szT, szL, szL, szL]; omega
      have := partsN_len n b
      rw [List.length_cons]
      show (partsN n b).length + 1 ≤ _
      omega
theorem all_take {α : Type} (g : α → Bool) (l : List α) (i : Nat) {x : α} (h : l[i]? = some x) (ht : (l.take i).all g = true) : (l.take (i + 1)).all g = g x := by
  rw [List.take_add_one, h, List.all_append, ht, Bool.true_and]
  simp
theorem all_no {α : Type} {g : α → Bool} {l : List α} {x : α} (h : x ∈ l) (e : g x = false) : l.all g = false := by
  rw [List.all_eq_false]
  exact ⟨x, h, by rw [e]; decide⟩
theorem ok_are_testsG {d : Nat} (F : Fun K "_are_tests" "_are_tests" s_are_tests f fd) (T : Txt mg) (C_parted_by_and : HasPartsA P w K mg base) (C_is_test : HasLook (d + 3) "is_test" d testP P w K mg base) : FnOk P w K mg base CX0 (d + 4) f fd ["reading"] (spLook K d testsP) := by
  refine F.ok sc_are_tests (fun vs H Q E h => ?_) (fun cdv A outer s H vs Q E hr h => ?_)
  · obtain ⟨v, k, p, rfl, _⟩ := h
    rfl
  obtain ⟨v, k, p, rfl, hp, ok, hz, hd, q⟩ := h
  refine ⟨_, (pss_cons (ps_set (i := 1) sc_are_tests.nd rfl (Or.inl rfl) (pe_callH C_parted_by_and hr (pa_cons (pv 0) pa_nil) (hk := by omega)))
    (pss_cons (ps_for PassesOwn.never rfl (pi_list (pv 1)) (pg_name (i := 2) sc_are_tests.nd rfl (.inl rfl))
      (pss_one (ps_if (pt_not (pt_val (pe_callH C_is_test hr (pa_cons (pv 2) pa_nil) (hk := by omega))))
      (pss_one (ps_ret pe_bl))
      pss_nil)))
    (pss_one (ps_ret (pe_cmpR op_le (pe_callB (call_lenK (K := K)) (by rfl) T.z_len (by decide +kernel) (pa_cons (pv 1) pa_nil)) (pe_globI rfl T.c_TESTS) (nomark _)))))), ?_⟩
  walk_at "sx"
  refine ⟨v, k, p, rfl, hp, hz, fun a us G na sG ea hu => ?_⟩
  have hlen := partsN_len (szT p) p
  have hlu := hu.1
  unfold testsP at q
  walk_at "sx"
  refine x_forL (K := K) (a := a) (xs := us) (fun i σ' G' => ∃ x2 : Option V, σ' = [some v, some (.ref a), x2] ∧ Same G G' ∧ ((partsA p).take i).all testP = true) ⟨none, rfl, same_refl _, rfl⟩ (fun i σ' G' _ h => by obtain ⟨_, _, h, _⟩ := h; exact .of (h _ _ ea)) ?_ ?_ (.of ea)
  · rintro i x σ' G' hx ⟨x2, rfl, sG', ht⟩
    obtain ⟨u, hu1, pu⟩ := hu.at hx
    obtain ⟨o1, o2, o3⟩ := partsN_sub (szT p) p u (List.mem_of_getElem? hu1)
    walk_at "sx"
    refine ⟨x, k, u, rfl, pu.same sG', o1 ok, by omega, by omega, fun G2 s2 => ?_⟩
    cases et : testP u with
    | false =>
      walk_at "sx"
      rw [all_no (List.mem_of_getElem? hu1) et, Bool.false_and] at q
      exact q _ ((sG.trans sG').trans s2)
    | true =>
      walk_at "sx"
      exact ⟨_, rfl, sG'.trans s2, by rw [all_take _ _ _ hu1 ht, et]⟩
  · rintro σ' G' ⟨x2, rfl, sG', ht⟩
    have ea' := sG' _ _ ea
    rw [hlu, List.take_length] at ht
    rw [ht, Bool.true_and] at q
    walk_at "sx"
    have e : decide ((us.length : Int) ≤ 4) = decide ((partsA p).length ≤ 4) := by
      rw [decide_eq_decide, hlu]
      omega
    rw [e]
    exact q _ (sG.trans sG')
theorem range_parts {p : Pt} (h : rangeP p = true) : ∃ z s, p = .t "in" [.s z, s] ∧ unkS z = true ∧ spanP s = true ∧ rname p = z := by
  unfold rangeP at h
  rw [Bool.and_eq_true, Bool.and_eq_true] at h
  obtain ⟨h1, h2, h3⟩ := h
  obtain ⟨nm, a, b, rfl, hn⟩ := named2 h1
  rw [List.mem_singleton] at hn
  subst hn
  have h2' : unk a = true := h2
  cases a with
  | i n => cases h2'
  | t nm ps => cases h2'
  | s z => exact ⟨z, b, rfl, h2', h3, rfl⟩
theorem ok_is_boxG {d : Nat} (F : Fun K "_is_box" "_is_box" s_is_box f fd) (T : Txt mg) (C_parted_by_and : HasPartsA P w K mg base) (C_is_range : HasLook (d + 3) "_is_range" d rangeP P w K mg base) (C_unknowns_of : Has P w K mg base 2 "unknowns_of" ["pattern"] (spUnknowns K)) : FnOk P w K mg base CX0 (d + 4) f fd ["reading"] (spLook K d boxP) := by
  refine F.ok sc_is_box (fun vs H Q E h => ?_) (fun cdv A outer s H vs Q E hr h => ?_)
  · obtain ⟨v, k, p, rfl, _⟩ := h
    rfl
  obtain ⟨v, k, p, rfl, hp, ok, hz, hd, q⟩ := h
  refine ⟨_, (pss_cons (ps_set (i := 1) sc_is_box.nd rfl (Or.inl rfl) (pe_callH C_parted_by_and hr (pa_cons (pv 0) pa_nil) (hk := by omega)))
    (pss_cons (ps_for PassesOwn.never rfl (pi_list (pv 1)) (pg_name (i := 2) sc_is_box.nd rfl (.inl rfl))
      (pss_one (ps_if (pt_not (pt_val (pe_callH C_is_range hr (pa_cons (pv 2) pa_nil) (hk := by omega))))
      (pss_one (ps_ret pe_bl))
      pss_nil)))
    (pss_cons (ps_setLc (i := 3) (own := [("part", 2)]) (g := gName 2) (tt := tYes) rfl sc_is_box.nd rfl rfl (sw_true rfl rfl rfl (by decide +kernel)) (pi_list (pv 1)) (blkOk_by (own := [("part", 2)]) (N := ["reading", "ranges", "part", "names", "unknown"]) (sc := defScope s_is_box) (by decide +kernel)) (fun _ _ _ _ _ => pg_name (i := 2) sc_is_box.nd rfl (Or.inl rfl)) (fun _ _ _ _ _ => pts_nil) (fun _ _ _ _ _ => (pe_ix (ix_tupK (K := K)) (pv 2) pe_int (fun _ _ => rfl))))
    (pss_cons (ps_if (PW.pt (pw_or (pt_cmpR op_gt (pe_callB (call_lenK (K := K)) (by rfl) T.z_len (by decide +kernel) (pa_cons (pv 1) pa_nil)) (pe_globI rfl T.c_RANGES) (nomark _)) (pw_or1 (pt_cmpR op_lt (pe_lenTx rfl T.z_len rfl T.z_set (pv 3)) (pe_callB (call_lenK (K := K)) (by rfl) T.z_len (by decide +kernel) (pa_cons (pv 3) pa_nil)) (nomark _)))))
      (pss_one (ps_ret pe_bl))
      pss_nil)
    (pss_cons (ps_for PassesOwn.never rfl (pi_list (pv 1)) (pg_name (i := 2) sc_is_box.nd rfl (.inl rfl))
      (pss_one (ps_for PassesOwn.never rfl (pi_list (pe_callH C_unknowns_of hr (pa_cons (pe_ix (ix_tupK (K := K)) (pv 2) pe_int (fun _ _ => rfl)) pa_nil) (hk := by omega))) (pg_name (i := 4) sc_is_box.nd rfl (.inl rfl))
      (pss_one (ps_if (pt_cmpR (op_inK (K := K)) (pv 4) (pv 3) (by first | exact nomark _ | rfl))
      (pss_one (ps_ret pe_bl))
      pss_nil)))))
    (pss_one (ps_ret pe_bl))))))), ?_⟩
  walk_at "sx"
  refine ⟨v, k, p, rfl, hp, hz, fun a us G na sG ea hu => ?_⟩
  have hlen := partsN_len (szT p) p
  have hlu := hu.1
  have hmem : ∀ u ∈ partsA p, (OkP p → OkP u) ∧ szT u ≤ szT p ∧ dpT u ≤ dpT p := fun u h => partsN_sub (szT p) p u h
  unfold boxP at q
  generalize hrs : partsA p = rs at *
  have hlen' : rs.length ≤ szT p := by
    rw [← hrs]
    exact hlen
  walk_at "sx"
  refine x_forL (K := K) (a := a) (xs := us) (fun i σ' G' => ∃ x2 : Option V, σ' = [some v, some (.ref a), x2, none, none] ∧ Same G G' ∧ (rs.take i).all rangeP = true) ⟨none, rfl, same_refl _, rfl⟩ (fun i σ' G' _ h => by obtain ⟨_, _, h, _⟩ := h; exact .of (h _ _ ea)) ?_ ?_ (.of ea)
  · rintro i x σ' G' hx ⟨x2, rfl, sG', ht⟩
    obtain ⟨u, hu1, pu⟩ := hu.at hx
    obtain ⟨o1, o2, o3⟩ := hmem u (List.mem_of_getElem? hu1)
    walk_at "sx"
    refine ⟨x, k, u, rfl, pu.same sG', o1 ok, by omega, by omega, fun G2 s2 => ?_⟩
    cases et : rangeP u with
    | false =>
      walk_at "sx"
      rw [all_no (List.mem_of_getElem? hu1) et, Bool.false_and, Bool.false_and] at q
      exact q _ ((sG.trans sG').trans s2)
    | true =>
      walk_at "sx"
      exact ⟨_, rfl, sG'.trans s2, by rw [all_take _ _ _ hu1 ht, et]⟩
  · rintro σ' G' ⟨x2, rfl, sG', ht⟩
    have ea' := sG' _ _ ea
    have s0' := sG.trans sG'
    rw [hlu, List.take_length] at ht
    rw [ht, Bool.true_and] at q
    have allr : ∀ u ∈ rs, rangeP u = true := List.all_eq_true.mp ht
    have hu' := hu.same sG'
    walk_at "sx"
    refine x_lcML (R := fun H v p => PtAt K H k v p) (S := fun _ v (y : Str) => v = .str y) rname (.of ea') (fun G k => .of (k _ _ ea')) ⟨hu'.1, hu'.2⟩ (fun s h => h.same s) (fun _ _ _ _ _ h => h) (by omega) (fun G3 v3 u kG hm hv Q' P' q' => ?_) (fun D G3 us3 hD kG eD hu3 => ?_)
    · obtain ⟨z, sp, rfl, _, _, en⟩ := range_parts (allr u hm)
      obtain ⟨j, r, x, y, rfl, rfl, sa, g1, g2⟩ := hv.two
      obtain ⟨j', rfl⟩ : ∃ j', j = j' + 1 := by
        cases j with
        | zero => exact g1.elim
        | succ j' => exact ⟨j', rfl⟩
      have ex : x = .str z := g1
      subst ex
      walk_at "sx"
      refine ⟨rfl, ?_⟩
      walk_at "sx"
      exact q' _ _ (same_refl _) (by rw [en])
    have eus : us3 = (rs.map rname).map V.str := by
      refine List.ext_getElem? fun i => ?_
      cases e : us3[i]? with
      | none =>
        have h1 := List.getElem?_eq_none_iff.mp e
        have := hu3.1
        exact (List.getElem?_eq_none (by rw [List.length_map]; omega)).symm
      | some v =>
        have hi := (List.getElem?_eq_some_iff.mp e).1
        have h1 := hu3.1
        have h2 : (rs.map rname)[i]? = some ((rs.map rname)[i]'(by omega)) := List.getElem?_eq_getElem _
        have h3 := hu3.2 i v _ e h2
        rw [List.getElem?_map, h2, h3]
        rfl
    subst eus
    have ea3 := kG _ _ ea'
    have s03 := s0'.trans kG
    walk_at "sx"
    refine x_ite (fun c => ?_) (fun c => ?_)
    · have c' : 3 < rs.length := by
        have : (3 : Int) < (us.length : Int) := c
        omega
      walk_at "sx"
      rw [decide_eq_true c', Bool.true_or] at q
      exact q _ s03
    have c' : ¬ 3 < rs.length := fun h => c (by show (3 : Int) < (us.length : Int); omega)
    rw [decide_eq_false c', Bool.false_or] at q
    walk_at "sx"
    refine x_lenTx ?_
    walk_at "sx"
    refine ⟨D, rs.map rname, rfl, .of eD, by rw [List.length_map]; omega, ?_⟩
    walk_at "sx"
    refine x_ite (fun c2 => ?_) (fun c2 => ?_)
    · have c2' : (once (rs.map rname)).length < rs.length := by
        have : ((once (rs.map rname)).length : Int) < (((rs.map rname).map V.str).length : Int) := c2
        rw [List.length_map, List.length_map] at this
        omega
      walk_at "sx"
      rw [decide_eq_true c2'] at q
      exact q _ s03
    have c2' : ¬ (once (rs.map rname)).length < rs.length := fun h => c2 (by
      show ((once (rs.map rname)).length : Int) < (((rs.map rname).map V.str).length : Int)
      rw [List.length_map, List.length_map]
      omega)
    rw [decide_eq_false c2'] at q
    have q2 : ∀ H', Same H H' → Q (.bl (rs.all fun r => (once (nmT (kid 1 r))).all fun u => !decide (u ∈ rs.map rname))) H' := q
    walk_at "sx"
    refine x_forL (K := K) (a := a) (xs := us) (fun i σ' G' => ∃ x2 x4 : Option V, σ' = [some v, some (.ref a), x2, some (.ref D), x4] ∧ Same G3 G' ∧ ((rs.take i).all fun r => (once (nmT (kid 1 r))).all fun u => !decide (u ∈ rs.map rname)) = true) ⟨_, none, rfl, same_refl _, rfl⟩ (fun i σ' G' _ h => by obtain ⟨_, _, _, h, _⟩ := h; exact .of (h _ _ ea3)) ?_ ?_ (.of ea3)
    · rintro i x σ' G4 hx ⟨x2, x4, rfl, s4, ht4⟩
      obtain ⟨u, hu1, pu⟩ := hu.at hx
      have hur := List.mem_of_getElem? hu1
      obtain ⟨o1, o2, o3⟩ := hmem u hur
      obtain ⟨z, sp, rfl, _, _, en⟩ := range_parts (allr u hur)
      have s34 := (sG'.trans kG).trans s4
      obtain ⟨j, r, x, y, rfl, rfl, sa, g1, g2⟩ := (pu.same s34).two
      rw [szT, szL, szL, szL] at o2
      walk_at "sx"
      refine ⟨y, j, sp, fun _ => True, rfl, g2, (o1 ok).two.2, by omega, fun la G5 nla s5 ela => ?_⟩
      have eD5 := s5 _ _ (s4 _ _ eD)
      walk_at "sx"
      refine x_forL (K := K) (a := la) (xs := (once (nmT sp)).map V.str) (fun m σ' G' => ∃ x4 : Option V, σ' = [some v, some (.ref a), some (.ref r), some (.ref D), x4] ∧ Same G5 G' ∧ (((once (nmT sp)).take m).all fun u => !decide (u ∈ rs.map rname)) = true) ⟨_, rfl, same_refl _, rfl⟩ (fun m σ' G' _ h => by obtain ⟨_, _, h, _⟩ := h; exact .of (h _ _ ela)) ?_ ?_ (.of ela)
      · rintro m y2 σ' G6 hy2 ⟨x5, rfl, s6, ht6⟩
        obtain ⟨z2, hz2, rfl⟩ : ∃ z2, (once (nmT sp))[m]? = some z2 ∧ y2 = .str z2 := by
          rw [List.getElem?_map] at hy2
          cases e : (once (nmT sp))[m]? with
          | none =>
            rw [e] at hy2
            cases hy2
          | some z2 =>
            rw [e] at hy2
            exact ⟨z2, rfl, (Option.some.inj hy2).symm⟩
        walk_at "sx"
        refine ⟨D, _, rfl, .inl (.of (s6 _ _ eD5)), rfl, by rw [List.all_map]; exact List.all_eq_true.mpr fun _ _ => rfl, ?_⟩
        have e0 : (if false = true then !inV (V.str z2) ((rs.map rname).map V.str) else inV (V.str z2) ((rs.map rname).map V.str)) = decide (z2 ∈ rs.map rname) := by
          rw [if_neg Bool.false_ne_true, inV_strs]
        rw [e0]
        by_cases hin : z2 ∈ rs.map rname
        · rw [decide_eq_true hin]
          walk_at "sx"
          have e1 : (rs.all fun r => (once (nmT (kid 1 r))).all fun u => !decide (u ∈ rs.map rname)) = false := all_no hur (all_no (l := once (nmT (kid 1 (.t "in" [.s z, sp])))) (List.mem_of_getElem? hz2) (by rw [decide_eq_true hin]; rfl))
          rw [e1] at q2
          exact q2 _ (((s03.trans s4).trans s5).trans s6)
        · rw [decide_eq_false hin]
          walk_at "sx"
          exact ⟨_, rfl, s6, by rw [all_take _ _ _ hz2 ht6, decide_eq_false hin]; rfl⟩
      · rintro σ' G6 ⟨x5, rfl, s6, ht6⟩
        rw [List.length_map, List.take_length] at ht6
        walk_at "sx"
        exact ⟨_, _, rfl, (s4.trans s5).trans s6, by rw [all_take _ _ _ hu1 ht4]; exact ht6⟩
    · rintro σ' G4 ⟨x2, x4, rfl, s4, ht4⟩
      rw [hlu, List.take_length] at ht4
      rw [ht4] at q2
      walk_at "sx"
      exact q2 _ (s03.trans s4)
theorem ok_is_fieldG {d : Nat} (F : Fun K "is_field" "is_field" s_is_field f fd) (T : Txt mg) (C_is_named : HasNamedG P w K mg base) (C_is_box : HasLook (d + 4) "_is_box" d boxP P w K mg base) (C_are_tests : HasLook (d + 4) "_are_tests" d testsP P w K mg base) : FnOk P w K mg base CX0 (d + 5) f fd ["reading"] (spLook K d fieldQ) := by
  refine F.ok sc_is_field (fun vs H Q E h => ?_) (fun cdv A outer s H vs Q E hr h => ?_)
  · obtain ⟨v, k, p, rfl, _⟩ := h
    rfl
  obtain ⟨v, k, p, rfl, hp, ok, hz, hd, q⟩ := h
  refine ⟨_, (pss_cons (ps_if (pt_val (pe_callH C_is_named hr (pa_cons (pv 0) (pa_cons (pe_tup (pa_cons pe_str pa_nil)) (pa_cons pe_int pa_nil))) (hk := by omega)))
      (pss_one (ps_ret (pe_and (pe_callH C_is_box hr (pa_cons (pe_ix (ix_tupK (K := K)) (pv 0) pe_int (fun _ _ => rfl)) pa_nil) (hk := by omega)) (pe_one (pe_callH C_are_tests hr (pa_cons (pe_ix (ix_tupK (K := K)) (pv 0) pe_int (fun _ _ => rfl)) pa_nil) (hk := by omega))))))
      pss_nil)
    (pss_one (ps_ret (pe_callH C_is_box hr (pa_cons (pv 0) pa_nil) (hk := by omega))))), ?_⟩
  walk_at "sx"
  rename_i tp ntp
  have k1 : Same H (upd H tp (.tup [V.str "such"])) := same_upd ntp
  refine ⟨v, tp, k, 2, p, ["such"], rfl, hp.same k1, .of upd_same, ?_⟩
  unfold fieldQ at q
  cases en : namedP ["such"] 2 p with
  | false =>
    rw [en] at q
    walk_at "sx"
    exact ⟨v, k, p, rfl, hp.same k1, ok, hz, hd, fun G s1 => q _ (k1.trans s1)⟩
  | true =>
    rw [en] at q
    obtain ⟨nm, a, b, rfl, _⟩ := named2 en
    obtain ⟨j, r, x, y, rfl, rfl, sa, h1, h2⟩ := hp.two
    have sa1 := Same.sqT k1 sa
    obtain ⟨d1, d2, z1, z2⟩ := two_sd hd hz
    have q' : ∀ H', Same H H' → Q (.bl (boxP a && testsP b)) H' := q
    walk_at "sx"
    refine ⟨x, j, a, rfl, h1.same k1, ok.two.1, z1, d1, fun G s1 => ?_⟩
    have s01 := k1.trans s1
    have sa2 := Same.sqT s01 sa
    cases hb : boxP a with
    | false =>
      rw [hb] at q'
      walk_at "sx"
      exact q' _ s01
    | true =>
      rw [hb] at q'
      walk_at "sx"
      exact ⟨y, j, b, rfl, h2.same s01, ok.two.2, z2, d2, fun G2 s2 => q' _ (s01.trans s2)⟩
theorem ok_is_goalG {d : Nat} (F : Fun K "is_goal" "is_goal" s_is_goal f fd) (T : Txt mg) (C_is_relation : HasLook 3 "is_relation" d relP P w K mg base) (C_is_not : HasLook 4 "is_not" d notP P w K mg base) (C_is_likeness : HasLook 3 "is_likeness" d likeP P w K mg base) (C_is_reckoning : HasLook (d + 3) "is_reckoning" d reckP P w K mg base) (C_is_test : HasLook (d + 3) "is_test" d testP P w K mg base) (C_is_field : HasLook (d + 5) "is_field" d fieldQ P w K mg base) : FnOk P w K mg base CX0 (d + 6) f fd ["reading"] (spLook K d goalP) := by
  refine F.ok sc_is_goal (fun vs H Q E h => ?_) (fun cdv A outer s H vs Q E hr h => ?_)
  · obtain ⟨v, k, p, rfl, _⟩ := h
    rfl
  obtain ⟨v, k, p, rfl, hp, ok, hz, hd, q⟩ := h
  refine ⟨_, (pss_one (ps_ret (pe_or (pe_callH C_is_relation hr (pa_cons (pv 0) pa_nil) (hk := by omega)) (pe_or (pe_callH C_is_not hr (pa_cons (pv 0) pa_nil) (hk := by omega)) (pe_or (pe_callH C_is_likeness hr (pa_cons (pv 0) pa_nil) (hk := by omega)) (pe_or (pe_callH C_is_reckoning hr (pa_cons (pv 0) pa_nil) (hk := by omega)) (pe_or (pe_callH C_is_test hr (pa_cons (pv 0) pa_nil) (hk := by omega)) (pe_one (pe_callH C_is_field hr (pa_cons (pv 0) pa_nil) (hk := by omega)))))))))), ?_⟩
  unfold goalP at q
  walk_at "sx"
  refine ⟨v, k, p, rfl, hp, ok, hz, hd, fun G1 s1 => ?_⟩
  cases e1 : relP p with
  | true => rw [e1] at q; walk_at "sx"; exact q _ s1
  | false =>
  rw [e1, Bool.false_or] at q
  walk_at "sx"
  refine ⟨v, k, p, rfl, hp.same s1, ok, hz, hd, fun G2 s2 => ?_⟩
  have s12 := s1.trans s2
  cases e2 : notP p with
  | true => rw [e2] at q; walk_at "sx"; exact q _ s12
  | false =>
  rw [e2, Bool.false_or] at q
  walk_at "sx"
  refine ⟨v, k, p, rfl, hp.same s12, ok, hz, hd, fun G3 s3 => ?_⟩
  have s13 := s12.trans s3
  cases e3 : likeP p with
  | true => rw [e3] at q; walk_at "sx"; exact q _ s13
  | false =>
  rw [e3, Bool.false_or] at q
  walk_at "sx"
  refine ⟨v, k, p, rfl, hp.same s13, ok, hz, hd, fun G4 s4 => ?_⟩
  have s14 := s13.trans s4
  cases e4 : reckP p with
  | true => rw [e4] at q; walk_at "sx"; exact q _ s14
  | false =>
  rw [e4, Bool.false_or] at q
  walk_at "sx"
  refine ⟨v, k, p, rfl, hp.same s14, ok, hz, hd, fun G5 s5 => ?_⟩
  have s15 := s14.trans s5
  cases e5 : testP p with
  | true => rw [e5] at q; walk_at "sx"; exact q _ s15
  | false =>
  rw [e5, Bool.false_or] at q
  walk_at "sx"
  exact ⟨v, k, p, rfl, hp.same s15, ok, hz, hd, fun G6 s6 => q _ (s15.trans s6)⟩
end
end Gs
namespace Gs
open PySem PySem.Spec PyProof.Rows L2 TL SrtK
abbrev s_law_free : Stmt := PySem.Challenge.pw_goalstead_k21_sizes_as_read.main.body.getD 95 (.Pass ⟨0, 0, 0, 0⟩)
theorem sc_law_free : FnScope ["word", "ops", "barred", "turn", "row"] ["word", "ops"] (defScope s_law_free) := ⟨rfl, rfl, rfl, by decide +kernel, rfl, by decide +kernel, by decide +kernel⟩
theorem cut_drop20 {xs : List V} {j : Nat} (h : j ≤ xs.length) : cutV xs (some (j : Int)) none = xs.drop j := by
  unfold cutV
  rw [HT.sIx_none, HT.sIx_nat, Nat.min_eq_left h]
  rw [List.take_of_length_le (by rw [List.length_drop]; omega)]
theorem cut_take20 {xs : List V} {j : Nat} (h : j ≤ xs.length) : cutV xs none (some (j : Int)) = xs.take j := by
  unfold cutV
  rw [HT.sIx_none, HT.sIx_nat, Nat.min_eq_left h, List.drop_zero, Nat.sub_zero]
theorem own_head : ∀ o ∈ ownL, (∃ c t, tl o.n = c :: t ∧ (c ∈ sS ∨ c ∈ sM)) ∧ (o.n ∈ keptL ∨ o.n = ("mod" : Str) ∨ ∃ c t, tl o.n = c :: t ∧ c ∈ sM) := by
  have h : (ownL.all fun o => match tl o.n with | [] => false | c :: t => decide ((c ∈ sS ∨ c ∈ sM) ∧ (o.n ∈ keptL ∨ o.n = ("mod" : Str) ∨ c ∈ sM))) = true := by decide +kernel
  intro o ho
  have h2 := List.all_eq_true.mp h o ho
  cases e : tl o.n with
  | nil =>
    rw [e] at h2
    cases h2
  | cons c t =>
    rw [e] at h2
    obtain ⟨h3, h4⟩ := of_decide_eq_true h2
    refine ⟨⟨c, t, rfl, h3⟩, ?_⟩
    rcases h4 with h4 | h4 | h4
    · exact .inl h4
    · exact .inr (.inl h4)
    · exact .inr (.inr ⟨c, t, rfl, h4⟩)
/-- the first sign of an operator's name -/
theorem rows_head {ops : List Op} (k : OpsOk ops) : ∀ o ∈ ownL ++ ops, ∃ c t, tl o.n = c :: t ∧ (c ∈ sS ∨ c ∈ sM) := fun o ho => by
  rcases List.mem_append.mp ho with ho | ho
  · exact (own_head o ho).1
  · obtain ⟨way, c, t, e, h⟩ := k.nm o ho
    have hl := k.lc o ho c t e
    rcases h with ⟨_, hc, _⟩ | ⟨_, hc, _⟩ | ⟨_, hc, _⟩
    · exact ⟨c, t, e, .inl hc⟩
    · exact absurd hc hl
    · exact ⟨c, t, e, .inr hc⟩
/-- no operator begins so -/
theorem row_no {ops : List Op} (k : OpsOk ops) {z : Str} {c : Nat} {t : List Nat} (e : tl z = c :: t) (h1 : c ∉ sS) (h2 : c ∉ sM) (many : Nat) : rowOf (ownL ++ ops) z many = none := by
  cases er : rowOf (ownL ++ ops) z many with
  | none => rfl
  | some o =>
    obtain ⟨ho, hn, _⟩ := rowOf_some er
    obtain ⟨c', t', e', h⟩ := rows_head k o ho
    rw [hn, e] at e'
    obtain ⟨rfl, _⟩ := List.cons.inj e'
    exact absurd h (fun z => z.elim h1 h2)
theorem tab_ok {ops : List Op} (k : OpsOk ops) : TabOk (ownL ++ ops) := by
  refine ⟨rows_lv k, k.sid, fun z hz => ?_⟩
  have : ∃ c, tl z = [c] ∧ (c = 40 ∨ c = 41 ∨ c = 44) := by
    simp only [List.mem_cons, List.not_mem_nil, or_false] at hz
    rcases hz with rfl | rfl | rfl
    · exact ⟨40, tl_op, .inl rfl⟩
    · exact ⟨41, tl_cl, .inr (.inl rfl)⟩
    · exact ⟨44, by decide +kernel, .inr (.inr rfl)⟩
  obtain ⟨c, e, hc⟩ := this
  have h1 : c ∉ sS := by rw [sS_iff]; omega
  have h2 : c ∉ sM := by rcases hc with rfl | rfl | rfl <;> decide
  exact ⟨row_no k e h1 h2 1, row_no k e h1 h2 2⟩
theorem fig_no {ops : List Op} (k : OpsOk ops) (n : Int) (many : Nat) : rowOf (ownL ++ ops) (figS n) many = none := by
  have e := figS_tl n
  rw [figT] at e
  by_cases hm : n < 0
  · rw [if_pos hm] at e
    exact row_no k e (by decide) (by decide) many
  · rw [if_neg hm] at e
    cases en : numL n.toNat with
    | nil => exact absurd en (numL_ne _)
    | cons c t =>
      have hd := numL_D n.toNat c (by rw [en]; exact List.mem_cons_self ..)
      have := sD_iff.mp hd
      refine row_no k (by rw [e, en]) (by rw [sS_iff]; omega) (fun hm => ?_) many
      have := sM_all hm
      omega
theorem cls_no {c e : Nat} (h : e = 32 ∨ e = 40 ∨ e = 41 ∨ e = 44) : e ∉ cls c := by
  unfold cls
  split
  · rw [sD_iff]
    omega
  · split
    · rw [List.mem_append, sS_iff, sD_iff]
      omega
    · split
      · intro hm
        have := sM_all hm
        omega
      · simp
theorem OkBit.pc20 {z : Str} (h : OkBit (tl z)) : PcOk z := by
  obtain ⟨c, t, e, h1, h2⟩ := h.ex
  exact ⟨⟨c, t, e, h1, h2, fun e he => cls_no he⟩, h.pc⟩
theorem nm_pc {z : Str} (h : NmOk z) : PcOk z := by
  obtain ⟨way, h⟩ := h
  exact h.bit.pc20
theorem fig_pc (n : Int) (h : n.natAbs < 10 ^ 60) : PcOk (figS n) := by
  refine OkBit.pc20 ?_
  rw [figS_tl, figT]
  split
  · exact ok_neg (by omega) (by omega)
  · exact ok_num (by omega)
/-- a word free of operators -/
def FreeW (ops : List Op) (z : Str) : Prop := NameOk 0 (tl z) ∧ z ∉ keptL ∧ z ≠ ("mod" : Str) ∧ ∀ o ∈ ops, o.n ≠ z
theorem free_wd {ops : List Op} {z : Str} (h : FreeW ops z) : Wd (ownL ++ ops) z := by
  obtain ⟨hn, hk, hm, ho⟩ := h
  have l12 := (NmOk.len ⟨_, hn⟩)
  obtain ⟨c, t, e, hh⟩ := hn
  have hc : c ∈ sS := by
    rcases hh with ⟨_, hc, _⟩ | ⟨h, _⟩ | ⟨h, _⟩
    · exact hc
    · exact absurd h (by decide)
    · exact absurd h (by decide)
  have no : ∀ many, rowOf (ownL ++ ops) z many = none := fun many => by
    cases er : rowOf (ownL ++ ops) z many with
    | none => rfl
    | some o =>
      obtain ⟨hoR, hn, _⟩ := rowOf_some er
      rcases List.mem_append.mp hoR with hoR | hoR
      · rcases (own_head o hoR).2 with h | h | ⟨c', t', e', h⟩
        · exact absurd (hn ▸ h) hk
        · exact absurd (hn.symm.trans h) hm
        · rw [hn, e] at e'
          obtain ⟨rfl, _⟩ := List.cons.inj e'
          have := sM_all h
          have := sS_iff.mp hc
          omega
      · exact absurd hn (ho o hoR)
  exact ⟨⟨c, t, e, hc⟩, hk, no 1, no 2, l12⟩
theorem cap_unk {ops : List Op} (k : OpsOk ops) {z : Str} (h : NameOk 1 (tl z)) : Unk (ownL ++ ops) z := by
  have l12 := (NmOk.len ⟨_, h⟩)
  obtain ⟨c, t, e, hh⟩ := h
  have hc : c ∈ sC := by
    rcases hh with ⟨h, _⟩ | ⟨_, hc, _⟩ | ⟨h, _⟩
    · exact absurd h (by decide)
    · exact hc
    · exact absurd h (by decide)
  have := sC_iff.mp hc
  refine ⟨⟨c, t, e, hc⟩, row_no k e (by rw [sS_iff]; omega) (fun hm => ?_) 1, l12⟩
  have := sM_all hm
  omega
theorem sub_len {α : Type} [DecidableEq α] : ∀ {l m : List α}, l.Nodup → (∀ x ∈ l, x ∈ m) → l.length ≤ m.length
  | [], _, _, _ => Nat.zero_le _
  | x :: r, m, nd, h => by
    obtain ⟨h1, h2⟩ := List.nodup_cons.mp nd
    have hx := h x (List.mem_cons_self ..)
    have := sub_len (m := m.erase x) h2 fun y hy => (List.mem_erase_of_ne (fun z => h1 (by rw [z] at hy; exact hy))).mpr (h y (List.mem_cons_of_mem _ hy))
    rw [List.length_erase_of_mem hx] at this
    have := List.length_pos_of_mem hx
    rw [List.length_cons]
    omega
def zt (i : Nat) : Str := ("z" : Str) ++ Str.ofString (toString ((i : Nat) : Int))
theorem zt_nd : ((List.range 20).map zt).Nodup := by decide +kernel
theorem zt_no : ∀ z ∈ (List.range 20).map zt, z ∉ keptL ∧ z ≠ ("mod" : Str) := by decide +kernel
theorem zt_nm {i : Nat} (h : i < 20) : NameOk 0 (tl (zt i)) := by
  have hl := numL_len (k := 2) (n := i) (by decide) (by omega)
  refine ⟨122, numL i, ?_, .inl ⟨rfl, by decide, fun x hx => List.mem_append_right _ (numL_D i x hx), by omega⟩⟩
  show tl (("z" : Str) ++ Str.ofString (toString ((i : Nat) : Int))) = _
  rw [tl_append, tl_num, show tl ("z" : Str) = [122] from by decide +kernel]
  rfl
/-- not all of twenty words are barred -/
theorem zt_free {ops : List Op} (k : OpsOk ops) (h : ∀ i < 20, zt i ∈ keptL ++ [("mod" : Str)] ++ ops.map (·.n)) : False := by
  have hs : ∀ z ∈ (List.range 20).map zt, z ∈ ops.map (·.n) := fun z hz => by
    obtain ⟨i, hi, rfl⟩ := List.mem_map.mp hz
    have no := zt_no _ hz
    have := h i (List.mem_range.mp hi)
    rcases List.mem_append.mp this with h1 | h1
    · rcases List.mem_append.mp h1 with h1 | h1
      · exact absurd h1 no.1
      · exact absurd (List.mem_singleton.mp h1) no.2
    · exact h1
  have := sub_len zt_nd hs
  rw [List.length_map, List.length_map, List.length_range] at this
  have := k.len
  omega
def spFree (K : PySem.W.Frag) : Sp := fun vs H Q _ => ∃ (z : Str) (a : Addr) (es : List V) (ops : List Op), vs = [.str z, .ref a] ∧ NameOk 0 (tl z) ∧ H a = some (.lst es) ∧ RowsAt K H es ops ∧ OpsOk ops ∧ ∀ y H', Same H H' → FreeW ops y → Q (.str y) H'
section
variable {P : Program} {w : World} {K : PySem.W.Frag} {mg : Str → Option Value} {base : Heap} {f : Addr} {fd : FuncData}
def HasFree (P : Program) (w : World) (K : PySem.W.Frag) (mg : Str → Option Value) (base : Heap) : Prop := Has P w K mg base 2 "_law_free" ["word", "ops"] (spFree K)
theorem ok_law_free (F : Fun K "_law_free" "_law_free" s_law_free f fd) (T : Txt mg) (C_law_kept : HasKept P w K mg base) : FnOk P w K mg base CX0 2 f fd ["word", "ops"] (spFree K) := by
  refine F.ok sc_law_free (fun vs H Q E h => ?_) (fun cdv A outer s H vs Q E hr h => ?_)
  · obtain ⟨z, a, es, ops, rfl, _⟩ := h
    rfl
  obtain ⟨z, a, es, ops, rfl, hz, ha, hro, oko, q⟩ := h
  have l7 := oko.len
  have hes : es.length = ops.length := hro.1
  refine ⟨_, (pss_cons (ps_set (i := 2) sc_law_free.nd rfl (Or.inl rfl) (pe_op op_cat (pe_op op_cat (pe_callH0 C_law_kept hr) (pe_lst (pa_cons pe_str pa_nil))) (pe_lc (own := [("row", 4)]) (g := gName 4) (tt := tYes) rfl sc_law_free.nd (pi_list (pv 1)) (blkOk_by (own := [("row", 4)]) (N := ["word", "ops", "barred", "turn", "row"]) (sc := defScope s_law_free) (by decide +kernel)) (fun _ _ _ _ _ => pg_name (i := 4) sc_law_free.nd rfl (Or.inl rfl)) (fun _ _ _ _ _ => pts_nil) (fun _ _ _ _ _ => (pe_ix (ix_tupK (K := K)) (pv 4) pe_int (fun _ _ => rfl))))))
    (pss_cons (ps_for PassesOwn.never rfl (pi_range1 (by rfl) T.z_range (pa_cons pe_int pa_nil)) (pg_name (i := 3) sc_law_free.nd rfl (.inl rfl))
      (pss_one (ps_if (pt_cmpR (op_inK (K := K)) (pv 0) (pv 2) (by first | exact nomark _ | rfl))
      (pss_one (ps_set (i := 0) sc_law_free.nd rfl (Or.inl rfl) (pe_op op_add_str pe_str (pe_callTy call_str_int (by rfl) T.z_str (by decide +kernel) (pa_cons (pv 3) pa_nil)))))
      pss_nil)))
    (pss_one (ps_ret (pv 0))))), ?_⟩
  walk_at "sx"
  refine ⟨rfl, fun kq G nk hk sk => ?_⟩
  walk_at "sx"
  rename_i o1 no1 o2 no2
  have s1 := same_upd (o := .lst [.str ("mod" : Str)]) no1
  have s2 := same_upd (o := .lst (keptL.map V.str ++ [.str ("mod" : Str)])) no2
  have sA := (sk.trans s1).trans s2
  have aA := sA _ _ ha
  have rA := hro.same sA
  have o22 : upd (upd G o1 (.lst [.str ("mod" : Str)])) o2 (.lst (keptL.map V.str ++ [.str ("mod" : Str)])) o2 = some (.lst (keptL.map V.str ++ [.str ("mod" : Str)])) := upd_same
  generalize upd (upd G o1 (.lst [.str ("mod" : Str)])) o2 (.lst (keptL.map V.str ++ [.str ("mod" : Str)])) = G2 at *
  walk_at "sx"
  refine x_lcML (R := fun H v (o : Op) => ∃ t, v = .ref t ∧ SqT K H t (rowV o)) (S := fun H v (y : Str) => v = .str y) (fun o => o.n) (.of aA) (fun G' k' => .of (k' _ _ aA)) ⟨rA.1, rA.2⟩ (fun s ⟨t, e, h⟩ => ⟨t, e, Same.sqT s h⟩) (fun _ _ _ _ _ h => h) (by omega) (fun G3 v x kG hx hv Q' P' q' => ?_) (fun D G3 us hD kG eD hu => ?_)
  · obtain ⟨t, rfl, st⟩ := hv
    walk_at "sx"
    refine ⟨rfl, ?_⟩
    walk_at "sx"
    exact q' _ _ (same_refl _) rfl
  have eus : us = (ops.map (·.n)).map V.str := by
    refine List.ext_getElem? fun i => ?_
    cases e : us[i]? with
    | none =>
      have h1 := List.getElem?_eq_none_iff.mp e
      have := hu.1
      rw [List.length_map] at this
      exact (List.getElem?_eq_none (by rw [List.length_map, List.length_map]; omega)).symm
    | some v =>
      have hi := (List.getElem?_eq_some_iff.mp e).1
      have h1 := hu.1
      have h2 : (ops.map fun o => o.n)[i]? = some ((ops.map fun o => o.n)[i]'(by omega)) := List.getElem?_eq_getElem _
      have h3 := hu.2 i v _ e h2
      rw [List.getElem?_map, h2, h3]
      rfl
  subst eus
  walk_at "sx"
  refine x_cat (kG _ _ o22) eD (sz (by have h15 : keptL.length = 15 := (by decide +kernel); simp only [List.length_append, List.length_map, List.length_singleton]; omega)) fun bq nbq => ?_
  have ebs : keptL.map V.str ++ [.str ("mod" : Str)] ++ (ops.map (·.n)).map V.str = (keptL ++ [("mod" : Str)] ++ ops.map (·.n)).map V.str := by simp
  rw [ebs]
  have sB : Same H (upd G3 bq (.lst ((keptL ++ [("mod" : Str)] ++ ops.map (·.n)).map V.str))) := (sA.trans kG).trans (same_upd nbq)
  have bqq : upd G3 bq (.lst ((keptL ++ [("mod" : Str)] ++ ops.map (·.n)).map V.str)) bq = some (.lst ((keptL ++ [("mod" : Str)] ++ ops.map (·.n)).map V.str)) := upd_same
  generalize upd G3 bq (.lst ((keptL ++ [("mod" : Str)] ++ ops.map (·.n)).map V.str)) = G4 at *
  walk_at "sx"
  refine x_forR1 (n := 20) (fun i σ' G => ∃ (y : Str) (x3 : Option V), σ' = [some (.str y), some (.ref a), some (.ref bq), x3, none] ∧ NameOk 0 (tl y) ∧ (y ∉ keptL ++ [("mod" : Str)] ++ ops.map (·.n) ∨ ∀ j < i, zt j ∈ keptL ++ [("mod" : Str)] ++ ops.map (·.n)) ∧ G = G4) (by omega) (by omega) ?_ (fun i σ' G hi h => ?_) (fun σ' G h => ?_)
  · exact ⟨z, none, rfl, hz, .inr fun j hj => absurd hj (Nat.not_lt_zero _), rfl⟩
  · obtain ⟨y, x3, rfl, hy, hb, rfl⟩ := h
    walk_at "sx"
    refine ⟨bq, _, rfl, .inl (.of bqq), rfl, by rw [List.all_map]; exact List.all_eq_true.mpr fun x _ => rfl, ?_⟩
    rw [if_neg (by decide), inV_strs]
    by_cases hin : y ∈ keptL ++ [("mod" : Str)] ++ ops.map (·.n)
    · rw [decide_eq_true hin]
      have hb2 := hb.resolve_left (fun h => h hin)
      walk_at "sx"
      refine x_strI (strLog20 (by omega)) ?_
      refine x_addS (sz (by
        have h60 := numL_len (k := 2) (n := i) (by decide) (by omega)
        have : (Str.ofString (toString ((i : Nat) : Int))).length = (numL i).length := by rw [← tl_lenP, tl_num]
        have l1 : ("z" : Str).length = 1 := by decide +kernel
        omega)) ?_
      walk_at "sx"
      refine ⟨zt i, _, rfl, zt_nm (by omega), ?_, rfl⟩
      by_cases hz2 : zt i ∈ keptL ++ [("mod" : Str)] ++ ops.map (·.n)
      · refine .inr fun j hj => ?_
        rcases Nat.lt_or_ge j i with h | h
        · exact hb2 j h
        · rw [show j = i by omega]
          exact hz2
      · exact .inl hz2
    · rw [decide_eq_false hin]
      walk_at "sx"
      exact ⟨y, _, rfl, hy, .inl hin, rfl⟩
  · obtain ⟨y, x3, rfl, hy, hb, rfl⟩ := h
    walk_at "sx"
    have hin : y ∉ keptL ++ [("mod" : Str)] ++ ops.map (·.n) := by
      rcases hb with h | h
      · exact h
      · exact (zt_free oko h).elim
    rw [List.mem_append, List.mem_append] at hin
    exact q y _ sB ⟨hy, fun h => hin (.inl (.inl h)), fun h => hin (.inl (.inr (List.mem_singleton.mpr h))), fun o ho h => hin (.inr (List.mem_map.mpr ⟨o, ho, h⟩))⟩
/-- a thing that is read back -/
structure ThOk (ops : List Op) (u : Pt) : Prop where
  nm : okT NmOk NmOk u
  rd : rdT (ownL ++ ops) u
  nk : okT (fun _ => True) NoK u
def GoodNm (ops : List Op) (nm : Str) (m : Nat) : Prop := 1 ≤ m ∧ m ≤ 4 ∧ NmOk nm ∧ nm ∉ keptL ∧ (rowOf (ownL ++ ops) nm m = none → Wd (ownL ++ ops) nm)
theorem ThOk.made {ops : List Op} {nm : Str} {ps : List Pt} (g : GoodNm ops nm ps.length) (h : ∀ p ∈ ps, ThOk ops p) : ThOk ops (.t nm ps) := by
  obtain ⟨g1, g2, g3, g4, g5⟩ := g
  have rdl : ∀ ps : List Pt, (∀ p ∈ ps, ThOk ops p) → rdL (ownL ++ ops) ps := fun ps => by
    induction ps with
    | nil => exact fun _ => trivial
    | cons x r ih => exact fun h => ⟨(h x (List.mem_cons_self ..)).rd, ih fun p hp => h p (List.mem_cons_of_mem _ hp)⟩
  exact ⟨⟨g3, by omega, g2, okL_mem.mpr fun p hp => (h p hp).nm⟩, ⟨by omega, g2, g5, rdl ps h⟩, ⟨g4, by omega, g2, okL_mem.mpr fun p hp => (h p hp).nk⟩⟩
end
end Gs
namespace Gs
open PySem PySem.Spec PyProof.Rows L2 TL SrtK
/-! ### a pattern spelt with needless brackets -/
def joinC : List (List Str) → List Str
  | [] => []
  | [t] => t
  | t :: u :: r => t ++ ("," : Str) :: joinC (u :: r)
theorem joinC_commas : ∀ {zss : List (List Str)}, 0 < zss.length → commas zss = joinC zss ++ [(")" : Str)]
  | [], h => absurd h (by simp)
  | [t], _ => rfl
  | t :: u :: r, _ => by
    show t ++ ("," : Str) :: commas (u :: r) = (t ++ ("," : Str) :: joinC (u :: r)) ++ _
    rw [joinC_commas (zss := u :: r) (by simp)]
    simp
theorem joinC_snoc : ∀ (zss : List (List Str)) (z : List Str), joinC (zss ++ [z]) = joinC zss ++ (if zss.length = 0 then [] else [("," : Str)]) ++ z
  | [], z => by simp [joinC]
  | [t], z => by simp [joinC]
  | t :: u :: r, z => by
    show t ++ ("," : Str) :: joinC ((u :: r) ++ [z]) = (t ++ ("," : Str) :: joinC (u :: r)) ++ _ ++ z
    rw [joinC_snoc (u :: r) z]
    simp
/-- what is told of a spelling, no pair of brackets round it yet -/
structure Spl0 (R : List Op) (lv : Int) (held : Int) (u : Pt) (zs : List Str) : Prop where
  sp : ∀ d, 2 * dpT u ≤ d + 1 → ∃ lev, lev ≤ lv ∧ Spt R d lev u zs
  ok : ∀ z ∈ zs, OkBit (tl z)
  op : Opn zs (12 - held)
  ln : zs.length + 3 ≤ 5 * szT u
structure Spl (R : List Op) (lv : Int) (held : Int) (u : Pt) (zs : List Str) : Prop where
  sp : ∀ d, 2 * dpT u ≤ d → ∃ lev, lev ≤ lv ∧ Spt R d lev u zs
  ok : ∀ z ∈ zs, OkBit (tl z)
  op : Opn zs (12 - held)
  ln : zs.length + 1 ≤ 5 * szT u
theorem ok_open : OkBit (tl ("(" : Str)) := by rw [tl_op]; exact ok_sign (.inl rfl)
theorem ok_shut : OkBit (tl (")" : Str)) := by rw [tl_cl]; exact ok_sign (.inr (.inl rfl))
theorem ok_comma : OkBit (tl ("," : Str)) := by rw [show tl ("," : Str) = [44] from by decide +kernel]; exact ok_sign (.inr (.inr rfl))
def RvAt (K : PySem.W.Frag) (H : Hp) (v : V) : Option Op → Prop
  | none => v = .non
  | some o => ∃ t, v = .ref t ∧ SqT K H t (rowV o)
theorem RvAt.same {K : PySem.W.Frag} {H G : Hp} {v : V} {r : Option Op} (h : RvAt K H v r) (s : Same H G) : RvAt K G v r := by
  cases r with
  | none => exact h
  | some o =>
    obtain ⟨t, e, st⟩ := h
    exact ⟨t, e, Same.sqT s st⟩
theorem RvAt.kx {K : PySem.W.Frag} {p l : Addr} {c : Int} {H G : Hp} {v : V} {r : Option Op} (h : RvAt K H v r) (k : Kx p l H G) (P : PoolAt H p l c) : RvAt K G v r := by
  cases r with
  | none => exact h
  | some o =>
    obtain ⟨t, e, st⟩ := h
    exact ⟨t, e, k.sqT P st⟩
theorem fig_bit (n : Int) (h : n.natAbs < 10 ^ 60) : OkBit (tl (figS n)) := by
  rw [figS_tl, figT]
  split
  · exact ok_neg (by omega) (by omega)
  · exact ok_num (by omega)
theorem nm_bit {z : Str} (h : NmOk z) : OkBit (tl z) := by
  obtain ⟨way, h⟩ := h
  exact h.bit
/-- the parts of a plain tuple, spelt -/
structure Prts (R : List Op) (held : Int) (ps : List Pt) (zss : List (List Str)) : Prop where
  len : zss.length = ps.length
  sp : ∀ (i : Nat) (p : Pt) (z : List Str), ps[i]? = some p → zss[i]? = some z → Spl R 9 held p z
  ln : (joinC zss).length + (if zss.length = 0 then 0 else 1) ≤ 5 * szL ps
theorem Prts.nil {R : List Op} {held : Int} : Prts R held [] [] := ⟨rfl, fun _ _ _ h => (by cases h), by simp [joinC]⟩
theorem Prts.snoc {R : List Op} {held : Int} {ps : List Pt} {zss : List (List Str)} {p : Pt} {z : List Str} (h : Prts R held ps zss) (hz : Spl R 9 held p z) : Prts R held (ps ++ [p]) (zss ++ [z]) := by
  have hl := h.len
  refine ⟨by rw [List.length_append, List.length_append, hl]; rfl, fun i q y h1 h2 => ?_, ?_⟩
  · by_cases c : i < ps.length
    · rw [List.getElem?_append_left c] at h1
      rw [List.getElem?_append_left (by omega)] at h2
      exact h.sp i q y h1 h2
    · rw [List.getElem?_append_right (by omega)] at h1
      rw [List.getElem?_append_right (by omega), hl] at h2
      cases e : i - ps.length with
      | zero =>
        rw [e] at h1 h2
        cases h1
        cases h2
        exact hz
      | succ j =>
        rw [e] at h1
        cases h1
  · have h1 := h.ln
    have h2 := hz.ln
    rw [joinC_snoc, szL_append, List.length_append, List.length_append, List.length_append, List.length_singleton]
    simp only [szL]
    by_cases c : zss.length = 0
    · rw [if_pos c] at h1 ⊢
      rw [if_neg (by omega)]
      rw [List.length_nil]
      omega
    · rw [if_neg c] at h1 ⊢
      rw [if_neg (by omega)]
      rw [List.length_singleton]
      omega
theorem sptL_of {R : List Op} {d : Nat} : ∀ {ps : List Pt} {zss : List (List Str)}, zss.length = ps.length → 0 < ps.length → (∀ (i : Nat) (p : Pt) (z : List Str), ps[i]? = some p → zss[i]? = some z → ∃ lev, lev ≤ 9 ∧ Spt R d lev p z) → SptL R d ps (commas zss)
  | [], _, _, h, _ => absurd h (by simp)
  | _ :: _, [], h, _, _ => by simp at h
  | [p], [z], _, _, h => by
    obtain ⟨lev, h1, h2⟩ := h 0 p z rfl rfl
    exact .one h2 h1
  | [_], _ :: _ :: _, h, _, _ => by simp at h
  | _ :: _ :: _, [_], h, _, _ => by simp at h
  | p :: q :: r, z :: y :: s, hl, _, h => by
    obtain ⟨lev, h1, h2⟩ := h 0 p z rfl rfl
    exact .cons h2 h1 (sptL_of (ps := q :: r) (zss := y :: s) (by simpa using hl) (by simp) fun i p z e1 e2 => h (i + 1) p z e1 e2)
theorem joinC_mem : ∀ {zss : List (List Str)} {z : Str}, z ∈ joinC zss → z = ("," : Str) ∨ ∃ t ∈ zss, z ∈ t
  | [], _, h => by cases h
  | [t], z, h => .inr ⟨t, List.mem_cons_self .., h⟩
  | t :: u :: r, z, h => by
    rcases List.mem_append.mp (show z ∈ t ++ ("," : Str) :: joinC (u :: r) from h) with h | h
    · exact .inr ⟨t, List.mem_cons_self .., h⟩
    · rcases List.mem_cons.mp h with h | h
      · exact .inl h
      · rcases joinC_mem h with h | ⟨s, h1, h2⟩
        · exact .inl h
        · exact .inr ⟨s, List.mem_cons_of_mem _ h1, h2⟩
theorem Prts.all {R : List Op} {held : Int} {nm : Str} {ps : List Pt} {zss : List (List Str)} (h : Prts R (held + 1) ps zss) (l0 : 0 < ps.length) (l4 : ps.length ≤ 4) (hw : Wd R nm) (hn : NmOk nm) (hh : held ≤ 11) : Spl0 R 0 held (.t nm ps) (nm :: ("(" : Str) :: (joinC zss ++ [(")" : Str)])) := by
  have hl := h.len
  rw [← joinC_commas (by omega)]
  have sg := wd_sign hw
  refine ⟨fun d hd => ?_, fun z hz => ?_, ?_, ?_⟩
  · rw [dpT] at hd
    obtain ⟨d, rfl⟩ : ∃ e, d = e + 1 := ⟨d - 1, by omega⟩
    refine ⟨0, Int.le_refl _, (Prim.comp hw l0 l4 (sptL_of hl l0 fun i p z h1 h2 => (h.sp i p z h1 h2).sp d ?_)).spt⟩
    have := dpL_mem (List.mem_of_getElem? h1)
    omega
  · rcases List.mem_cons.mp hz with rfl | hz
    · exact nm_bit hn
    · rcases List.mem_cons.mp hz with rfl | hz
      · exact ok_open
      · rw [joinC_commas (by omega)] at hz
        rcases List.mem_append.mp hz with hz | hz
        · rcases joinC_mem hz with rfl | ⟨t, h1, h2⟩
          · exact ok_comma
          · obtain ⟨i, hi⟩ := List.getElem?_of_mem h1
            have hil : i < ps.length := by
              have := (List.getElem?_eq_some_iff.mp hi).1
              omega
            exact (h.sp i _ t (List.getElem?_eq_getElem hil) hi).ok z h2
        · rw [List.mem_singleton.mp hz]
          exact ok_shut
  · refine opn_cons sg.1 sg.2 (fun m c => ?_) (by omega)
    rw [List.foldl_cons, mo_open]
    obtain ⟨m2, e2, h2⟩ := opn_commas (k := 12 - (held + 1)) (by omega) zss (by omega) (fun t ht => by
      obtain ⟨i, hi⟩ := List.getElem?_of_mem ht
      have hil : i < ps.length := by
        have := (List.getElem?_eq_some_iff.mp hi).1
        omega
      exact (h.sp i _ t (List.getElem?_eq_getElem hil) hi).op) (if c + 1 > m then c + 1 else m) (c + 1)
    refine ⟨m2, by rw [e2, Int.add_sub_cancel], ?_⟩
    split at h2 <;> omega
  · have := h.ln
    rw [if_neg (by omega)] at this
    rw [szT, List.length_cons, List.length_cons, joinC_commas (by omega), List.length_append, List.length_singleton]
    omega
end Gs
namespace Gs
open PySem PySem.Spec PyProof.Rows L2 TL SrtK
/-! ### spellings: how many names, how many brackets -/
def sgn (z : Str) : Bool := decide (z = ("(" : Str) ∨ z = (")" : Str) ∨ z = ("," : Str))
def nsg (ts : List Str) : Nat := ts.countP fun z => !sgn z
def brk (ts : List Str) : Nat := ts.countP fun z => decide (z = ("(" : Str))
theorem nsg_app (a b : List Str) : nsg (a ++ b) = nsg a + nsg b := List.countP_append
theorem brk_app (a b : List Str) : brk (a ++ b) = brk a + brk b := List.countP_append
theorem nsg_cons (z : Str) (b : List Str) : nsg (z :: b) = nsg b + (if sgn z = true then 0 else 1) := by
  unfold nsg
  rw [List.countP_cons]
  cases sgn z <;> rfl
theorem brk_cons (z : Str) (b : List Str) : brk (z :: b) = brk b + (if z = ("(" : Str) then 1 else 0) := by
  unfold brk
  rw [List.countP_cons]
  by_cases h : z = ("(" : Str)
  · rw [if_pos h, if_pos (decide_eq_true h)]
  · rw [if_neg h, if_neg (by rw [decide_eq_false h]; decide)]
theorem nsg_nil : nsg [] = 0 := rfl
theorem nsg_sg {z : Str} (h : sgn z = true) (b : List Str) : nsg (z :: b) = nsg b := by rw [nsg_cons, if_pos h, Nat.add_zero]
theorem nsg_no {z : Str} (h : sgn z = false) (b : List Str) : nsg (z :: b) = nsg b + 1 := by rw [nsg_cons, if_neg (by rw [h]; decide)]
theorem sg_o : sgn ("(" : Str) = true := by decide +kernel
theorem sg_c : sgn (")" : Str) = true := by decide +kernel
theorem sg_m : sgn ("," : Str) = true := by decide +kernel
theorem shut_ne : (")" : Str) ≠ ("(" : Str) := by decide +kernel
theorem comma_ne : ("," : Str) ≠ ("(" : Str) := by decide +kernel
theorem ff : ¬ (false = true) := by decide
theorem head_sgn {z : Str} {c : Nat} {t : List Nat} (e : tl z = c :: t) (h1 : c ≠ 40) (h2 : c ≠ 41) (h3 : c ≠ 44) : sgn z = false := by
  refine decide_eq_false fun h => ?_
  rcases h with h | h | h
  · rw [h, tl_op] at e
    exact h1 (List.cons.inj e).1.symm
  · rw [h, tl_cl] at e
    exact h2 (List.cons.inj e).1.symm
  · rw [h, show tl ("," : Str) = [44] from by decide +kernel] at e
    exact h3 (List.cons.inj e).1.symm
theorem num_fst {R : List Op} {m : Int} {z : Str} (h : Num R m z) : ∃ c t, tl z = c :: t ∧ (c ∈ sD ∨ c = 126) := by
  obtain ⟨e, _, _⟩ := h
  rw [figT] at e
  by_cases hm : m < 0
  · rw [if_pos hm] at e
    exact ⟨126, _, e, .inr rfl⟩
  · rw [if_neg hm] at e
    cases en : numL m.toNat with
    | nil => exact absurd en (numL_ne _)
    | cons c t => exact ⟨c, t, by rw [e, en], .inl (numL_D m.toNat c (by rw [en]; exact List.mem_cons_self ..))⟩
theorem num_sgn {R : List Op} {m : Int} {z : Str} (h : Num R m z) : sgn z = false := by
  obtain ⟨c, t, e, hc⟩ := num_fst h
  rw [sD_iff] at hc
  exact head_sgn e (by omega) (by omega) (by omega)
theorem unk_sgn {R : List Op} {z : Str} (h : Unk R z) : sgn z = false := by
  obtain ⟨⟨c, t, e, hc⟩, _⟩ := h
  rw [sC_iff] at hc
  exact head_sgn e (by omega) (by omega) (by omega)
theorem wd_sgn {R : List Op} {z : Str} (h : Wd R z) : sgn z = false := by
  obtain ⟨⟨c, t, e, hc⟩, _⟩ := h
  rw [sS_iff] at hc
  exact head_sgn e (by omega) (by omega) (by omega)
abbrev BrOk (R : List Op) : Prop := ∀ z ∈ ([("(" : Str), (")" : Str), ("," : Str)] : List Str), rowOf R z 1 = none ∧ rowOf R z 2 = none
theorem row_sgn {R : List Op} (br : BrOk R) {nm : Str} {k : Nat} {o : Op} (hk : k = 1 ∨ k = 2) (h : rowOf R nm k = some o) : sgn nm = false := by
  refine decide_eq_false fun z => ?_
  have := br nm (by simpa using z)
  rcases hk with rfl | rfl
  · rw [this.1] at h
    cases h
  · rw [this.2] at h
    cases h
mutual
theorem Prim.size {R : List Op} (br : BrOk R) : ∀ {d : Nat} {l : Int} {p : Pt} {ts : List Str}, Prim R d l p ts → nsg ts = szT p
  | _, _, _, _, .num h => by rw [nsg_no (num_sgn h), szT]; rfl
  | _, _, _, _, .unk h => by rw [nsg_no (unk_sgn h), szT]; rfl
  | _, _, _, _, .word h => by rw [nsg_no (wd_sgn h), szT]; rfl
  | _, _, _, _, .comp h _ _ hl => by
    rw [nsg_no (wd_sgn h), nsg_sg sg_o, SptL.size br hl, szT]
    omega
  | _, _, _, _, .ahead h hs _ => by
    rw [nsg_no (row_sgn br (.inl rfl) h), Spt.size br hs, szT, szL, szL]
    omega
  | _, _, _, _, .paren hs _ => by
    rw [nsg_sg sg_o, nsg_app, nsg_sg sg_c, Spt.size br hs, nsg_nil, Nat.add_zero]
theorem Spt.size {R : List Op} (br : BrOk R) : ∀ {d : Nat} {l : Int} {p : Pt} {ts : List Str}, Spt R d l p ts → nsg ts = szT p
  | _, _, _, _, .mk h1 h2 => by
    rw [nsg_app, Prim.size br h1]
    exact Stp.size br h2
theorem Stp.size {R : List Op} (br : BrOk R) : ∀ {d : Nat} {la : Int} {a : Pt} {l : Int} {p : Pt} {ts : List Str}, Stp R d la a l p ts → szT a + nsg ts = szT p
  | _, _, _, _, _, _, .nil => by rw [nsg_nil, Nat.add_zero]
  | _, _, _, _, _, _, .cons h1 _ h3 _ h5 => by
    have e1 := Spt.size br h3
    have e2 := Stp.size br h5
    rw [szT, szL, szL, szL] at e2
    rw [nsg_no (row_sgn br (.inr rfl) h1), nsg_app, e1]
    omega
theorem SptL.size {R : List Op} (br : BrOk R) : ∀ {d : Nat} {ps : List Pt} {ts : List Str}, SptL R d ps ts → nsg ts = szL ps
  | _, _, _, .one h _ => by
    rw [nsg_app, Spt.size br h, nsg_sg sg_c, nsg_nil, szL, szL]
  | _, _, _, .cons h _ hl => by
    rw [nsg_app, nsg_sg sg_m, Spt.size br h, SptL.size br hl, szL]
end
/-! what is read, by its pieces -/
/-- a piece of a written text -/
def GoodPc (z : Str) : Prop := sgn z = true ∨ (∃ c t, tl z = c :: t ∧ (c ∈ sD ∨ c = 126)) ∨ NmOk z
/-! brackets that go -/
end Gs
namespace Gs
open PySem PySem.Spec PyProof.Rows L2 TL SrtK
/-! ### goals' parts: what is asked of them -/
theorem own_nm_all : ∀ o ∈ ownL, NmOk o.n := by
  have h : (ownL.all fun o => match tl o.n with | [] => false | c :: t => decide ((c ∈ sS ∧ (∀ x ∈ t, x ∈ sS ++ sD) ∧ t.length + 1 ≤ 12) ∨ (c ∈ sM ∧ (∀ x ∈ t, x ∈ sM) ∧ t.length + 1 ≤ 3))) = true := by decide +kernel
  intro o ho
  have h2 := List.all_eq_true.mp h o ho
  cases e : tl o.n with
  | nil =>
    rw [e] at h2
    cases h2
  | cons c t =>
    rw [e] at h2
    rcases of_decide_eq_true h2 with ⟨a1, a2, a3⟩ | ⟨a1, a2, a3⟩
    · exact ⟨0, c, t, e, .inl ⟨rfl, a1, a2, a3⟩⟩
    · exact ⟨2, c, t, e, .inr (.inr ⟨rfl, a1, a2, a3⟩)⟩
/-- an operator of the language's own -/
def Own (nm : Str) (m : Nat) : Prop := (rowOf ownL nm m).isSome = true
theorem Own.row {nm : Str} {m : Nat} (h : Own nm m) (ops : List Op) : ∃ o, rowOf (ownL ++ ops) nm m = some o := by
  obtain ⟨o, e⟩ := Option.isSome_iff_exists.mp h
  refine ⟨o, ?_⟩
  unfold rowOf at e ⊢
  rw [List.find?_append, e]
  rfl
theorem Own.nm {nm : Str} {m : Nat} (h : Own nm m) : NmOk nm := by
  obtain ⟨o, e⟩ := Option.isSome_iff_exists.mp h
  obtain ⟨h1, h2, _⟩ := rowOf_some e
  rw [← h2]
  exact own_nm_all o h1
/-- what a goal's parts are -/
structure GoOk (ops : List Op) (u : Pt) : Prop where
  nm : okT NmOk NmOk u
  rd : rdT (ownL ++ ops) u
theorem GoOk.two {ops : List Op} {nm : Str} {a b : Pt} (h : Own nm 2) (ha : GoOk ops a) (hb : GoOk ops b) : GoOk ops (.t nm [a, b]) := by
  obtain ⟨o, e⟩ := h.row ops
  exact ⟨⟨h.nm, by simp, by simp, ha.nm, hb.nm, trivial⟩, ⟨by simp, by simp, (fun z => by rw [show rowOf (ownL ++ ops) nm [a, b].length = some o from e] at z; cases z), ha.rd, hb.rd, trivial⟩⟩
theorem GoOk.one {ops : List Op} {nm : Str} {a : Pt} (h : Own nm 1) (ha : GoOk ops a) : GoOk ops (.t nm [a]) := by
  obtain ⟨o, e⟩ := h.row ops
  exact ⟨⟨h.nm, by simp, by simp, ha.nm, trivial⟩, ⟨by simp, by simp, (fun z => by rw [show rowOf (ownL ++ ops) nm [a].length = some o from e] at z; cases z), ha.rd, trivial⟩⟩
structure SumOk (u : Pt) : Prop where
  sm : sumP u = true
  ok : ∀ ops, OpsOk ops → GoOk ops u
theorem SumOk.num {n : Int} (h : n.natAbs < 10 ^ 60) : SumOk (.i n) := ⟨rfl, fun ops k => ⟨h, h, fig_no k n 1⟩⟩
theorem SumOk.join {s : Str} {a b : Pt} (hs : s ∈ sums5) (ha : SumOk a) (hb : SumOk b) : SumOk (.t s [a, b]) := by
  refine ⟨by rw [sumP_two, ha.sm, hb.sm, decide_eq_true hs]; rfl, fun ops k => .two ?_ (ha.ok ops k) (hb.ok ops k)⟩
  simp only [sums5, List.mem_cons, List.not_mem_nil, or_false] at hs
  rcases hs with rfl | rfl | rfl | rfl | rfl <;> (unfold Own; decide +kernel)
end Gs
namespace Gs
open PySem PySem.Spec PyProof.Rows L2 TL
abbrev s_goal_of : Stmt := PySem.Challenge.pw_goalstead_k21_sizes_as_read.main.body.getD 82 (.Pass ⟨0, 0, 0, 0⟩)
theorem sc_goal_of : FnScope ["pieces", "table", "goal"] ["pieces", "table"] (defScope s_goal_of) := ⟨rfl, rfl, rfl, by decide +kernel, rfl, by decide +kernel, by decide +kernel⟩
abbrev s_read_goal : Stmt := PySem.Challenge.pw_goalstead_k21_sizes_as_read.main.body.getD 75 (.Pass ⟨0, 0, 0, 0⟩)
theorem sc_read_goal : FnScope ["line", "operators", "most", "pieces", "goal"] ["line", "operators", "most"] (defScope s_read_goal) := ⟨rfl, rfl, rfl, by decide +kernel, rfl, by decide +kernel, by decide +kernel⟩
/-! ### goals read, in general -/
def spGoalOfE (K : PySem.W.Frag) (C BS : Addr) (d dd : Nat) : Sp := fun vs H Q E => ∃ (pl tb : Addr) (zs : List Str) (R : List Op) (o : Option Pt), vs = [.ref pl, .ref tb] ∧ H pl = some (.lst (zs.map V.str)) ∧ TabAt K C H tb R ∧ zs.length ≤ 1000 ∧ TabOk R ∧ RdO R d zs o ∧ (o = none → BadS BS H E) ∧
  ∀ p, o = some p → OkP p ∧ szT p ≤ 1000 ∧ dpT p ≤ dd ∧ (goalP p = false → BadS BS H E) ∧ (goalP p = true → ∀ x H', Same H H' → PtAt K H' (dpT p) x p → Q x H')
def spReadGE (K : PySem.W.Frag) (BS BZ : Addr) (d dd : Nat) : Sp := fun vs H Q E => ∃ (line : Str) (most : Int) (b : Addr) (es : List V) (ops : List Op) (zs : List Str) (o : Option Pt), vs = [.str line, .ref b, .int most] ∧ H b = some (.lst es) ∧ RowsAt K H es ops ∧ OpsOk ops ∧ TabOk (ownL ++ ops) ∧
  line.length ≤ 100000 ∧ Cut (tl line) (zs.map tl) ∧ (∀ z ∈ zs, isPc (tl z) = true) ∧ (zs.length : Int) ≤ most ∧ most ≤ 1000 ∧ mostOpen zs ≤ 12 ∧ RdO (ownL ++ ops) d zs o ∧ (o = none → BadS BS H E) ∧
  ∀ p, o = some p → OkP p ∧ szT p ≤ 1000 ∧ dpT p ≤ dd ∧ (goalP p = false → BadS BS H E) ∧ (goalP p = true → (60 < szT p ∨ 12 < dpT p) → BadS BZ H E) ∧ (goalP p = true → szT p ≤ 60 ∧ dpT p ≤ 12 → ∀ x H', Same H H' → PtAt K H' (dpT p) x p → Q x H')
section
variable {P : Program} {w : World} {K : PySem.W.Frag} {mg : Str → Option Value} {base : Heap} {f : Addr} {fd : FuncData} {C BS BZ : Addr}
def HasGoalOfE (C BS : Addr) (d dd : Nat) (P : Program) (w : World) (K : PySem.W.Frag) (mg : Str → Option Value) (base : Heap) : Prop := HasEN P w K mg base (4 * d + 7) "_goal_of" ["pieces", "table"] (spGoalOfE K C BS d dd)
def HasReadGE (BS BZ : Addr) (d dd : Nat) (P : Program) (w : World) (K : PySem.W.Frag) (mg : Str → Option Value) (base : Heap) : Prop := HasKE P w K mg base (4 * d + 8) "read_goal" ["line", "operators", "most"] 2 ["most"] [.int 200] (spReadGE K BS BZ d dd)
theorem ok_goal_ofE {d dd : Nat} (F : Fun K "_goal_of" "_goal_of" s_goal_of f fd) (T : Txt mg) (E_BadShape : HasErr P w K mg base "BadShape" "line" BS) (C_read_pieces : HasReadPE C BS d P w K mg base) (C_is_goal : HasLook (dd + 6) "is_goal" dd goalP P w K mg base) (hd : dd ≤ 4 * d := by decide) : FnOk P w K mg base (L2N.CX P w) (4 * d + 7) f fd ["pieces", "table"] (spGoalOfE K C BS d dd) := by
  refine F.okN sc_goal_of (fun vs H Q E h => ?_) (fun cdv A outer s H vs Q E hr h => ?_)
  · obtain ⟨pl, tb, zs, R, o, rfl, _⟩ := h
    rfl
  obtain ⟨pl, tb, zs, R, o, rfl, hpl, htb, hl, tok, hrd, bad, q⟩ := h
  refine ⟨_, (pss_cons (ps_set (i := 2) sc_goal_of.nd rfl (Or.inl rfl) (pe_callEN C_read_pieces hr (L2N.takes_of rfl rfl rfl rfl) (pa_cons (pv 0) (pa_cons (pv 1) pa_nil)) (hk := by omega)))
    (pss_cons (ps_if (pt_not (pt_val (pe_callH C_is_goal hr (pa_cons (pv 2) pa_nil) (hk := by omega))))
      (pss_one (ps_raiseEN E_BadShape rfl (L2N.takes_of rfl rfl rfl rfl) hr (pa_cons pe_int pa_nil) (hk := by omega)))
      pss_nil)
    (pss_one (ps_ret (pv 2))))), ?_⟩
  walk_at "sx"
  refine ⟨pl, tb, zs, R, o, rfl, hpl, htb, hl, tok, hrd, bad, fun p e x H3 s3 px => ?_⟩
  obtain ⟨h1, h2, h3, h4, h5⟩ := q p e
  walk_at "sx"
  refine ⟨x, _, p, rfl, px, h1, h2, h3, fun H4 s4 => ?_⟩
  have s14 := s3.trans s4
  cases hk : goalP p with
  | false =>
    walk_at "sx"
    exact x_mkE (n := 0) (by decide) fun dd hd => ((h4 hk).same s14).done hd
  | true =>
    walk_at "sx"
    exact h5 hk x H4 s14 (px.same s4)
theorem ok_read_goalE {d dd : Nat} {kws : List (Str × V)} (F : FunD K "read_goal" "read_goal" (defArgs s_read_goal) (defBody s_read_goal) (defScope s_read_goal) [] kws f fd) (T : Txt mg) (C_pieces_of : HasPieces P w K mg base) (C_goal_of : HasGoalOfE C BS d dd P w K mg base) (C_table_of : HasTable C P w K mg base) (C_measure : HasMeasE BZ P w K mg base) (hd : dd ≤ 4 * d := by decide) : FnOk P w K mg base (L2N.CX P w) (4 * d + 8) f fd ["line", "operators", "most"] (spReadGE K BS BZ d dd) := by
  refine F.ok sc_read_goal (fun vs H Q E h => ?_) (fun cdv A outer s H vs Q E hr h => ?_)
  · obtain ⟨line, most, b, es, ops, zs, o, rfl, _⟩ := h
    rfl
  obtain ⟨line, most, b, es, ops, zs, o, rfl, hb, hro, oko, tok, hl, hcut, hpc, hm, hm2, ho, hrd, bad, q⟩ := h
  refine ⟨_, (pss_cons (ps_set (i := 3) sc_read_goal.nd rfl (Or.inl rfl) (pe_callHK C_pieces_of hr (pa_cons (pv 0) pa_nil) (pk_cons (pv 2) pk_nil) (hk := by omega)))
    (pss_cons (ps_set (i := 4) sc_read_goal.nd rfl (Or.inl rfl) (pe_callEN C_goal_of hr (L2N.takes_of rfl rfl rfl rfl) (pa_cons (pv 3) (pa_cons (pe_callH C_table_of hr (pa_cons (pv 1) pa_nil) (hk := by omega)) pa_nil)) (hk := by omega)))
    (pss_cons (ps_expr (pe_callEN C_measure hr (L2N.takes_of rfl rfl rfl rfl) (pa_cons (pv 4) pa_nil) (hk := by omega)))
    (pss_one (ps_ret (pv 4)))))), ?_⟩
  walk_at "sx"
  refine ⟨rfl, rfl, line, most, zs, rfl, hl, hcut, hpc, hm, ho, fun pl H1 npl s1 epl => ?_⟩
  walk_at "sx"
  refine ⟨b, es, ops, rfl, s1 _ _ hb, hro.same s1, oko, fun t H2 s2 tb => ?_⟩
  have s12 := s1.trans s2
  walk_at "sx"
  refine ⟨pl, t, zs, ownL ++ ops, o, rfl, s2 _ _ epl, tb, by omega, tok, hrd, fun e => (bad e).same s12, fun p e => ?_⟩
  obtain ⟨h1, h2, h3, h4, h5, h6⟩ := q p e
  refine ⟨h1, h2, h3, fun z => (h4 z).same s12, fun hk x H3 s3 px => ?_⟩
  have s13 := s12.trans s3
  walk_at "sx"
  refine ⟨x, _, p, rfl, px, by omega, fun e => (h5 hk e).same s13, fun e H5 s5 => ?_⟩
  walk_at "sx"
  exact h6 hk e x H5 (s13.trans s5) (px.same s5)
end
end Gs
namespace Gs
open PySem PySem.Spec PyProof.Rows L2 TL SrtK
/-! ### lines: what their pieces tell -/
def wmZ (z : Str) : Bool := match tl z with
  | c :: _ => decide (c ∈ sS) || decide (c ∈ sM)
  | [] => false
def nameZ (z : Str) : Bool := wmZ z && !decide (z ∈ keptL)
def digV (z : Str) : Int := (PySem.intText? z).getD 0
def lvlL : List Str := ["1", "2", "3", "4", "5", "6", "7", "8", "9"]
def plcL : List Str := ["0", "1", "2", "3", "4"]
def sideL : List Str := ["left", "right", "none", "ahead"]
theorem dig_int : ∀ z ∈ ("0" : Str) :: lvlL, PySem.intText? z = some (digV z) ∧ z.length ≤ 640 := by
  intro z hz
  simp only [lvlL, List.mem_cons, List.not_mem_nil, or_false] at hz
  rcases hz with rfl | rfl | rfl | rfl | rfl | rfl | rfl | rfl | rfl | rfl <;> exact ⟨by decide +kernel, by decide +kernel⟩
theorem plc_sub : ∀ z ∈ plcL, z ∈ ("0" : Str) :: lvlL := by decide +kernel
theorem lvl_sub : ∀ z ∈ lvlL, z ∈ ("0" : Str) :: lvlL := by decide +kernel
def blankT : Tv := .t [.s "blank"]
def opT (l s n : Str) : Tv := .t [.s "op", .i (digV l), .s s, .s n]
def tabT (n k : Str) : Tv := .t [.s "table", .s n, .i (digV k)]
def modeTv (n m : Str) : Tv := .t [.s "mode", .s n, .s m]
def opRow : List Str → Option Tv
  | [_, l, s, n] => if l ∈ lvlL ∧ s ∈ sideL ∧ wmZ n = true then some (opT l s n) else none
  | _ => none
def tabRow : List Str → Option Tv
  | [_, n, k] => if nameZ n = true ∧ k ∈ plcL then some (tabT n k) else none
  | _ => none
def signZ (z : Str) : Str := if z = ("in" : Str) then "+" else "-"
def plZ (z : Str) : Bool := decide (z = ("in" : Str)) || decide (z = ("out" : Str))
def frameZ (n : Nat) : List Str := ("(" : Str) :: (List.replicate (n - 1) ("," : Str) ++ [(")" : Str)])
/-- the places that stand behind a mode line's name -/
def modeL (L : List Str) : Option (List Str) := if L = [] then some [] else if (1 ≤ (odds L).length ∧ (odds L).length ≤ 4) ∧ evens L = frameZ (odds L).length ∧ (odds L).all plZ = true then some (odds L) else none
def modeM (l : List Str) : Str := Txt.join Str.empty (l.map signZ)
def modeRow : List Str → Option Tv
  | _ :: n :: L => if nameZ n = true then (modeL L).map fun l => modeTv n (modeM l) else none
  | _ => none
mutual
def tvP : Pt → Tv
  | .i n => .i n
  | .s z => .s z
  | .t nm ps => .t (.s nm :: tvL ps)
def tvL : List Pt → List Tv
  | [] => []
  | x :: r => tvP x :: tvL r
end
def clauseT (h : Pt) (gs : List Pt) : Tv := .t [.s "clause", tvP h, .t (tvL gs)]
theorem tvL_get : ∀ {ps : List Pt} {i : Nat}, (tvL ps)[i]? = ps[i]?.map tvP
  | [], i => by simp [tvL]
  | x :: r, 0 => rfl
  | x :: r, i + 1 => by
    rw [tvL, List.getElem?_cons_succ, List.getElem?_cons_succ, tvL_get]
theorem tvL_len : ∀ {ps : List Pt}, (tvL ps).length = ps.length
  | [] => rfl
  | x :: r => by rw [tvL, List.length_cons, List.length_cons, tvL_len]
theorem PtAt.tv {K : PySem.W.Frag} {H : Hp} : ∀ {k : Nat} {x : V} {p : Pt}, PtAt K H k x p → szT p ≤ 900 → TvAt K H (k + 1) x (tvP p)
  | 0, _, _, h, _ => h.elim
  | _ + 1, _, .i _, h, _ => h
  | _ + 1, _, .s _, h, _ => h
  | k + 1, x, .t nm ps, ⟨a, vs, e, s, hl, f⟩, hz => by
    have h1 : ps.length ≤ szL ps := szL_len ps
    have h2 : szT (.t nm ps) = 1 + szL ps := by rw [szT]
    refine ⟨a, .str nm :: vs, e, s, by rw [List.length_cons]; omega, by rw [List.length_cons, List.length_cons, tvL_len, hl], fun i y u g1 g2 => ?_⟩
    cases i with
    | zero =>
      cases g1
      cases g2
      rfl
    | succ i =>
      rw [List.getElem?_cons_succ] at g1 g2
      rw [tvL_get] at g2
      cases e2 : ps[i]? with
      | none =>
        rw [e2] at g2
        cases g2
      | some q =>
        rw [e2] at g2
        cases g2
        refine (f i y q g1 e2).tv ?_
        have := szL_mem20 (List.mem_of_getElem? e2)
        omega
/-! the goals of a clause, parted by commas -/
def pstep (S : List (List Str) × Int) (z : Str) : List (List Str) × Int :=
  let b := if z = ("(" : Str) then S.2 + 1 else if z = (")" : Str) then S.2 - 1 else S.2
  if S.1 = [] ∨ (z = ("," : Str) ∧ b = 0) then (S.1 ++ [[]], b) else (S.1.dropLast ++ [(S.1.getLast?.getD []) ++ [z]], b)
def partsF (zs : List Str) : List (List Str) := (zs.foldl pstep ([], 0)).1
def headP (zs : List Str) : List Str := zs.takeWhile fun z => !decide (z = ("<-" : Str))
def tailP (zs : List Str) : List Str := zs.dropWhile fun z => !decide (z = ("<-" : Str))
theorem pstep_in {ps : List (List Str)} {q : List Str} {b : Int} {z : Str} (h : sgn z = false) : pstep (ps ++ [q], b) z = (ps ++ [q ++ [z]], b) := by
  have h' : ¬ (z = ("(" : Str) ∨ z = (")" : Str) ∨ z = ("," : Str)) := of_decide_eq_false h
  unfold pstep
  simp only [if_neg (fun e => h' (.inl e)), if_neg (fun e => h' (.inr (.inl e)))]
  rw [if_neg (by
    rintro (e | ⟨e, _⟩)
    · simp at e
    · exact h' (.inr (.inr e)))]
  simp
theorem pstep_open {ps : List (List Str)} {q : List Str} {b : Int} : pstep (ps ++ [q], b) ("(" : Str) = (ps ++ [q ++ [("(" : Str)]], b + 1) := by
  unfold pstep
  simp only [if_true]
  rw [if_neg (by
    rintro (e | ⟨e, _⟩)
    · simp at e
    · exact absurd e (by decide +kernel))]
  simp
theorem pstep_shut {ps : List (List Str)} {q : List Str} {b : Int} : pstep (ps ++ [q], b) (")" : Str) = (ps ++ [q ++ [(")" : Str)]], b - 1) := by
  unfold pstep
  simp only [if_neg shut_ne, if_true]
  rw [if_neg (by
    rintro (e | ⟨e, _⟩)
    · simp at e
    · exact absurd e (by decide +kernel))]
  simp
theorem pstep_comma {ps : List (List Str)} {q : List Str} {b : Int} (hb : b ≠ 0) : pstep (ps ++ [q], b) ("," : Str) = (ps ++ [q ++ [("," : Str)]], b) := by
  unfold pstep
  simp only [if_neg comma_ne, if_neg (show ¬ ("," : Str) = (")" : Str) from by decide +kernel)]
  rw [if_neg (by
    rintro (e | ⟨_, e⟩)
    · simp at e
    · exact hb e)]
  simp
theorem pstep_cut {ps : List (List Str)} : pstep (ps, 0) ("," : Str) = (ps ++ [[]], 0) := by
  unfold pstep
  simp only [if_neg comma_ne, if_neg (show ¬ ("," : Str) = (")" : Str) from by decide +kernel)]
  rw [if_pos (.inr ⟨trivial, trivial⟩)]
/-- commas stand within brackets alone, and brackets stand in pairs -/
def Clo (ts : List Str) : Prop := ∀ (ps : List (List Str)) (q : List Str) (b : Int), 0 ≤ b → ts.foldl pstep (ps ++ [q], b) = (ps ++ [q ++ ts], b)
theorem Clo.nil : Clo [] := fun ps q b _ => by rw [List.foldl_nil, List.append_nil]
theorem Clo.one {z : Str} (h : sgn z = false) : Clo [z] := fun ps q b _ => by rw [List.foldl_cons, List.foldl_nil, pstep_in h]
theorem Clo.app {a b : List Str} (h : Clo a) (g : Clo b) : Clo (a ++ b) := fun ps q c hc => by rw [List.foldl_append, h ps q c hc, g ps _ c hc, List.append_assoc]
theorem Clo.cons {z : Str} {b : List Str} (h : sgn z = false) (g : Clo b) : Clo (z :: b) := (Clo.one h).app g
theorem Clo.par {a : List Str} (h : Clo a) : Clo (("(" : Str) :: (a ++ [(")" : Str)])) := fun ps q c hc => by
  rw [List.foldl_cons, pstep_open, List.foldl_append, h ps _ (c + 1) (by omega), List.foldl_cons, List.foldl_nil, pstep_shut]
  simp
/-- parts in brackets, the opening one left out -/
def CloL (ts : List Str) : Prop := ∀ (ps : List (List Str)) (q : List Str) (b : Int), 1 ≤ b → ts.foldl pstep (ps ++ [q], b) = (ps ++ [q ++ ts], b - 1)
mutual
theorem Prim.clo {R : List Op} (br : BrOk R) : ∀ {d : Nat} {l : Int} {p : Pt} {ts : List Str}, Prim R d l p ts → Clo ts
  | _, _, _, _, .num h => .one (num_sgn h)
  | _, _, _, _, .unk h => .one (unk_sgn h)
  | _, _, _, _, .word h => .one (wd_sgn h)
  | _, _, _, _, .comp (ts := ts) h _ _ hl => fun ps q c hc => by
    rw [List.foldl_cons, pstep_in (wd_sgn h), List.foldl_cons, pstep_open, SptL.clo br hl ps _ (c + 1) (by omega)]
    simp
  | _, _, _, _, .ahead h hs _ => .cons (row_sgn br (.inl rfl) h) (Spt.clo br hs)
  | _, _, _, _, .paren hs _ => (Spt.clo br hs).par
theorem Spt.clo {R : List Op} (br : BrOk R) : ∀ {d : Nat} {l : Int} {p : Pt} {ts : List Str}, Spt R d l p ts → Clo ts
  | _, _, _, _, .mk h1 h2 => (Prim.clo br h1).app (Stp.clo br h2)
theorem Stp.clo {R : List Op} (br : BrOk R) : ∀ {d : Nat} {la : Int} {a : Pt} {l : Int} {p : Pt} {ts : List Str}, Stp R d la a l p ts → Clo ts
  | _, _, _, _, _, _, .nil => .nil
  | _, _, _, _, _, _, .cons h1 _ h3 _ h5 => .cons (row_sgn br (.inr rfl) h1) ((Spt.clo br h3).app (Stp.clo br h5))
theorem SptL.clo {R : List Op} (br : BrOk R) : ∀ {d : Nat} {ps : List Pt} {ts : List Str}, SptL R d ps ts → CloL ts
  | _, _, _, .one h _ => fun ps q c hc => by
    rw [List.foldl_append, Spt.clo br h ps q c (by omega), List.foldl_cons, List.foldl_nil, pstep_shut]
    simp
  | _, _, _, .cons h _ hl => fun ps q c hc => by
    rw [List.foldl_append, Spt.clo br h ps q c (by omega), List.foldl_cons, pstep_comma (by omega), SptL.clo br hl ps _ c hc]
    simp
end
/-- the pieces of the goals behind an arrow -/
def goalsZ : List (List Str) → List Str
  | [] => []
  | g :: r => ("<-" : Str) :: (g ++ r.flatMap fun q => ("," : Str) :: q)
theorem partsF_more : ∀ {gs : List (List Str)} {ps : List (List Str)}, (∀ g ∈ gs, Clo g) → (gs.flatMap fun q => ("," : Str) :: q).foldl pstep (ps, 0) = (ps ++ gs, 0)
  | [], ps, _ => by simp
  | g :: r, ps, h => by
    rw [List.flatMap_cons, List.cons_append, List.foldl_cons, pstep_cut, List.foldl_append, h g (List.mem_cons_self ..) ps [] 0 (by omega), List.nil_append, partsF_more fun q hq => h q (List.mem_cons_of_mem _ hq), List.append_assoc]
    rfl
theorem partsF_goals {gs : List (List Str)} (h : ∀ g ∈ gs, Clo g) : partsF (goalsZ gs) = gs := by
  cases gs with
  | nil => rfl
  | cons g r =>
    unfold partsF goalsZ
    have e : pstep ([], 0) ("<-" : Str) = ([] ++ [[]], 0) := by decide +kernel
    rw [List.foldl_cons, e, List.foldl_append, h g (List.mem_cons_self ..) [] [] 0 (by omega), List.nil_append, List.nil_append, partsF_more fun q hq => h q (List.mem_cons_of_mem _ hq)]
    rfl
theorem headP_app {hd tl : List Str} (h : ("<-" : Str) ∉ hd) (ht : tl = [] ∨ ∃ r, tl = ("<-" : Str) :: r) : headP (hd ++ tl) = hd ∧ tailP (hd ++ tl) = tl := by
  have hall : ∀ z ∈ hd, (!decide (z = ("<-" : Str))) = true := fun z hz => by
    have : z ≠ ("<-" : Str) := fun e => h (by rw [← e]; exact hz)
    rw [decide_eq_false this]
    rfl
  unfold headP tailP
  rw [List.takeWhile_append_of_pos hall, List.dropWhile_append_of_pos hall]
  rcases ht with rfl | ⟨r, rfl⟩
  · simp
  · rw [List.takeWhile_cons_of_neg (by simp), List.dropWhile_cons_of_neg (by simp), List.append_nil]
    exact ⟨rfl, rfl⟩
/-! what a reading has of its pieces -/
theorem kept_fst : ∀ z ∈ keptL, ∀ c t, tl z = c :: t → c ∉ sD ∧ c ≠ 126 ∧ c ∉ sC := by
  have h : (keptL.all fun z => match tl z with
    | c :: _ => !decide (c ∈ sD) && !decide (c = 126) && !decide (c ∈ sC)
    | [] => true) = true := by decide +kernel
  intro z hz c t e
  have := List.all_eq_true.mp h z hz
  rw [e] at this
  simpa [and_assoc] using this
theorem num_nk {R : List Op} {m : Int} {z : Str} (h : Num R m z) : z ∉ keptL := fun hk => by
  obtain ⟨c, t, e, hc⟩ := num_fst h
  obtain ⟨h1, h2, _⟩ := kept_fst z hk c t e
  rcases hc with hc | hc
  · exact h1 hc
  · exact h2 hc
theorem unk_nk {R : List Op} {z : Str} (h : Unk R z) : z ∉ keptL := fun hk => by
  obtain ⟨⟨c, t, e, hc⟩, _⟩ := h
  exact (kept_fst z hk c t e).2.2 hc
mutual
theorem Prim.kin {R : List Op} : ∀ {d : Nat} {l : Int} {p : Pt} {ts : List Str}, Prim R d l p ts → ∀ z ∈ ts, z ∈ keptL → hasK p = true ∧ ∃ k o, rowOf R z k = some o
  | _, _, _, _, .num h, z, hz, hk => absurd hk (by rw [List.mem_singleton.mp hz]; exact num_nk h)
  | _, _, _, _, .unk h, z, hz, hk => absurd hk (by rw [List.mem_singleton.mp hz]; exact unk_nk h)
  | _, _, _, _, .word h, z, hz, hk => absurd hk (by rw [List.mem_singleton.mp hz]; exact h.2.1)
  | _, _, _, _, .comp h _ _ hl, z, hz, hk => by
    rcases List.mem_cons.mp hz with rfl | hz
    · exact absurd hk h.2.1
    · rcases List.mem_cons.mp hz with rfl | hz
      · exact absurd hk (by decide +kernel)
      · obtain ⟨h1, h2⟩ := SptL.kin hl z hz hk
        exact ⟨by rw [hasK, h1, Bool.or_true], h2⟩
  | _, _, _, _, .ahead h hs _, z, hz, hk => by
    rcases List.mem_cons.mp hz with rfl | hz
    · exact ⟨by rw [hasK, decide_eq_true hk, Bool.true_or], _, _, h⟩
    · obtain ⟨h1, h2⟩ := Spt.kin hs z hz hk
      exact ⟨by rw [hasK, hasKL, h1, Bool.true_or, Bool.or_true], h2⟩
  | _, _, _, _, .paren hs _, z, hz, hk => by
    rcases List.mem_cons.mp hz with rfl | hz
    · exact absurd hk (by decide +kernel)
    · rcases List.mem_append.mp hz with hz | hz
      · exact Spt.kin hs z hz hk
      · rw [List.mem_singleton.mp hz] at hk
        exact absurd hk (by decide +kernel)
theorem Spt.kin {R : List Op} : ∀ {d : Nat} {l : Int} {p : Pt} {ts : List Str}, Spt R d l p ts → ∀ z ∈ ts, z ∈ keptL → hasK p = true ∧ ∃ k o, rowOf R z k = some o
  | _, _, _, _, .mk h1 h2, z, hz, hk => by
    obtain ⟨h3, h4⟩ := Stp.kin h2
    rcases List.mem_append.mp hz with hz | hz
    · obtain ⟨h5, h6⟩ := Prim.kin h1 z hz hk
      exact ⟨h3 h5, h6⟩
    · exact h4 z hz hk
theorem Stp.kin {R : List Op} : ∀ {d : Nat} {la : Int} {a : Pt} {l : Int} {p : Pt} {ts : List Str}, Stp R d la a l p ts → (hasK a = true → hasK p = true) ∧ ∀ z ∈ ts, z ∈ keptL → hasK p = true ∧ ∃ k o, rowOf R z k = some o
  | _, _, _, _, _, _, .nil => ⟨id, fun z hz => by cases hz⟩
  | _, _, a, _, _, _, .cons (nm := nm) (b := b) h1 _ h3 _ h5 => by
    obtain ⟨g1, g2⟩ := Stp.kin h5
    have e : hasK (.t nm [a, b]) = (decide (nm ∈ keptL) || (hasK a || hasK b)) := by rw [hasK, hasKL, hasKL, hasKL, Bool.or_false]
    rw [e] at g1
    refine ⟨fun h => g1 (by rw [h, Bool.true_or, Bool.or_true]), fun z hz hk => ?_⟩
    rcases List.mem_cons.mp hz with rfl | hz
    · exact ⟨g1 (by rw [decide_eq_true hk, Bool.true_or]), _, _, h1⟩
    · rcases List.mem_append.mp hz with hz | hz
      · obtain ⟨h5, h6⟩ := Spt.kin h3 z hz hk
        exact ⟨g1 (by rw [h5, Bool.or_true, Bool.or_true]), h6⟩
      · exact g2 z hz hk
theorem SptL.kin {R : List Op} : ∀ {d : Nat} {ps : List Pt} {ts : List Str}, SptL R d ps ts → ∀ z ∈ ts, z ∈ keptL → hasKL ps = true ∧ ∃ k o, rowOf R z k = some o
  | _, _, _, .one h _, z, hz, hk => by
    rcases List.mem_append.mp hz with hz | hz
    · obtain ⟨h1, h2⟩ := Spt.kin h z hz hk
      exact ⟨by rw [hasKL, h1, Bool.true_or], h2⟩
    · rw [List.mem_singleton.mp hz] at hk
      exact absurd hk (by decide +kernel)
  | _, _, _, .cons h _ hl, z, hz, hk => by
    rcases List.mem_append.mp hz with hz | hz
    · obtain ⟨h1, h2⟩ := Spt.kin h z hz hk
      exact ⟨by rw [hasKL, h1, Bool.true_or], h2⟩
    · rcases List.mem_cons.mp hz with rfl | hz
      · exact absurd hk (by decide +kernel)
      · obtain ⟨h1, h2⟩ := SptL.kin hl z hz hk
        exact ⟨by rw [hasKL, h1, Bool.or_true], h2⟩
end
def cms (ts : List Str) : Nat := ts.countP fun z => decide (z = ("," : Str))
def shs (ts : List Str) : Nat := ts.countP fun z => decide (z = (")" : Str))
theorem cms_app (a b : List Str) : cms (a ++ b) = cms a + cms b := List.countP_append
theorem shs_app (a b : List Str) : shs (a ++ b) = shs a + shs b := List.countP_append
theorem cms_cons (z : Str) (b : List Str) : cms (z :: b) = cms b + (if z = ("," : Str) then 1 else 0) := by
  unfold cms
  rw [List.countP_cons]
  by_cases h : z = ("," : Str)
  · rw [if_pos h, if_pos (decide_eq_true h)]
  · rw [if_neg h, if_neg (by rw [decide_eq_false h]; decide)]
theorem shs_cons (z : Str) (b : List Str) : shs (z :: b) = shs b + (if z = (")" : Str) then 1 else 0) := by
  unfold shs
  rw [List.countP_cons]
  by_cases h : z = (")" : Str)
  · rw [if_pos h, if_pos (decide_eq_true h)]
  · rw [if_neg h, if_neg (by rw [decide_eq_false h]; decide)]
/-- brackets in pairs, no more commas than parts let them -/
def Cnt (ts : List Str) : Prop := brk ts = shs ts ∧ cms ts ≤ 3 * brk ts
theorem Cnt.nil : Cnt [] := ⟨rfl, by decide⟩
theorem Cnt.app {a b : List Str} (h : Cnt a) (g : Cnt b) : Cnt (a ++ b) := by
  have h1 := h.1
  have h2 := h.2
  have h3 := g.1
  have h4 := g.2
  constructor
  · rw [brk_app, shs_app]; omega
  · rw [brk_app, cms_app]; omega
theorem Cnt.one {z : Str} (h : sgn z = false) : Cnt [z] := by
  have h' : ¬ (z = ("(" : Str) ∨ z = (")" : Str) ∨ z = ("," : Str)) := of_decide_eq_false h
  constructor
  · rw [brk_cons, shs_cons, if_neg (fun e => h' (.inl e)), if_neg (fun e => h' (.inr (.inl e)))]; rfl
  · rw [brk_cons, cms_cons, if_neg (fun e => h' (.inl e)), if_neg (fun e => h' (.inr (.inr e)))]; decide
theorem Prim.fst {R : List Op} (br : BrOk R) {d : Nat} {l : Int} {p : Pt} {ts : List Str} (h : Prim R d l p ts) : ∃ z r, ts = z :: r ∧ z ≠ ("," : Str) := by
  have no : ∀ {z : Str}, sgn z = false → z ≠ ("," : Str) := fun h e => of_decide_eq_false h (.inr (.inr e))
  cases h with
  | num h => exact ⟨_, _, rfl, no (num_sgn h)⟩
  | unk h => exact ⟨_, _, rfl, no (unk_sgn h)⟩
  | word h => exact ⟨_, _, rfl, no (wd_sgn h)⟩
  | comp h => exact ⟨_, _, rfl, no (wd_sgn h)⟩
  | ahead h => exact ⟨_, _, rfl, no (row_sgn br (.inl rfl) h)⟩
  | paren h => exact ⟨_, _, rfl, by decide +kernel⟩
theorem Spt.fst {R : List Op} (br : BrOk R) {d : Nat} {l : Int} {p : Pt} {ts : List Str} (h : Spt R d l p ts) : ∃ z r, ts = z :: r ∧ z ≠ ("," : Str) := by
  cases h with
  | mk h1 h2 =>
    obtain ⟨z, r, rfl, hz⟩ := h1.fst br
    exact ⟨z, _, rfl, hz⟩
/-! what a line is -/
inductive Out where
  | told : Tv → Out
  | shape : Out
  | size : Out
def outO : Option Tv → Out
  | some t => .told t
  | none => .shape
def big (p : Pt) : Prop := 60 < szT p ∨ 12 < dpT p
structure GdP (dd : Nat) (p : Pt) : Prop where
  ok : OkP p
  sz : szT p ≤ 800
  dp : dpT p ≤ dd
structure GoalL (R : List Op) (d dd : Nat) (parts : List (List Str)) (gs : List Pt) : Prop where
  len : parts.length = gs.length
  at_ : ∀ (i : Nat) (z : List Str) (g : Pt), parts[i]? = some z → gs[i]? = some g → RdO R d z (some g) ∧ GdP dd g ∧ goalP g = true
inductive ClauseR (R : List Op) (d dd : Nat) (zs : List Str) : Out → Prop
  | noread : RdO R d (headP zs) none → ClauseR R d dd zs .shape
  | nohead {h : Pt} : RdO R d (headP zs) (some h) → GdP dd h → relP h = false → ClauseR R d dd zs .shape
  | nogoal {h : Pt} {a b : List (List Str)} {z : List Str} {gs : List Pt} : RdO R d (headP zs) (some h) → GdP dd h → relP h = true → partsF (tailP zs) = a ++ z :: b → GoalL R d dd a gs → (RdO R d z none ∨ ∃ g, RdO R d z (some g) ∧ GdP dd g ∧ goalP g = false) → ClauseR R d dd zs .shape
  | many {h : Pt} {gs : List Pt} : RdO R d (headP zs) (some h) → GdP dd h → relP h = true → GoalL R d dd (partsF (tailP zs)) gs → 6 < gs.length → ClauseR R d dd zs .shape
  | great {h : Pt} {gs : List Pt} : RdO R d (headP zs) (some h) → GdP dd h → relP h = true → GoalL R d dd (partsF (tailP zs)) gs → gs.length ≤ 6 → (∃ p ∈ h :: gs, big p) → ClauseR R d dd zs .size
  | fine {h : Pt} {gs : List Pt} : RdO R d (headP zs) (some h) → GdP dd h → relP h = true → GoalL R d dd (partsF (tailP zs)) gs → gs.length ≤ 6 → (∀ p ∈ h :: gs, ¬ big p) → ClauseR R d dd zs (.told (clauseT h gs))
inductive LineR (R : List Op) (d dd : Nat) : List Str → Out → Prop
  | blank : LineR R d dd [] (.told blankT)
  | op {r : List Str} : LineR R d dd (("op" : Str) :: r) (outO (opRow (("op" : Str) :: r)))
  | mode {r : List Str} : LineR R d dd (("mode" : Str) :: r) (outO (modeRow (("mode" : Str) :: r)))
  | table {r : List Str} : LineR R d dd (("table" : Str) :: r) (outO (tabRow (("table" : Str) :: r)))
  | clause {z : Str} {r : List Str} {o : Out} : z ≠ ("op" : Str) → z ≠ ("mode" : Str) → z ≠ ("table" : Str) → ClauseR R d dd (z :: r) o → LineR R d dd (z :: r) o
end Gs
namespace Gs
open PySem PySem.Spec PyProof.Rows L2 TL SrtK
abbrev s_is_mark : Stmt := PySem.Challenge.pw_goalstead_k21_sizes_as_read.main.body.getD 28 (.Pass ⟨0, 0, 0, 0⟩)
theorem sc_is_mark : FnScope ["part"] ["part"] (defScope s_is_mark) := ⟨rfl, rfl, rfl, by decide +kernel, rfl, by decide +kernel, by decide +kernel⟩
abbrev s_is_name : Stmt := PySem.Challenge.pw_goalstead_k21_sizes_as_read.main.body.getD 30 (.Pass ⟨0, 0, 0, 0⟩)
theorem sc_is_name : FnScope ["part"] ["part"] (defScope s_is_name) := ⟨rfl, rfl, rfl, by decide +kernel, rfl, by decide +kernel, by decide +kernel⟩
abbrev s_op_row : Stmt := PySem.Challenge.pw_goalstead_k21_sizes_as_read.main.body.getD 83 (.Pass ⟨0, 0, 0, 0⟩)
theorem sc_op_row : FnScope ["pieces", "level", "side", "name"] ["pieces"] (defScope s_op_row) := ⟨rfl, rfl, rfl, by decide +kernel, rfl, by decide +kernel, by decide +kernel⟩
abbrev s_mode_of : Stmt := PySem.Challenge.pw_goalstead_k21_sizes_as_read.main.body.getD 85 (.Pass ⟨0, 0, 0, 0⟩)
theorem sc_mode_of : FnScope ["pieces", "places", "place"] ["pieces"] (defScope s_mode_of) := ⟨rfl, rfl, rfl, by decide +kernel, rfl, by decide +kernel, by decide +kernel⟩
abbrev s_mode_row : Stmt := PySem.Challenge.pw_goalstead_k21_sizes_as_read.main.body.getD 84 (.Pass ⟨0, 0, 0, 0⟩)
theorem sc_mode_row : FnScope ["pieces"] ["pieces"] (defScope s_mode_row) := ⟨rfl, rfl, rfl, by decide +kernel, rfl, by decide +kernel, by decide +kernel⟩
abbrev s_table_row : Stmt := PySem.Challenge.pw_goalstead_k21_sizes_as_read.main.body.getD 86 (.Pass ⟨0, 0, 0, 0⟩)
theorem sc_table_row : FnScope ["pieces"] ["pieces"] (defScope s_table_row) := ⟨rfl, rfl, rfl, by decide +kernel, rfl, by decide +kernel, by decide +kernel⟩
/-! ### op, mode and table lines -/
structure TxL (K : PySem.W.Frag) (w : World) (mg : Str → Option Value) : Prop where
  lv : ∃ p, mg "LEVEL_PIECES" = some (.ref p) ∧ ∀ H, SqT K H p (lvlL.map V.str)
  sd : ∃ p, mg "SIDES" = some (.ref p) ∧ ∀ H, SqT K H p (sideL.map V.str)
  pl : ∃ p, mg "PLACES_PIECES" = some (.ref p) ∧ ∀ H, SqT K H p (plcL.map V.str)
  kd : ∃ d es n, mg "PLACE_SIGNS" = some (.ref d) ∧ KDict K w d es n ∧ (∃ t, PySem.W.nsIn K d "in" = some (some (.str "+" t))) ∧ (∃ t, PySem.W.nsIn K d "out" = some (some (.str "-" t))) ∧ ∀ z : Str, z ≠ ("in" : Str) → z ≠ ("out" : Str) → PySem.W.nsIn K d z = some none
def spIsMark (K : PySem.W.Frag) : Sp := fun vs H Q _ => ∃ (z : Str) (c : Nat) (t : List Nat), vs = [.str z] ∧ tl z = c :: t ∧ z.length ≤ 1000 ∧ Q (.bl (decide (c ∈ sM))) H
def spIsName (K : PySem.W.Frag) : Sp := fun vs H Q _ => ∃ (z : Str), vs = [.str z] ∧ tl z ≠ [] ∧ z.length ≤ 1000 ∧ Q (.bl (nameZ z)) H
def PcsAt (H : Hp) (pl : Addr) (zs : List Str) : Prop := H pl = some (.lst (zs.map V.str)) ∧ zs.length ≤ 1000 ∧ ∀ z ∈ zs, tl z ≠ [] ∧ z.length ≤ 1000 ∧ okStr z = true
def OutQ (K : PySem.W.Frag) (BS BZ : Addr) (H : Hp) (Q : VK) (E : XK) : Out → Prop
  | .told t => ∀ x H', Same H H' → TvAt K H' 24 x t → Q x H'
  | .shape => BadS BS H E
  | .size => BadS BZ H E
theorem OutQ.same {K : PySem.W.Frag} {BS BZ : Addr} {H G : Hp} {Q : VK} {E : XK} {o : Out} (h : OutQ K BS BZ H Q E o) (s : Same H G) : OutQ K BS BZ G Q E o := by
  cases o with
  | told t => exact fun x H' s' => h x H' (s.trans s')
  | shape => exact BadS.same h s
  | size => exact BadS.same h s
def spLnRow (K : PySem.W.Frag) (BS BZ : Addr) (f : List Str → Option Tv) : Sp := fun vs H Q E => ∃ (pl : Addr) (zs : List Str), vs = [.ref pl] ∧ PcsAt H pl zs ∧ OutQ K BS BZ H Q E (outO (f zs))
def spModeOf (K : PySem.W.Frag) (BS : Addr) : Sp := fun vs H Q E => ∃ (pl : Addr) (zs : List Str), vs = [.ref pl] ∧ PcsAt H pl zs ∧ (modeL zs = none → BadS BS H E) ∧ ∀ l, modeL zs = some l → ∀ H', Same H H' → Q (.str (modeM l)) H'
section
variable {P : Program} {w : World} {K : PySem.W.Frag} {mg : Str → Option Value} {base : Heap} {f : Addr} {fd : FuncData} {C BS BZ : Addr}
def HasIsMark (P : Program) (w : World) (K : PySem.W.Frag) (mg : Str → Option Value) (base : Heap) : Prop := Has P w K mg base 1 "is_mark" ["part"] (spIsMark K)
def HasIsName (P : Program) (w : World) (K : PySem.W.Frag) (mg : Str → Option Value) (base : Heap) : Prop := Has P w K mg base 2 "is_name" ["part"] (spIsName K)
def HasOpRow (BS BZ : Addr) (P : Program) (w : World) (K : PySem.W.Frag) (mg : Str → Option Value) (base : Heap) : Prop := HasEN P w K mg base 4 "_op_row" ["pieces"] (spLnRow K BS BZ opRow)
def HasModeOf (BS : Addr) (P : Program) (w : World) (K : PySem.W.Frag) (mg : Str → Option Value) (base : Heap) : Prop := HasEN P w K mg base 4 "_mode_of" ["pieces"] (spModeOf K BS)
def HasModeRow (BS BZ : Addr) (P : Program) (w : World) (K : PySem.W.Frag) (mg : Str → Option Value) (base : Heap) : Prop := HasEN P w K mg base 5 "_mode_row" ["pieces"] (spLnRow K BS BZ modeRow)
def HasTableRow (BS BZ : Addr) (P : Program) (w : World) (K : PySem.W.Frag) (mg : Str → Option Value) (base : Heap) : Prop := HasEN P w K mg base 4 "_table_row" ["pieces"] (spLnRow K BS BZ tabRow)
theorem tv_row {H : Hp} {t : Addr} {vs : List V} {ts : List Tv} {k : Nat} (s : SqT K H t vs) (h : TvsAt K H (k + 1) vs ts) (hl : vs.length ≤ 1000) : TvAt K H (k + 2) (.ref t) (.t ts) := ⟨t, vs, rfl, s, hl, h.1, h.2⟩
theorem tvs_nil {H : Hp} {k : Nat} : TvsAt K H k [] [] := ⟨rfl, fun i y u h => by simp at h⟩
theorem tvs_cons {H : Hp} {k : Nat} {v : V} {u : Tv} {vs : List V} {ts : List Tv} (h : TvAt K H k v u) (g : TvsAt K H k vs ts) : TvsAt K H k (v :: vs) (u :: ts) := by
  refine ⟨by rw [List.length_cons, List.length_cons, g.1], fun i y u h1 h2 => ?_⟩
  cases i with
  | zero =>
    cases h1
    cases h2
    exact h
  | succ i =>
    rw [List.getElem?_cons_succ] at h1 h2
    exact g.2 i y u h1 h2
theorem tvs_s {H : Hp} {k : Nat} {z : Str} {vs : List V} {ts : List Tv} (g : TvsAt K H (k + 1) vs ts) : TvsAt K H (k + 1) (.str z :: vs) (.s z :: ts) := tvs_cons (k := k + 1) rfl g
theorem tvs_i {H : Hp} {k : Nat} {n : Int} {vs : List V} {ts : List Tv} (g : TvsAt K H (k + 1) vs ts) : TvsAt K H (k + 1) (.int n :: vs) (.i n :: ts) := tvs_cons (k := k + 1) rfl g
theorem ok_is_mark (F : Fun K "is_mark" "is_mark" s_is_mark f fd) (T : Txt mg) : FnOk P w K mg base CX0 1 f fd ["part"] (spIsMark K) := by
  refine F.ok sc_is_mark (fun vs H Q E h => ?_) (fun cdv A outer s H vs Q E hr h => ?_)
  · obtain ⟨z, c, t, rfl, _⟩ := h
    rfl
  obtain ⟨z, c, t, rfl, et, hz, q⟩ := h
  refine ⟨_, (pss_one (ps_ret (pe_and (pe_callB (call_isiKK (K := K)) (by rfl) T.z_isinstance (by decide +kernel) (pa_cons (pv 0) (pa_cons (pe_bltn (v := .ty "str") (by rfl) T.z_str (by decide +kernel) rfl) pa_nil))) (pe_one (pe_cmpR op_in_sign (pe_ix ix_str (pv 0) pe_int (fun _ _ => rfl)) (pe_globS rfl T.c_MARKS) (by rfl)))))), ?_⟩
  walk_at "sx"
  refine x_isT (t := .type "str") (c := true) (.base (.str z)) (kit_ty (by decide +kernel)) ?_
  walk_at "sx"
  refine x_ixS (sz (by omega)) (at0 (show (tl z)[0]? = some c by rw [et]; rfl)) ?_
  walk_at "sx"
  have e : ("+-*/<>=&!?^@#:|.$" : Str).cps.toList = sM := by decide +kernel
  rw [e]
  exact q
theorem ok_is_name (F : Fun K "is_name" "is_name" s_is_name f fd) (C_is_word : HasIsWord P w K mg base) (C_is_mark : HasIsMark P w K mg base) (C_is_kept : HasIsKept P w K mg base) : FnOk P w K mg base CX0 2 f fd ["part"] (spIsName K) := by
  refine F.ok sc_is_name (fun vs H Q E h => ?_) (fun cdv A outer s H vs Q E hr h => ?_)
  · obtain ⟨z, rfl, _⟩ := h
    rfl
  obtain ⟨z, rfl, hne, hz, q⟩ := h
  obtain ⟨c, t, et⟩ : ∃ c t, tl z = c :: t := by
    cases e : tl z with
    | nil => exact absurd e hne
    | cons c t => exact ⟨c, t, rfl⟩
  have ew : wmZ z = (decide (c ∈ sS) || decide (c ∈ sM)) := by unfold wmZ; rw [et]
  unfold nameZ at q
  rw [ew] at q
  refine ⟨_, (pss_one (ps_ret (pe_and (pe_or (pe_callH C_is_word hr (pa_cons (pv 0) pa_nil) (hk := by omega)) (pe_one (pe_callH C_is_mark hr (pa_cons (pv 0) pa_nil) (hk := by omega)))) (pe_one (pe_not (pe_callH C_is_kept hr (pa_cons (pv 0) pa_nil) (hk := by omega))))))), ?_⟩
  walk_at "sx"
  refine ⟨z, c, t, rfl, et, hz, ?_⟩
  cases h1 : decide (c ∈ sS) with
  | true =>
    rw [h1] at q
    walk_at "sx"
    refine ⟨z, rfl, ?_⟩
    walk_at "sx"
    exact q
  | false =>
    rw [h1] at q
    walk_at "sx"
    refine ⟨z, c, t, rfl, et, hz, ?_⟩
    cases h2 : decide (c ∈ sM) with
    | true =>
      rw [h2] at q
      walk_at "sx"
      refine ⟨z, rfl, ?_⟩
      walk_at "sx"
      exact q
    | false =>
      rw [h2] at q
      walk_at "sx"
      exact q
theorem opRow_len {zs : List Str} (h : zs.length ≠ 4) : opRow zs = none := by
  unfold opRow
  split
  · exact absurd rfl h
  · rfl
theorem four_of {zs : List Str} (h : zs.length = 4) : ∃ a b c d, zs = [a, b, c, d] := by
  match zs, h with
  | [a, b, c, d], _ => exact ⟨a, b, c, d, rfl⟩
theorem wm_false {z : Str} {c : Nat} {t : List Nat} (et : tl z = c :: t) : wmZ z = (decide (c ∈ sS) || decide (c ∈ sM)) := by unfold wmZ; rw [et]
theorem tl_cons {z : Str} (h : tl z ≠ []) : ∃ c t, tl z = c :: t := by
  cases e : tl z with
  | nil => exact absurd e h
  | cons c t => exact ⟨c, t, rfl⟩
theorem ok_op_row (F : Fun K "_op_row" "_op_row" s_op_row f fd) (T : Txt mg) (TL_ : TxL K w mg) (C_is_word : HasIsWord P w K mg base) (C_is_mark : HasIsMark P w K mg base) (E_BadShape : HasErr P w K mg base "BadShape" "line" BS) : FnOk P w K mg base (L2N.CX P w) 4 f fd ["pieces"] (spLnRow K BS BZ opRow) := by
  refine F.okN sc_op_row (fun vs H Q E h => ?_) (fun cdv A outer s H vs Q E hr h => ?_)
  · obtain ⟨pl, zs, rfl, _⟩ := h
    rfl
  obtain ⟨pl, zs, rfl, ⟨hpl, hl, hzs⟩, q⟩ := h
  obtain ⟨pL, m_LEVEL_PIECES, hL⟩ := TL_.lv
  obtain ⟨pS, m_SIDES, hS⟩ := TL_.sd
  refine ⟨_, (pss_cons (ps_if (pt_cmpR op_ne (pe_callB (call_lenK (K := K)) (by rfl) T.z_len (by decide +kernel) (pa_cons (pv 0) pa_nil)) pe_int (nomark _))
      (pss_one (ps_raiseEN E_BadShape rfl (L2N.takes_of rfl rfl rfl rfl) hr (pa_cons pe_int pa_nil) (hk := by omega)))
      pss_nil)
    (pss_cons (ps_asg (pe_slice (sl_listK (K := K)) (pv 0) (po_some pe_int) po_none) (pg_lst (by rfl) (pgs_cons (pg_name (i := 1) sc_op_row.nd rfl (.inl rfl)) (pgs_cons (pg_name (i := 2) sc_op_row.nd rfl (.inl rfl)) (pgs_cons (pg_name (i := 3) sc_op_row.nd rfl (.inl rfl)) pgs_nil)))))
    (pss_cons (ps_if (PW.pt (pw_or (pt_cmpR (op_notInK (K := K)) (pv 1) (pe_glob (v := .ref _) rfl m_LEVEL_PIECES rfl) (by first | exact nomark _ | rfl)) (pw_or (pt_cmpR (op_notInK (K := K)) (pv 2) (pe_glob (v := .ref _) rfl m_SIDES rfl) (by first | exact nomark _ | rfl)) (pw_or1 (pt_not (PW.pt (pw_or (pt_val (pe_callH C_is_word hr (pa_cons (pv 3) pa_nil) (hk := by omega))) (pw_or1 (pt_val (pe_callH C_is_mark hr (pa_cons (pv 3) pa_nil) (hk := by omega)))))))))))
      (pss_one (ps_raiseEN E_BadShape rfl (L2N.takes_of rfl rfl rfl rfl) hr (pa_cons pe_int pa_nil) (hk := by omega)))
      pss_nil)
    (pss_one (ps_ret (pe_tup (pa_cons pe_str (pa_cons (pe_callTy call_int_str (by rfl) T.z_int (by decide +kernel) (pa_cons (pv 1) pa_nil)) (pa_cons (pv 2) (pa_cons (pv 3) pa_nil)))))))))), ?_⟩
  walk_at "sx"
  by_cases h4 : zs.length = 4
  · obtain ⟨o, l, sd, n, rfl⟩ := four_of h4
    rw [if_neg (by simp)]
    walk_at "sx"
    refine x_slL (.of hpl) fun p np => ?_
    have ec : cutV ([o, l, sd, n].map V.str) (some 1) none = [V.str l, V.str sd, V.str n] := rfl
    rw [ec]
    refine ⟨p, _, rfl, .of upd_same, rfl, ?_⟩
    have s1 : Same H (upd H p (.lst [V.str l, V.str sd, V.str n])) := same_upd np
    walk_at "sx"
    refine ⟨_, _, rfl, .inr (hL _), rfl, by decide, ?_⟩
    rw [if_pos rfl, inV_strs]
    have bad : ¬ (l ∈ lvlL ∧ sd ∈ sideL ∧ wmZ n = true) → BadS BS H E := fun hn => by
      have e : opRow [o, l, sd, n] = none := if_neg hn
      rw [e] at q
      exact q
    have good : (l ∈ lvlL ∧ sd ∈ sideL ∧ wmZ n = true) → ∀ x H', Same H H' → TvAt K H' 24 x (opT l sd n) → Q x H' := fun hn => by
      have e : opRow [o, l, sd, n] = some (opT l sd n) := if_pos hn
      rw [e] at q
      exact q
    by_cases h1 : l ∈ lvlL
    · rw [decide_eq_true h1]
      walk_at "sx"
      refine ⟨_, _, rfl, .inr (hS _), rfl, by decide, ?_⟩
      rw [if_pos rfl, inV_strs]
      by_cases h2 : sd ∈ sideL
      · rw [decide_eq_true h2]
        walk_at "sx"
        obtain ⟨c, t, et⟩ := tl_cons (hzs n (by simp)).1
        have zl := (hzs n (by simp)).2.1
        have ew := wm_false et
        refine ⟨n, c, t, rfl, et, zl, ?_⟩
        have fin : wmZ n = true → ∀ G t, Same H G → G t = none → Q (.ref t) (upd G t (.tup [V.str "op", V.int (digV l), V.str sd, V.str n])) := fun hw G t sG nt => good ⟨h1, h2, hw⟩ _ _ (sG.trans (same_upd nt)) (tv_row (k := 22) (.of upd_same) (tvs_s (tvs_i (tvs_s (tvs_s tvs_nil)))) (by simp))
        have dg := dig_int l (lvl_sub l h1)
        cases h3 : decide (c ∈ sS) with
        | true =>
          walk_at "sx"
          refine ⟨l, _, rfl, dg.1, dg.2, ?_⟩
          walk_at "sx"
          exact fin (by rw [ew, h3]; rfl) _ _ s1 (by assumption)
        | false =>
          walk_at "sx"
          refine ⟨n, c, t, rfl, et, zl, ?_⟩
          cases h5 : decide (c ∈ sM) with
          | true =>
            walk_at "sx"
            refine ⟨l, _, rfl, dg.1, dg.2, ?_⟩
            walk_at "sx"
            exact fin (by rw [ew, h3, h5]; rfl) _ _ s1 (by assumption)
          | false =>
            walk_at "sx"
            exact x_mkE (n := 0) (by decide) fun dd hd => ((bad fun h => by rw [ew, h3, h5] at h; exact absurd h.2.2 (by decide)).same s1).done hd
      · rw [decide_eq_false h2]
        walk_at "sx"
        exact x_mkE (n := 0) (by decide) fun dd hd => ((bad fun h => h2 h.2.1).same s1).done hd
    · rw [decide_eq_false h1]
      walk_at "sx"
      exact x_mkE (n := 0) (by decide) fun dd hd => ((bad fun h => h1 h.1).same s1).done hd
  · rw [if_pos (by simpa using fun e => h4 (by omega))]
    walk_at "sx"
    rw [opRow_len h4] at q
    exact x_mkE (n := 0) (by decide) fun dd hd => BadS.done q hd
theorem tabRow_len {zs : List Str} (h : zs.length ≠ 3) : tabRow zs = none := by
  unfold tabRow
  split
  · exact absurd rfl h
  · rfl
theorem three_of {zs : List Str} (h : zs.length = 3) : ∃ a b c, zs = [a, b, c] := by
  match zs, h with
  | [a, b, c], _ => exact ⟨a, b, c, rfl⟩
theorem ok_table_row (F : Fun K "_table_row" "_table_row" s_table_row f fd) (T : Txt mg) (TL_ : TxL K w mg) (C_is_name : HasIsName P w K mg base) (E_BadShape : HasErr P w K mg base "BadShape" "line" BS) : FnOk P w K mg base (L2N.CX P w) 4 f fd ["pieces"] (spLnRow K BS BZ tabRow) := by
  refine F.okN sc_table_row (fun vs H Q E h => ?_) (fun cdv A outer s H vs Q E hr h => ?_)
  · obtain ⟨pl, zs, rfl, _⟩ := h
    rfl
  obtain ⟨pl, zs, rfl, ⟨hpl, hl, hzs⟩, q⟩ := h
  obtain ⟨pP, m_PLACES_PIECES, hP⟩ := TL_.pl
  refine ⟨_, (pss_cons (ps_if (PW.pt (pw_or (pt_cmpR op_ne (pe_callB (call_lenK (K := K)) (by rfl) T.z_len (by decide +kernel) (pa_cons (pv 0) pa_nil)) pe_int (nomark _)) (pw_or (pt_not (pt_val (pe_callH C_is_name hr (pa_cons (pe_ix (ix_listK (K := K)) (pv 0) pe_int (fun _ _ => rfl)) pa_nil) (hk := by omega)))) (pw_or1 (pt_cmpR (op_notInK (K := K)) (pe_ix (ix_listK (K := K)) (pv 0) pe_int (fun _ _ => rfl)) (pe_glob (v := .ref _) rfl m_PLACES_PIECES rfl) (by first | exact nomark _ | rfl))))))
      (pss_one (ps_raiseEN E_BadShape rfl (L2N.takes_of rfl rfl rfl rfl) hr (pa_cons pe_int pa_nil) (hk := by omega)))
      pss_nil)
    (pss_one (ps_ret (pe_tup (pa_cons pe_str (pa_cons (pe_ix (ix_listK (K := K)) (pv 0) pe_int (fun _ _ => rfl)) (pa_cons (pe_callTy call_int_str (by rfl) T.z_int (by decide +kernel) (pa_cons (pe_ix (ix_listK (K := K)) (pv 0) pe_int (fun _ _ => rfl)) pa_nil)) pa_nil))))))), ?_⟩
  walk_at "sx"
  by_cases h4 : zs.length = 3
  · obtain ⟨o, n, k, rfl⟩ := three_of h4
    have bad : ¬ (nameZ n = true ∧ k ∈ plcL) → BadS BS H E := fun hn => by
      have e : tabRow [o, n, k] = none := if_neg hn
      rw [e] at q
      exact q
    have good : (nameZ n = true ∧ k ∈ plcL) → ∀ x H', Same H H' → TvAt K H' 24 x (tabT n k) → Q x H' := fun hn => by
      have e : tabRow [o, n, k] = some (tabT n k) := if_pos hn
      rw [e] at q
      exact q
    have hpl' : H pl = some (.lst [V.str o, V.str n, V.str k]) := hpl
    rw [if_neg (by simp)]
    walk_at "sx"
    refine ⟨n, rfl, (hzs n (by simp)).1, (hzs n (by simp)).2.1, ?_⟩
    cases h1 : nameZ n with
    | false =>
      walk_at "sx"
      exact x_mkE (n := 0) (by decide) fun dd hd => (bad fun h => by rw [h1] at h; exact absurd h.1 (by decide)).done hd
    | true =>
      walk_at "sx"
      refine ⟨_, _, rfl, .inr (hP _), rfl, by decide, ?_⟩
      rw [if_pos rfl, inV_strs]
      by_cases h2 : k ∈ plcL
      · rw [decide_eq_true h2]
        walk_at "sx"
        have dg := dig_int k (plc_sub k h2)
        refine ⟨k, _, rfl, dg.1, dg.2, ?_⟩
        walk_at "sx"
        exact good ⟨h1, h2⟩ _ _ (same_upd (by assumption)) (tv_row (k := 22) (.of upd_same) (tvs_s (tvs_s (tvs_i tvs_nil))) (by simp))
      · rw [decide_eq_false h2]
        walk_at "sx"
        exact x_mkE (n := 0) (by decide) fun dd hd => (bad fun h => h2 h.2).done hd
  · rw [if_pos (by simpa using fun e => h4 (by omega))]
    walk_at "sx"
    rw [tabRow_len h4] at q
    exact x_mkE (n := 0) (by decide) fun dd hd => BadS.done q hd
theorem modeRow_len : ∀ {zs : List Str}, zs.length < 2 → modeRow zs = none
  | [], _ => rfl
  | [_], _ => rfl
  | _ :: _ :: _, h => absurd h (by simp)
theorem ok_mode_row (F : Fun K "_mode_row" "_mode_row" s_mode_row f fd) (T : Txt mg) (C_is_name : HasIsName P w K mg base) (C_mode_of : HasModeOf BS P w K mg base) (E_BadShape : HasErr P w K mg base "BadShape" "line" BS) : FnOk P w K mg base (L2N.CX P w) 5 f fd ["pieces"] (spLnRow K BS BZ modeRow) := by
  refine F.okN sc_mode_row (fun vs H Q E h => ?_) (fun cdv A outer s H vs Q E hr h => ?_)
  · obtain ⟨pl, zs, rfl, _⟩ := h
    rfl
  obtain ⟨pl, zs, rfl, ⟨hpl, hl, hzs⟩, q⟩ := h
  refine ⟨_, (pss_cons (ps_if (PW.pt (pw_or (pt_cmpR op_lt (pe_callB (call_lenK (K := K)) (by rfl) T.z_len (by decide +kernel) (pa_cons (pv 0) pa_nil)) pe_int (nomark _)) (pw_or1 (pt_not (pt_val (pe_callH C_is_name hr (pa_cons (pe_ix (ix_listK (K := K)) (pv 0) pe_int (fun _ _ => rfl)) pa_nil) (hk := by omega)))))))
      (pss_one (ps_raiseEN E_BadShape rfl (L2N.takes_of rfl rfl rfl rfl) hr (pa_cons pe_int pa_nil) (hk := by omega)))
      pss_nil)
    (pss_one (ps_ret (pe_tup (pa_cons pe_str (pa_cons (pe_ix (ix_listK (K := K)) (pv 0) pe_int (fun _ _ => rfl)) (pa_cons (pe_callEN C_mode_of hr (L2N.takes_of rfl rfl rfl rfl) (pa_cons (pe_slice (sl_listK (K := K)) (pv 0) (po_some pe_int) po_none) pa_nil) (hk := by omega)) pa_nil))))))), ?_⟩
  walk_at "sx"
  by_cases h4 : zs.length < 2
  · rw [if_pos (by rw [List.length_map, decide_eq_true_iff]; omega)]
    walk_at "sx"
    rw [modeRow_len h4] at q
    exact x_mkE (n := 0) (by decide) fun dd hd => BadS.done q hd
  · rw [if_neg (by rw [List.length_map, decide_eq_true_iff]; omega)]
    obtain ⟨o, n, L, rfl⟩ : ∃ o n L, zs = o :: n :: L := by
      match zs, h4 with
      | [], h => exact absurd (by simp) h
      | [_], h => exact absurd (by simp) h
      | o :: n :: L, _ => exact ⟨o, n, L, rfl⟩
    have hpl' : H pl = some (.lst (V.str o :: V.str n :: L.map V.str)) := hpl
    walk_at "sx"
    refine ⟨n, rfl, (hzs n (by simp)).1, (hzs n (by simp)).2.1, ?_⟩
    cases h1 : nameZ n with
    | false =>
      have e : modeRow (o :: n :: L) = none := if_neg (by rw [h1]; decide)
      rw [e] at q
      walk_at "sx"
      exact x_mkE (n := 0) (by decide) fun dd hd => BadS.done q hd
    | true =>
      have e : modeRow (o :: n :: L) = (modeL L).map fun l => modeTv n (modeM l) := if_pos h1
      rw [e] at q
      walk_at "sx"
      refine x_slL (.of hpl) fun p np => ?_
      have ec : cutV ((o :: n :: L).map V.str) (some 2) none = L.map V.str := cut_drop20 (j := 2) (by simp)
      rw [ec]
      have s1 : Same H (upd H p (.lst (L.map V.str))) := same_upd np
      have hL : PcsAt (upd H p (.lst (L.map V.str))) p L := ⟨upd_same, by simp only [List.length_cons] at hl; omega, fun z hz => hzs z (by simp [hz])⟩
      walk_at "sx"
      refine ⟨p, L, rfl, hL, fun em => ?_, fun l em G sG => ?_⟩
      · rw [em] at q
        exact BadS.same q s1
      · rw [em] at q
        walk_at "sx"
        exact q _ _ ((s1.trans sG).trans (same_upd (by assumption))) (tv_row (k := 22) (.of upd_same) (tvs_s (tvs_s (tvs_s tvs_nil))) (by simp))
theorem eqvAll_strs : ∀ (a b : List Str), PyData.eqvAll (a.map PyData.str) (b.map PyData.str) = decide (a = b)
  | [], [] => by simp [PyData.eqvAll]
  | [], y :: b => by simp [PyData.eqvAll]
  | x :: a, [] => by simp [PyData.eqvAll]
  | x :: a, y :: b => by
    rw [List.map_cons, List.map_cons, PyData.eqvAll, eqvAll_strs a b, PyData.eqv]
    rw [show ((x : Str) == y) = decide (x = y) from by
      by_cases e : x = y
      · subst e
        simp
      · rw [decide_eq_false e]
        exact beq_false_of_ne e]
    simp
theorem eqv_strs (a b : List Str) : PyData.eqv (.list (a.map PyData.str)) (.list (b.map PyData.str)) = decide (a = b) := by
  rw [PyData.eqv, eqvAll_strs]
theorem x_neStrs {H : Hp} {Q : VK} {a b : Addr} {zs ys : List Str} (ha : SqL K H a (zs.map V.str)) (hb : SqL K H b (ys.map V.str)) (h : ∀ z ∈ zs, okStr z = true) (g : ∀ z ∈ ys, okStr z = true) (q : Q (.bl (!decide (zs = ys))) H) : rNeD K (.ref a) (.ref b) H Q := by
  refine ⟨_, _, .lst ha (dpStrs zs), .lst hb (dpStrs ys), shapedStrs h, shapedStrs g, ?_⟩
  rw [eqv_strs]
  exact q
theorem evens_mem {α : Type} : ∀ {l : List α} {x : α}, x ∈ evens l → x ∈ l
  | [], _, h => h
  | [a], _, h => h
  | a :: b :: r, x, h => by
    rcases List.mem_cons.mp (show x ∈ a :: evens r from h) with rfl | h
    · exact List.mem_cons_self ..
    · exact List.mem_cons_of_mem _ (List.mem_cons_of_mem _ (evens_mem h))
theorem rep_flat (n : Nat) : (List.replicate n [V.str ("," : Str)]).flatten = (List.replicate n ("," : Str)).map V.str := by
  induction n with
  | zero => rfl
  | succ n ih => rw [List.replicate_succ, List.flatten_cons, ih, List.replicate_succ]; rfl
theorem plZ_cases {z : Str} (h : plZ z = true) : z = ("in" : Str) ∨ z = ("out" : Str) := by
  unfold plZ at h
  simpa using h
theorem tru_strs {H : Hp} {pl : Addr} {zs : List Str} (h : H pl = some (.lst (zs.map V.str))) : TruV K (.ref pl) H (!zs.isEmpty) := .inl ⟨_, .of h, by cases zs <;> rfl⟩
theorem map_get {zs : List Str} {i : Nat} {x : V} (h : (zs.map V.str)[i]? = some x) : ∃ z, zs[i]? = some z ∧ x = .str z := by
  rw [List.getElem?_map] at h
  cases e : zs[i]? with
  | none =>
    rw [e] at h
    cases h
  | some z =>
    rw [e] at h
    cases h
    exact ⟨z, rfl, rfl⟩
theorem sum_sign (l : List Str) : ((l.map signZ).map fun z => z.length).sum = l.length := by
  induction l with
  | nil => rfl
  | cons z r ih =>
    have : (signZ z).length = 1 := by
      unfold signZ
      split <;> decide +kernel
    rw [List.map_cons, List.map_cons, List.sum_cons, ih, this, List.length_cons]
    omega
theorem ok_mode_of (F : Fun K "_mode_of" "_mode_of" s_mode_of f fd) (T : Txt mg) (TL_ : TxL K w mg) (E_BadShape : HasErr P w K mg base "BadShape" "line" BS) : FnOk P w K mg base (L2N.CX P w) 4 f fd ["pieces"] (spModeOf K BS) := by
  refine F.okN sc_mode_of (fun vs H Q E h => ?_) (fun cdv A outer s H vs Q E hr h => ?_)
  · obtain ⟨pl, zs, rfl, _⟩ := h
    rfl
  obtain ⟨pl, zs, rfl, ⟨hpl, hl, hzs⟩, bad, good⟩ := h
  obtain ⟨dP, eP, nP, m_PLACE_SIGNS, KD, ⟨t1, k1⟩, ⟨t2, k2⟩, k3⟩ := TL_.kd
  refine ⟨_, (pss_cons (ps_if (pt_not (pt_truthK (K := K) (pv 0) (by intro _; rfl)))
      (pss_one (ps_ret pe_str))
      pss_nil)
    (pss_cons (ps_set (i := 1) sc_mode_of.nd rfl (Or.inl rfl) (pe_ev1 (pv 0)))
    (pss_cons (ps_if (pt_not (pt_chain op_le op_le pe_int (pe_callB (call_lenK (K := K)) (by rfl) T.z_len (by decide +kernel) (pa_cons (pv 1) pa_nil)) (pe_globI rfl T.c_PARTS)))
      (pss_one (ps_raiseEN E_BadShape rfl (L2N.takes_of rfl rfl rfl rfl) hr (pa_cons pe_int pa_nil) (hk := by omega)))
      pss_nil)
    (pss_cons (ps_if (pt_cmpR (op_neDK (K := K) hr.units) (pe_ev0 (pv 0)) (pe_op op_cat (pe_op op_cat (pe_lst (pa_cons pe_str pa_nil)) (pe_op op_rep (pe_lst (pa_cons pe_str pa_nil)) (pe_op op_sub (pe_callB (call_lenK (K := K)) (by rfl) T.z_len (by decide +kernel) (pa_cons (pv 1) pa_nil)) pe_int))) (pe_lst (pa_cons pe_str pa_nil))) (nomark _))
      (pss_one (ps_raiseEN E_BadShape rfl (L2N.takes_of rfl rfl rfl rfl) hr (pa_cons pe_int pa_nil) (hk := by omega)))
      pss_nil)
    (pss_cons (ps_for (passes_of rfl) rfl (pi_list (pv 1)) (pg_name (i := 2) sc_mode_of.nd rfl (.inl rfl))
      (pss_one (ps_if (pt_cmpR (op_notInKd KD) (pv 2) (pe_glob (v := .ref _) rfl m_PLACE_SIGNS rfl) (by first | exact nomark _ | rfl))
      (pss_one (ps_raiseEN E_BadShape rfl (L2N.takes_of rfl rfl rfl rfl) hr (pa_cons pe_int pa_nil) (hk := by omega)))
      pss_nil)))
    (pss_one (ps_ret (pe_join pe_str (pe_lc (own := [("place", 2)]) (g := gName 2) (tt := tYes) rfl sc_mode_of.nd (pi_list (pv 1)) (blkOk_by (own := [("place", 2)]) (N := ["pieces", "places", "place"]) (sc := defScope s_mode_of) (by decide +kernel)) (fun _ _ _ _ _ => pg_name (i := 2) sc_mode_of.nd rfl (Or.inl rfl)) (fun _ _ _ _ _ => pts_nil) (fun _ _ _ _ _ => (pe_ix (ix_kd KD) (pe_glob (v := .ref _) rfl m_PLACE_SIGNS rfl) (pv 2) (fun _ _ => rfl)))))))))))), ?_⟩
  walk_at "sx"
  by_cases hz : zs = []
  · subst hz
    refine ⟨false, tru_strs hpl, ?_⟩
    walk_at "sx"
    exact good [] rfl _ (same_refl _)
  · refine ⟨true, by have := tru_strs (K := K) hpl; rwa [show (!zs.isEmpty) = true from by cases zs with | nil => exact absurd rfl hz | cons z r => rfl] at this, ?_⟩
    walk_at "sx"
    refine x_evL ?_
    walk_at "sx"
    refine ⟨pl, _, rfl, .of hpl, fun p np => ?_⟩
    have eo : evens ((zs.map V.str).drop 1) = (odds zs).map V.str := odds_map V.str zs
    rw [eo]
    have s1 : Same H (upd H p (.lst ((odds zs).map V.str))) := same_upd np
    have hp1 : (upd H p (.lst ((odds zs).map V.str))) p = some (.lst ((odds zs).map V.str)) := upd_same
    have hp2 := s1 _ _ hpl
    have lo : (odds zs).length ≤ zs.length := by
      unfold odds
      rw [evens_len, List.length_drop]
      omega
    have mo : ∀ z ∈ odds zs, z ∈ zs := fun z h => List.mem_of_mem_drop (evens_mem h)
    have bad' : ¬ ((1 ≤ (odds zs).length ∧ (odds zs).length ≤ 4) ∧ evens zs = frameZ (odds zs).length ∧ (odds zs).all plZ = true) → BadS BS H E := fun h => bad (by unfold modeL; rw [if_neg hz, if_neg h])
    have good' : ((1 ≤ (odds zs).length ∧ (odds zs).length ≤ 4) ∧ evens zs = frameZ (odds zs).length ∧ (odds zs).all plZ = true) → ∀ H', Same H H' → Q (.str (modeM (odds zs))) H' := fun h => good _ (by unfold modeL; rw [if_neg hz, if_pos h])
    generalize upd H p (.lst ((odds zs).map V.str)) = G at *
    walk_at "sx"
    have refuse : ∀ {σ : L2.St} {H1 : Hp}, Same H H1 → ¬ ((1 ≤ (odds zs).length ∧ (odds zs).length ≤ 4) ∧ evens zs = frameZ (odds zs).length ∧ (odds zs).all plZ = true) → ∀ dd, H1 dd = none → E (.ref BS) (some dd) (upd H1 dd (.xd [("line", .int ((0 : Nat) : Int))])) := fun s' h dd hd => ((bad' h).same s').done hd
    by_cases c1 : (1 ≤ (odds zs).length ∧ (odds zs).length ≤ 4)
    · rw [if_pos (by rw [List.length_map, decide_eq_true_iff]; omega)]
      walk_at "sx"
      rw [decide_eq_true (by rw [List.length_map]; omega)]
      walk_at "sx"
      refine x_evL ?_
      walk_at "sx"
      refine ⟨pl, _, rfl, .of hp2, fun p2 np2 => ?_⟩
      have ee : evens ((zs.map V.str).drop 0) = (evens zs).map V.str := by rw [List.drop_zero, evens_map]
      rw [ee]
      have s2 : Same G (upd G p2 (.lst ((evens zs).map V.str))) := same_upd np2
      have hp3 : (upd G p2 (.lst ((evens zs).map V.str))) p2 = some (.lst ((evens zs).map V.str)) := upd_same
      have hp1' := s2 _ _ hp1
      generalize upd G p2 (.lst ((evens zs).map V.str)) = G2 at *
      walk_at "sx"
      rename_i a1 na1 a2 na2
      have na21 : a2 ≠ a1 := fun e => by
        rw [e, upd_same] at na2
        cases na2
      have ln : (List.map V.str (odds zs)).length = (odds zs).length := List.length_map ..
      have lr : [V.str ("," : Str)].length * (((List.map V.str (odds zs)).length : Int) - 1).toNat ≤ sizeLine := Nat.le_of_lt (szl (by rw [List.length_singleton]; omega))
      refine ⟨a2, _, [V.str ","], rfl, rfl, upd_same, by omega, by omega, lr, fun p3 np3 => ?_⟩
      rw [rep_flat, show (((List.map V.str (odds zs)).length : Int) - 1).toNat = (odds zs).length - 1 from by omega]
      refine x_cat (xs := [V.str "("]) (zs := (List.replicate ((odds zs).length - 1) ("," : Str)).map V.str) (by walk_at "hx") upd_same (Nat.le_of_lt (szl (by simp only [List.length_singleton, List.length_map, List.length_replicate]; omega))) fun p4 np4 => ?_
      walk_at "sx"
      rename_i a5 na5
      refine x_cat (xs := [V.str "("] ++ (List.replicate ((odds zs).length - 1) ("," : Str)).map V.str) (zs := [V.str ")"]) (by walk_at "hx") upd_same (Nat.le_of_lt (szl (by simp only [List.length_append, List.length_singleton, List.length_map, List.length_replicate]; omega))) fun p6 np6 => ?_
      have ef : [V.str ("(" : Str)] ++ (List.replicate ((odds zs).length - 1) ("," : Str)).map V.str ++ [V.str (")" : Str)] = (frameZ (odds zs).length).map V.str := by
        unfold frameZ
        simp
      rw [ef]
      have sA : Same G2 (upd (upd (upd (upd (upd (upd G2 a1 (.lst [V.str "("])) a2 (.lst [V.str ","])) p3 (.lst ((List.replicate ((odds zs).length - 1) ("," : Str)).map V.str))) p4 (.lst ([V.str "("] ++ (List.replicate ((odds zs).length - 1) ("," : Str)).map V.str))) a5 (.lst [V.str ")"])) p6 (.lst ((frameZ (odds zs).length).map V.str))) := by walk_at "sm"
      have h6 : (upd (upd (upd (upd (upd (upd G2 a1 (.lst [V.str "("])) a2 (.lst [V.str ","])) p3 (.lst ((List.replicate ((odds zs).length - 1) ("," : Str)).map V.str))) p4 (.lst ([V.str "("] ++ (List.replicate ((odds zs).length - 1) ("," : Str)).map V.str))) a5 (.lst [V.str ")"])) p6 (.lst ((frameZ (odds zs).length).map V.str))) p6 = some (.lst ((frameZ (odds zs).length).map V.str)) := upd_same
      have h3' := sA _ _ hp3
      have h1' := sA _ _ hp1'
      have s3 := (s1.trans s2).trans sA
      generalize upd (upd (upd (upd (upd (upd G2 a1 (.lst [V.str "("])) a2 (.lst [V.str ","])) p3 (.lst ((List.replicate ((odds zs).length - 1) ("," : Str)).map V.str))) p4 (.lst ([V.str "("] ++ (List.replicate ((odds zs).length - 1) ("," : Str)).map V.str))) a5 (.lst [V.str ")"])) p6 (.lst ((frameZ (odds zs).length).map V.str)) = G3 at *
      refine x_neStrs (.of h3') (.of h6) (fun z h => (hzs z (evens_mem h)).2.2) (fun z h => ?_) ?_
      · unfold frameZ at h
        rcases List.mem_cons.mp h with rfl | h
        · decide +kernel
        · rcases List.mem_append.mp h with h | h
          · rw [(List.mem_replicate.mp h).2]
            decide +kernel
          · rw [List.mem_singleton.mp h]
            decide +kernel
      by_cases c2 : evens zs = frameZ (odds zs).length
      · rw [decide_eq_true c2]
        walk_at "sx"
        refine x_forL (K := K) (a := p) (xs := (odds zs).map V.str) (fun i σ' G => ∃ x, σ' = [some (.ref pl), some (.ref p), x] ∧ G = G3 ∧ ∀ z ∈ (odds zs).take i, plZ z = true) ⟨none, rfl, rfl, by simp⟩ (fun i σ' G _ h => by obtain ⟨_, _, rfl, _⟩ := h; exact .of h1') ?_ ?_ (.of h1')
        · rintro i x σ' G hx ⟨y, rfl, rfl, hall⟩
          obtain ⟨z, hz', rfl⟩ := map_get hx
          walk_at "sx"
          cases hp : plZ z with
          | true =>
            have fin : ∀ z' ∈ (odds zs).take (i + 1), plZ z' = true := fun z' h => by
              rw [List.take_succ, hz'] at h
              rcases List.mem_append.mp h with h | h
              · exact hall z' h
              · rw [List.mem_singleton.mp h]
                exact hp
            rcases plZ_cases hp with rfl | rfl
            · refine ⟨_, _, rfl, rfl, k1, ?_⟩
              walk_at "sx"
              exact ⟨_, rfl, rfl, fin⟩
            · refine ⟨_, _, rfl, rfl, k2, ?_⟩
              walk_at "sx"
              exact ⟨_, rfl, rfl, fin⟩
          | false =>
            have n1 : z ≠ ("in" : Str) := fun e => by rw [e] at hp; exact absurd hp (by decide +kernel)
            have n2 : z ≠ ("out" : Str) := fun e => by rw [e] at hp; exact absurd hp (by decide +kernel)
            refine ⟨_, _, rfl, rfl, k3 z n1 n2, ?_⟩
            walk_at "sx"
            exact x_mkE (n := 0) (by decide) (refuse (σ := []) s3 fun h => by
              have := List.all_eq_true.mp h.2.2 z (List.mem_of_getElem? hz')
              rw [hp] at this
              cases this)
        · rintro σ' G ⟨x, rfl, rfl, hall⟩
          rw [List.length_map, List.take_length] at hall
          walk_at "sx"
          refine x_lcL (K := K) (a := p) (xs := (odds zs).map V.str) (fun D i G' => Same G G' ∧ G' D = some (.lst (((odds zs).take i).map fun z => V.str (signZ z)))) (.of h1') (fun D nD => ⟨same_upd nD, by rw [List.take_zero]; exact upd_same⟩) (fun D nD i G' _ h => .of (h.1 _ _ h1')) ?_ ?_
          · rintro D nD i x G' hx ⟨sG, hD⟩
            obtain ⟨z, hz', rfl⟩ := map_get hx
            have hp := hall z (List.mem_of_getElem? hz')
            have fin : Same G (upd G' D (.lst ((((odds zs).take i).map fun z => V.str (signZ z)) ++ [V.str (signZ z)]))) ∧ upd G' D (.lst ((((odds zs).take i).map fun z => V.str (signZ z)) ++ [V.str (signZ z)])) D = some (.lst (((odds zs).take (i + 1)).map fun z => V.str (signZ z))) := ⟨same_updf sG nD, by rw [upd_same, List.take_succ, hz', List.map_append]; rfl⟩
            walk_at "sx"
            refine ⟨rfl, ?_⟩
            walk_at "sx"
            have lz : (((odds zs).take i).map fun z => V.str (signZ z)).length < sizeLine := szl (by rw [List.length_map, List.length_take]; omega)
            rcases plZ_cases hp with rfl | rfl
            · refine ⟨_, _, .str "+", rfl, rfl, k1, ⟨_, rfl⟩, ?_⟩
              exact ⟨_, hD, lz, fin⟩
            · refine ⟨_, _, .str "-", rfl, rfl, k2, ⟨_, rfl⟩, ?_⟩
              exact ⟨_, hD, lz, fin⟩
          · rintro D nD G' ⟨sG, hD⟩
            rw [List.length_map, List.take_length] at hD
            walk_at "sx"
            have ee : Str.ofString "" = Str.empty := by decide +kernel
            refine ⟨Str.empty, D, (odds zs).map signZ, by rw [ee], rfl, .inl (.of (by rw [List.map_map]; exact hD)), ?_, good' ⟨c1, c2, List.all_eq_true.mpr hall⟩ _ (s3.trans sG)⟩
            rw [sum_sign]
            simp only [List.length_map, show Str.empty.length = 0 from rfl]
            omega
      · rw [decide_eq_false c2]
        walk_at "sx"
        exact x_mkE (n := 0) (by decide) (refuse (σ := []) s3 fun h => c2 h.2.1)
    · have dn : decide (1 ≤ ((List.map V.str (odds zs)).length : Int)) = true → decide (((List.map V.str (odds zs)).length : Int) ≤ 4) = false := fun h => by
        rw [List.length_map, decide_eq_true_iff] at h
        rw [List.length_map, decide_eq_false_iff_not]
        omega
      cases d1 : decide (1 ≤ ((List.map V.str (odds zs)).length : Int)) with
      | true =>
        walk_at "sx"
        rw [dn d1]
        walk_at "sx"
        exact x_mkE (n := 0) (by decide) (refuse (σ := []) s1 fun h => c1 h.1)
      | false =>
        walk_at "sx"
        exact x_mkE (n := 0) (by decide) (refuse (σ := []) s1 fun h => c1 h.1)
end
end Gs
namespace Gs
open PySem PySem.Spec PyProof.Rows L2 TL
/-- the signs of places, a written dict of the module -/
theorem txl_kd {K : PySem.W.Frag} {d : Addr} {h1 h2 : Int} {t1 t2 t3 t4 : Tok} {n : Nat} (l : K.lookup d = some ⟨.type "dict", none, .dict #[⟨h1, .str "in" t1, .str "+" t2⟩, ⟨h2, .str "out" t3, .str "-" t4⟩] n, #[]⟩) :
    (∃ t, PySem.W.nsIn K d "in" = some (some (.str "+" t))) ∧ (∃ t, PySem.W.nsIn K d "out" = some (some (.str "-" t))) ∧ ∀ z : Str, z ≠ ("in" : Str) → z ≠ ("out" : Str) → PySem.W.nsIn K d z = some none := by
  have key : ∀ (a z : Str) (t : Tok), (Value.str a t).isStr z = decide (a = z) := fun a z t => by
    show (a == z) = decide (a = z)
    rw [Bool.eq_iff_iff]
    simp
  have e1 : ∀ z : Str, PySem.W.nsIn K d z = (match ([⟨h1, .str "in" t1, .str "+" t2⟩, ⟨h2, .str "out" t3, .str "-" t4⟩] : List DictEntry).find? (·.key.isStr z) with
      | some e => some (some e.val)
      | none => some none) := fun z => by
    unfold PySem.W.nsIn
    rw [l]
    rfl
  refine ⟨⟨t2, ?_⟩, ⟨t4, ?_⟩, fun z h1 h2 => ?_⟩
  · rw [e1, List.find?_cons]
    simp only [key, decide_true]
  · rw [e1, List.find?_cons, List.find?_cons]
    simp only [key]
    rw [show decide (("in" : Str) = ("out" : Str)) = false by decide +kernel]
    simp only [decide_true]
  · rw [e1, List.find?_cons, List.find?_cons]
    simp only [key]
    rw [decide_eq_false (fun e => h1 e.symm), decide_eq_false (fun e => h2 e.symm)]
    rfl
end Gs
namespace Gs
open PySem PySem.Spec PyProof.Rows L2 TL SrtK
abbrev s_parted_by_commas : Stmt := PySem.Challenge.pw_goalstead_k21_sizes_as_read.main.body.getD 88 (.Pass ⟨0, 0, 0, 0⟩)
theorem sc_parted_by_commas : FnScope ["pieces", "parts", "brackets", "piece"] ["pieces"] (defScope s_parted_by_commas) := ⟨rfl, rfl, rfl, by decide +kernel, rfl, by decide +kernel, by decide +kernel⟩
/-! ### clauses: their goals parted -/
structure LLs (H G : Hp) (as : List Addr) (ps : List (List Str)) : Prop where
  len : as.length = ps.length
  at_ : ∀ (i : Nat) (a : Addr) (q : List Str), as[i]? = some a → ps[i]? = some q → G a = some (.lst (q.map V.str))
  nd : as.Nodup
  fresh : ∀ a ∈ as, H a = none
theorem LLs.nil {H G : Hp} : LLs H G [] [] := ⟨rfl, fun i a q h => by simp at h, .nil, fun a h => by cases h⟩
theorem LLs.same {H G G' : Hp} {as : List Addr} {ps : List (List Str)} (h : LLs H G as ps) (s : Same G G') : LLs H G' as ps := ⟨h.len, fun i a q h1 h2 => s _ _ (h.at_ i a q h1 h2), h.nd, h.fresh⟩
theorem LLs.upd {H G : Hp} {as : List Addr} {ps : List (List Str)} {D : Addr} {o : HO} (h : LLs H G as ps) (n : D ∉ as) : LLs H (upd G D o) as ps := ⟨h.len, fun i a q h1 h2 => by rw [upd_ne (fun e => n (by rw [← e]; exact List.mem_of_getElem? h1))]; exact h.at_ i a q h1 h2, h.nd, h.fresh⟩
theorem LLs.alive {H G : Hp} {as : List Addr} {ps : List (List Str)} (h : LLs H G as ps) {a : Addr} (m : a ∈ as) : ∃ o, G a = some o := by
  obtain ⟨i, hi⟩ := List.getElem?_of_mem m
  have hl := (List.getElem?_eq_some_iff.mp hi).1
  have hq : ps[i]? = some (ps[i]'(by rw [← h.len]; exact hl)) := List.getElem?_eq_getElem _
  exact ⟨_, h.at_ i a _ hi hq⟩
theorem LLs.new {H G : Hp} {as : List Addr} {ps : List (List Str)} {A : Addr} (h : LLs H G as ps) (hG : G A = none) (hH : H A = none) : LLs H (L2.upd G A (.lst [])) (as ++ [A]) (ps ++ [[]]) := by
  have nA : A ∉ as := fun m => by
    obtain ⟨o, e⟩ := h.alive m
    rw [hG] at e
    cases e
  refine ⟨by rw [List.length_append, List.length_append, h.len]; rfl, fun i a q h1 h2 => ?_, ?_, fun a m => ?_⟩
  · by_cases c : i < as.length
    · rw [List.getElem?_append_left c] at h1
      rw [List.getElem?_append_left (by rw [← h.len]; exact c)] at h2
      exact (h.upd nA).at_ i a q h1 h2
    · rw [List.getElem?_append_right (by omega)] at h1
      rw [List.getElem?_append_right (by rw [← h.len]; omega), ← h.len] at h2
      cases e : i - as.length with
      | zero =>
        rw [e] at h1 h2
        cases h1
        cases h2
        exact upd_same
      | succ j =>
        rw [e] at h1
        cases h1
  · rw [List.nodup_append]
    exact ⟨h.nd, by simp, fun a m b mb e => nA (by rw [List.mem_singleton.mp mb] at e; rw [← e]; exact m)⟩
  · rcases List.mem_append.mp m with m | m
    · exact h.fresh a m
    · rw [List.mem_singleton.mp m]
      exact hH
theorem LLs.put {H G : Hp} {as : List Addr} {a : Addr} {ps : List (List Str)} {q : List Str} {z : Str} (h : LLs H G (as ++ [a]) (ps ++ [q])) : LLs H (L2.upd G a (.lst ((q ++ [z]).map V.str))) (as ++ [a]) (ps ++ [q ++ [z]]) := by
  have hl : as.length = ps.length := by
    have := h.len
    rw [List.length_append, List.length_append] at this
    exact Nat.add_right_cancel this
  have na : a ∉ as := fun m => by
    have := h.nd
    rw [List.nodup_append] at this
    exact this.2.2 a m a (List.mem_singleton.mpr rfl) rfl
  refine ⟨by rw [List.length_append, List.length_append, hl]; rfl, fun i b r h1 h2 => ?_, h.nd, h.fresh⟩
  by_cases c : i < as.length
  · have h1' := h1
    rw [List.getElem?_append_left c] at h1'
    rw [List.getElem?_append_left (by omega)] at h2
    have : b ≠ a := fun e => na (by rw [← e]; exact List.mem_of_getElem? h1')
    rw [upd_ne this]
    exact h.at_ i b r h1 (by rw [List.getElem?_append_left (by omega)]; exact h2)
  · rw [List.getElem?_append_right (by omega)] at h1
    rw [List.getElem?_append_right (by omega), ← hl] at h2
    cases e : i - as.length with
    | zero =>
      rw [e] at h1 h2
      cases h1
      cases h2
      exact upd_same
    | succ j =>
      rw [e] at h1
      cases h1
theorem atI_last {xs : List V} {v : V} : atI (xs ++ [v]) (-1) = some v := by
  unfold atI ixN
  rw [if_neg (by decide), List.length_append, List.length_singleton]
  rw [if_pos (by omega)]
  show (xs ++ [v])[_]? = some v
  rw [show ((-1 : Int) + ((xs.length + 1 : Nat) : Int)).toNat = xs.length from by omega, List.getElem?_append_right (Nat.le_refl _), Nat.sub_self]
  rfl
def bnext (b : Int) (z : Str) : Int := if z = ("(" : Str) then b + 1 else if z = (")" : Str) then b - 1 else b
theorem pstep_new {S : List (List Str) × Int} {z : Str} (h : S.1 = [] ∨ (z = ("," : Str) ∧ bnext S.2 z = 0)) : pstep S z = (S.1 ++ [[]], bnext S.2 z) := if_pos h
theorem pstep_put {S : List (List Str) × Int} {z : Str} (h : ¬ (S.1 = [] ∨ (z = ("," : Str) ∧ bnext S.2 z = 0))) : pstep S z = (S.1.dropLast ++ [(S.1.getLast?.getD []) ++ [z]], bnext S.2 z) := if_neg h
theorem bnext_le (b : Int) (z : Str) : (bnext b z).natAbs ≤ b.natAbs + 1 := by
  unfold bnext
  split
  · omega
  · split <;> omega
def SzOk (n : Nat) (S : List (List Str) × Int) : Prop := S.1.length ≤ n ∧ (∀ q ∈ S.1, q.length ≤ n) ∧ S.2.natAbs ≤ n
theorem SzOk.step {n : Nat} {S : List (List Str) × Int} (h : SzOk n S) (z : Str) : SzOk (n + 1) (pstep S z) := by
  have hb := bnext_le S.2 z
  obtain ⟨h1, h2, h3⟩ := h
  by_cases c : S.1 = [] ∨ (z = ("," : Str) ∧ bnext S.2 z = 0)
  · rw [pstep_new c]
    refine ⟨by rw [List.length_append, List.length_singleton]; omega, fun q hq => ?_, by show (bnext S.2 z).natAbs ≤ n + 1; omega⟩
    rcases List.mem_append.mp hq with hq | hq
    · have := h2 q hq
      omega
    · rw [List.mem_singleton.mp hq]
      exact Nat.zero_le _
  · rw [pstep_put c]
    rcases List.eq_nil_or_concat S.1 with e | ⟨ps', q, e⟩
    · exact absurd (.inl e) c
    rw [List.concat_eq_append] at e
    rw [e] at h1 h2 ⊢
    have hq := h2 q (by simp)
    rw [List.length_append, List.length_singleton] at h1
    refine ⟨by simp; omega, fun r hr => ?_, by show (bnext S.2 z).natAbs ≤ n + 1; omega⟩
    simp only [List.dropLast_concat, List.getLast?_concat, Option.getD_some] at hr
    rcases List.mem_append.mp hr with hr | hr
    · have := h2 r (by simp [hr])
      omega
    · rw [List.mem_singleton.mp hr, List.length_append, List.length_singleton]
      omega
theorem fold_sz : ∀ (zs : List Str) {n : Nat} {S : List (List Str) × Int}, SzOk n S → SzOk (n + zs.length) (zs.foldl pstep S)
  | [], _, _, h => h
  | z :: r, n, S, h => by
    have := fold_sz r (h.step z)
    rw [List.length_cons, List.foldl_cons]
    rwa [show n + (r.length + 1) = n + 1 + r.length from by omega]
theorem sz_take (zs : List Str) (i : Nat) : SzOk i ((zs.take i).foldl pstep ([], 0)) := by
  have h : SzOk (0 + (zs.take i).length) ((zs.take i).foldl pstep ([], 0)) := fold_sz _ ⟨Nat.le_refl _, fun q hq => by (cases hq), Nat.le_refl _⟩
  have hl : (zs.take i).length ≤ i := by rw [List.length_take]; omega
  exact ⟨by have := h.1; omega, fun q hq => by have := h.2.1 q hq; omega, by have := h.2.2; omega⟩
def spParted (K : PySem.W.Frag) : Sp := fun vs H Q _ => ∃ (pl : Addr) (zs : List Str), vs = [.ref pl] ∧ H pl = some (.lst (zs.map V.str)) ∧ zs.length ≤ 1000 ∧ ∀ (D : Addr) (as : List Addr) H', Same H H' → H D = none → H' D = some (.lst (as.map V.ref)) → LLs H H' as (partsF zs) → Q (.ref D) H'
section
variable {P : Program} {w : World} {K : PySem.W.Frag} {mg : Str → Option Value} {base : Heap} {f : Addr} {fd : FuncData} {C BS BZ : Addr}
def HasParted16 (P : Program) (w : World) (K : PySem.W.Frag) (mg : Str → Option Value) (base : Heap) : Prop := Has P w K mg base 2 "_parted_by_commas" ["pieces"] (spParted K)
theorem ok_parted16 (F : Fun K "_parted_by_commas" "_parted_by_commas" s_parted_by_commas f fd) : FnOk P w K mg base CX0 2 f fd ["pieces"] (spParted K) := by
  refine F.ok sc_parted_by_commas (fun vs H Q E h => ?_) (fun cdv A outer s H vs Q E hr h => ?_)
  · obtain ⟨pl, zs, rfl, _⟩ := h
    rfl
  obtain ⟨pl, zs, rfl, hpl, hl, q⟩ := h
  refine ⟨_, (pss_cons (ps_set (i := 1) sc_parted_by_commas.nd rfl (Or.inl rfl) (pe_lst pa_nil))
    (pss_cons (ps_set (i := 2) sc_parted_by_commas.nd rfl (Or.inl rfl) pe_int)
    (pss_cons (ps_for PassesOwn.never rfl (pi_list (pv 0)) (pg_name (i := 3) sc_parted_by_commas.nd rfl (.inl rfl))
      (Evl.pss_cut (ps_if (pt_cmpR op_eq (pv 3) pe_str (nomark _))
      (pss_one (ps_aug (i := 2) sc_parted_by_commas.nd rfl (.inl rfl) pe_int ip_add))
      (pss_one (ps_if (pt_cmpR op_eq (pv 3) pe_str (nomark _))
      (pss_one (ps_aug (i := 2) sc_parted_by_commas.nd rfl (.inl rfl) pe_int ip_sub))
      pss_nil)))
    (pss_one (ps_if (PW.pt (pw_or (pt_not (pt_truthK (K := K) (pv 1) (by intro _; rfl))) (pw_or1 (PW.pt (pw_and (pt_cmpR op_eq (pv 3) pe_str (nomark _)) (pw_and1 (pt_cmpR op_eq (pv 2) pe_int (nomark _))))))))
      (pss_one (ps_expr (pe_bm PySem.F.plainAttrs_list PySem.F.slot_list_append PySem.F.type_list_append mt_append (pv 1) (pa_cons (pe_lst pa_nil) pa_nil))))
      (pss_one (ps_expr (pe_bm PySem.F.plainAttrs_list PySem.F.slot_list_append PySem.F.type_list_append mt_append (pe_ix (ix_listK (K := K)) (pv 1) (pe_un un_neg pe_int) (fun _ _ => rfl)) (pa_cons (pv 3) pa_nil))))))))
    (pss_one (ps_ret (pv 1)))))), ?_⟩
  walk_at "sx"
  rename_i D nD
  have hpD : (upd H D (.lst [])) pl = some (.lst (zs.map V.str)) := by walk_at "hx"
  refine x_forL (K := K) (a := pl) (xs := zs.map V.str) (fun i σ' G => ∃ (as : List Addr) (x : Option V), σ' = [some (.ref pl), some (.ref D), some (.int (((zs.take i).foldl pstep ([], 0)).2)), x] ∧ Same H G ∧ G D = some (.lst (as.map V.ref)) ∧ D ∉ as ∧ LLs H G as (((zs.take i).foldl pstep ([], 0)).1)) ⟨[], none, rfl, same_upd nD, upd_same, by simp, .nil⟩ (fun i σ' G _ h => by obtain ⟨_, _, _, s, _⟩ := h; exact .of (s _ _ hpl)) ?_ ?_ (.of hpD)
  · rintro i x σ' G hx ⟨as, y, rfl, sG, hD, nDa, hLs⟩
    obtain ⟨z, hz, rfl⟩ := map_get hx
    have et : (zs.take (i + 1)).foldl pstep ([], 0) = pstep ((zs.take i).foldl pstep ([], 0)) z := by
      rw [List.take_succ, hz]
      show ((zs.take i ++ [z]).foldl pstep ([], 0)) = _
      rw [List.foldl_append]
      rfl
    have hi : i < zs.length := (List.getElem?_eq_some_iff.mp hz).1
    rw [et]
    obtain ⟨z1, z2, z3⟩ := sz_take zs i
    generalize (zs.take i).foldl pstep ([], 0) = S at *
    obtain ⟨ps, b⟩ := S
    dsimp only at *
    refine x_cut (M := fun σ' G' => σ' = [some (.ref pl), some (.ref D), some (.int (bnext b z)), some (.str z)] ∧ G' = G) ?_ ?_
    · walk_at "sx"
      by_cases c1 : z = ("(" : Str)
      · have e : bnext b z = b + 1 := if_pos c1
        rw [e]
        subst c1
        rw [if_pos (by simp)]
        walk_at "sx"
        exact ⟨rfl, rfl⟩
      · rw [if_neg (by simpa using c1)]
        walk_at "sx"
        by_cases c2 : z = (")" : Str)
        · have e : bnext b z = b - 1 := by unfold bnext; rw [if_neg c1, if_pos c2]
          rw [e]
          subst c2
          rw [if_pos (by simp)]
          walk_at "sx"
          exact ⟨rfl, rfl⟩
        · have e : bnext b z = b := by unfold bnext; rw [if_neg c1, if_neg c2]
          rw [e, if_neg (by simpa using c2)]
          walk_at "sx"
          exact ⟨rfl, rfl⟩
    · rintro σ' G' ⟨rfl, rfl⟩
      walk_at "sx"
      have new : (ps = [] ∨ (z = ("," : Str) ∧ bnext b z = 0)) → ∀ A, G' A = none → ∃ (as2 : List Addr) (x : Option V), [some (V.ref pl), some (V.ref D), some (V.int (bnext b z)), some (V.str z)] = [some (.ref pl), some (.ref D), some (.int (pstep (ps, b) z).2), x] ∧ Same H (upd (upd G' A (.lst [])) D (.lst (as.map V.ref ++ [.ref A]))) ∧ (upd (upd G' A (.lst [])) D (.lst (as.map V.ref ++ [.ref A]))) D = some (.lst (as2.map V.ref)) ∧ D ∉ as2 ∧ LLs H (upd (upd G' A (.lst [])) D (.lst (as.map V.ref ++ [.ref A]))) as2 (pstep (ps, b) z).1 := fun h A nA => by
        rw [pstep_new (S := (ps, b)) h]
        have hDA : D ≠ A := ne_of_none hD nA
        have n2 : D ∉ as ++ [A] := fun m => by
          rcases List.mem_append.mp m with m | m
          · exact nDa m
          · exact hDA (List.mem_singleton.mp m)
        exact ⟨as ++ [A], _, rfl, same_updf (same_updg sG nA) nD, by rw [upd_same, List.map_append]; rfl, n2, (hLs.new nA (sG.free nA)).upd n2⟩
      have put : ¬ (ps = [] ∨ (z = ("," : Str) ∧ bnext b z = 0)) → ∃ (as' : List Addr) (a : Addr) (q : List Str), as = as' ++ [a] ∧ G' a = some (.lst (q.map V.str)) ∧ ∃ (as2 : List Addr) (x : Option V), [some (V.ref pl), some (V.ref D), some (V.int (bnext b z)), some (V.str z)] = [some (.ref pl), some (.ref D), some (.int (pstep (ps, b) z).2), x] ∧ Same H (upd G' a (.lst (q.map V.str ++ [.str z]))) ∧ (upd G' a (.lst (q.map V.str ++ [.str z]))) D = some (.lst (as2.map V.ref)) ∧ D ∉ as2 ∧ LLs H (upd G' a (.lst (q.map V.str ++ [.str z]))) as2 (pstep (ps, b) z).1 ∧ q.length < 90000 := fun h => by
        rw [pstep_put (S := (ps, b)) h]
        rcases List.eq_nil_or_concat ps with e | ⟨ps', q, e⟩
        · exact absurd (.inl e) h
        rw [List.concat_eq_append] at e
        subst e
        rcases List.eq_nil_or_concat as with e | ⟨as', a, e⟩
        · have := hLs.len
          rw [e] at this
          simp at this
        rw [List.concat_eq_append] at e
        subst e
        have nda : D ≠ a := fun e => nDa (by rw [e]; simp)
        have hl' : as'.length = ps'.length := by
          have := hLs.len
          simpa using this
        have ha := hLs.at_ as'.length a q (by simp) (by rw [hl']; simp)
        refine ⟨as', a, q, rfl, ha, as' ++ [a], _, rfl, same_updf sG (hLs.fresh a (by simp)), by rw [upd_ne nda, hD], nDa, ?_, ?_⟩
        · have := hLs.put (z := z)
          simpa using this
        · have := z2 q (by simp)
          omega
      refine ⟨!(as.map V.ref).isEmpty, .inl ⟨_, .of hD, rfl⟩, ?_⟩
      by_cases c0 : as = []
      · subst c0
        have hp0 : ps = [] := List.eq_nil_of_length_eq_zero hLs.len.symm
        rw [if_pos (by rfl)]
        walk_at "sx"
        rename_i A nA
        refine x_app (xs := []) (by walk_at "hx") (szl (by decide)) ?_
        exact new (.inl hp0) A nA
      · have hp0 : ps ≠ [] := fun e => c0 (List.eq_nil_of_length_eq_zero (by rw [hLs.len, e]; rfl))
        rw [if_neg (by cases as with | nil => exact absurd rfl c0 | cons a r => simp)]
        walk_at "sx"
        have lA : as.length < 90000 := by rw [hLs.len]; omega
        by_cases c1 : z = ("," : Str)
        · rw [if_pos (by rw [c1]; simp)]
          walk_at "sx"
          by_cases c2 : bnext b z = 0
          · rw [decide_eq_true (by rw [c2])]
            walk_at "sx"
            rename_i A nA
            refine x_app (xs := as.map V.ref) (by walk_at "hx") (szl (by rw [List.length_map]; omega)) ?_
            exact new (.inr ⟨c1, c2⟩) A nA
          · rw [decide_eq_false (by simpa using c2)]
            walk_at "sx"
            obtain ⟨as', a, q, rfl, ha, fin1, fin2, fin3, fin4, fin5, fin6, fin7, fin8⟩ := put (fun h => h.elim hp0 fun h => c2 h.2)
            refine x_ixL (.of hD) (v := .ref a) (by rw [List.map_append]; exact atI_last) ?_
            walk_at "sx"
            refine x_app ha (szl (by rw [List.length_map]; omega)) ?_
            exact ⟨fin1, fin2, fin3, fin4, fin5, fin6, fin7⟩
        · rw [if_neg (by simpa using c1)]
          walk_at "sx"
          obtain ⟨as', a, q, rfl, ha, fin1, fin2, fin3, fin4, fin5, fin6, fin7, fin8⟩ := put (fun h => h.elim hp0 fun h => c1 h.1)
          refine x_ixL (.of hD) (v := .ref a) (by rw [List.map_append]; exact atI_last) ?_
          walk_at "sx"
          refine x_app ha (szl (by rw [List.length_map]; omega)) ?_
          exact ⟨fin1, fin2, fin3, fin4, fin5, fin6, fin7⟩
  · rintro σ' G ⟨as, y, rfl, sG, hD, nDa, hLs⟩
    rw [List.length_map, List.take_length] at hLs
    walk_at "sx"
    exact q D as G sG nD hD hLs
end
end Gs
namespace Gs
open PySem PySem.Spec PyProof.Rows L2 TL SrtK
abbrev s_clause_row : Stmt := PySem.Challenge.pw_goalstead_k21_sizes_as_read.main.body.getD 87 (.Pass ⟨0, 0, 0, 0⟩)
theorem sc_clause_row : FnScope ["pieces", "table", "at", "head", "goals", "reading", "part"] ["pieces", "table"] (defScope s_clause_row) := ⟨rfl, rfl, rfl, by decide +kernel, rfl, by decide +kernel, by decide +kernel⟩
abbrev s_read_line : Stmt := PySem.Challenge.pw_goalstead_k21_sizes_as_read.main.body.getD 76 (.Pass ⟨0, 0, 0, 0⟩)
theorem sc_read_line : FnScope ["line", "operators", "most", "pieces"] ["line", "operators", "most"] (defScope s_read_line) := ⟨rfl, rfl, rfl, by decide +kernel, rfl, by decide +kernel, by decide +kernel⟩
/-! ### clauses and lines read -/
theorem mt_indexS {X : Cx} {K : PySem.W.Frag} (h : X.K = K := by rfl) : MtR X "list.index" (rIndex K) := h ▸ mt_index
/-- what is known of the goals of a clause, from the left -/
structure GoalsR (R : List Op) (d dd : Nat) (parts : List (List Str)) (h : Pt) (o : Out) (gs : List Pt) : Prop where
  le : gs.length ≤ parts.length
  good : GoalL R d dd (parts.take gs.length) gs
  stop : ∀ z, parts[gs.length]? = some z → o = .shape ∧ (RdO R d z none ∨ ∃ g, RdO R d z (some g) ∧ GdP dd g ∧ goalP g = false)
  many : gs.length = parts.length → 6 < gs.length → o = .shape
  great : gs.length = parts.length → gs.length ≤ 6 → (∃ p ∈ h :: gs, big p) → o = .size
  fine : gs.length = parts.length → gs.length ≤ 6 → (∀ p ∈ h :: gs, ¬ big p) → o = .told (clauseT h gs)
theorem GoalL.all {R : List Op} {d dd : Nat} {parts : List (List Str)} {gs : List Pt} (h : GoalL R d dd parts gs) : GoalL R d dd (parts.take gs.length) gs ∧ ∀ z, parts[gs.length]? ≠ some z := by
  rw [List.take_of_length_le (by rw [h.len]; exact Nat.le_refl _)]
  refine ⟨h, fun z e => ?_⟩
  have := (List.getElem?_eq_some_iff.mp e).1
  rw [h.len] at this
  omega
theorem ClauseR.parts {R : List Op} {d dd : Nat} {zs : List Str} {o : Out} (h : ClauseR R d dd zs o) : ∃ oh, RdO R d (headP zs) oh ∧ (oh = none ∧ o = .shape ∨ ∃ h, oh = some h ∧ GdP dd h ∧ (relP h = false ∧ o = .shape ∨ relP h = true ∧ ∃ gs, GoalsR R d dd (partsF (tailP zs)) h o gs)) := by
  cases h with
  | noread h => exact ⟨_, h, .inl ⟨rfl, rfl⟩⟩
  | nohead h g r => exact ⟨_, h, .inr ⟨_, rfl, g, .inl ⟨r, rfl⟩⟩⟩
  | nogoal h g r e gl b =>
    rename_i h0 a b0 z gs
    have el : gs.length = a.length := gl.len.symm
    refine ⟨_, h, .inr ⟨_, rfl, g, .inr ⟨r, gs, ?_, ?_, ?_, ?_, ?_, ?_⟩⟩⟩
    · rw [e, List.length_append, el]
      omega
    · rw [e, el, List.take_left']
      · exact gl
      · rfl
    · intro y hy
      rw [e, el, List.getElem?_append_right (Nat.le_refl _), Nat.sub_self] at hy
      cases hy
      exact ⟨rfl, b⟩
    all_goals
      intro e2
      rw [e, List.length_append, List.length_cons] at e2
      omega
  | many h g r gl m => exact ⟨_, h, .inr ⟨_, rfl, g, .inr ⟨r, _, by rw [gl.len]; exact Nat.le_refl _, gl.all.1, fun z e => absurd e (gl.all.2 z), fun _ _ => rfl, fun _ h => by omega, fun _ h => by omega⟩⟩⟩
  | great h g r gl m b => exact ⟨_, h, .inr ⟨_, rfl, g, .inr ⟨r, _, by rw [gl.len]; exact Nat.le_refl _, gl.all.1, fun z e => absurd e (gl.all.2 z), fun _ h => by omega, fun _ _ _ => rfl, fun _ _ n => by obtain ⟨p, h1, h2⟩ := b; exact absurd h2 (n p h1)⟩⟩⟩
  | fine h g r gl m n => exact ⟨_, h, .inr ⟨_, rfl, g, .inr ⟨r, _, by rw [gl.len]; exact Nat.le_refl _, gl.all.1, fun z e => absurd e (gl.all.2 z), fun _ h => by omega, fun _ _ b => by obtain ⟨p, h1, h2⟩ := b; exact absurd h2 (n p h1), fun _ _ _ => rfl⟩⟩⟩
theorem TvAt.upN {K : PySem.W.Frag} {H : Hp} {k j : Nat} {x : V} {u : Tv} (h : TvAt K H k x u) (hk : k ≤ j) : TvAt K H j x u := by
  induction hk with
  | refl => exact h
  | step _ ih => exact ih.up
theorem head_take (zs : List Str) : headP zs = zs.take (headP zs).length ∧ tailP zs = zs.drop (headP zs).length := by
  have h : headP zs ++ tailP zs = zs := List.takeWhile_append_dropWhile
  constructor
  · exact (List.take_left' (l₁ := headP zs) (l₂ := tailP zs) rfl).symm.trans (by rw [h])
  · exact (List.drop_left' (l₁ := headP zs) (l₂ := tailP zs) rfl).symm.trans (by rw [h])
theorem head_le (zs : List Str) : (headP zs).length ≤ zs.length := by
  have h : headP zs ++ tailP zs = zs := List.takeWhile_append_dropWhile
  have := congrArg List.length h
  rw [List.length_append] at this
  omega
theorem head_at {zs : List Str} (h : ("<-" : Str) ∈ zs) : zs[(headP zs).length]? = some ("<-" : Str) ∧ ∀ j z, j < (headP zs).length → zs[j]? = some z → z ≠ ("<-" : Str) := by
  induction zs with
  | nil => cases h
  | cons z r ih =>
    by_cases e : z = ("<-" : Str)
    · subst e
      have e0 : headP (("<-" : Str) :: r) = [] := by
        unfold headP
        rw [List.takeWhile_cons_of_neg (by simp)]
      rw [e0]
      exact ⟨rfl, fun j z hj => by simp at hj⟩
    · have e1 : headP (z :: r) = z :: headP r := by
        unfold headP
        rw [List.takeWhile_cons_of_pos (by simpa using e)]
      have h' : ("<-" : Str) ∈ r := by
        rcases List.mem_cons.mp h with h | h
        · exact absurd h.symm e
        · exact h
      obtain ⟨h1, h2⟩ := ih h'
      rw [e1, List.length_cons]
      refine ⟨by rw [List.getElem?_cons_succ]; exact h1, fun j y hj hy => ?_⟩
      cases j with
      | zero =>
        cases hy
        exact e
      | succ j =>
        rw [List.getElem?_cons_succ] at hy
        exact h2 j y (by omega) hy
theorem head_all {zs : List Str} (h : ("<-" : Str) ∉ zs) : headP zs = zs := by
  unfold headP
  induction zs with
  | nil => rfl
  | cons z r ih =>
    rw [List.takeWhile_cons_of_pos (by
      have : z ≠ ("<-" : Str) := fun e => h (by rw [e]; exact List.mem_cons_self ..)
      simpa using this), ih fun m => h (List.mem_cons_of_mem _ m)]
def spClause16 (K : PySem.W.Frag) (C BS BZ : Addr) (d dd : Nat) : Sp := fun vs H Q E => ∃ (pl tb : Addr) (zs : List Str) (R : List Op) (o : Out), vs = [.ref pl, .ref tb] ∧ PcsAt H pl zs ∧ TabAt K C H tb R ∧ TabOk R ∧ ClauseR R d dd zs o ∧ OutQ K BS BZ H Q E o
def spReadLine (K : PySem.W.Frag) (BS BZ : Addr) (d dd : Nat) : Sp := fun vs H Q E => ∃ (line : Str) (most : Int) (b : Addr) (es : List V) (ops : List Op) (zs : List Str) (o : Out), vs = [.str line, .ref b, .int most] ∧ H b = some (.lst es) ∧ RowsAt K H es ops ∧ OpsOk ops ∧ TabOk (ownL ++ ops) ∧
  line.length ≤ 100000 ∧ Cut (tl line) (zs.map tl) ∧ (∀ z ∈ zs, OkBit (tl z)) ∧ most ≤ 1000 ∧ ((zs.length : Int) > most ∨ mostOpen zs > 12 → BadS BZ H E) ∧ ((zs.length : Int) ≤ most → mostOpen zs ≤ 12 → LineR (ownL ++ ops) d dd zs o ∧ OutQ K BS BZ H Q E o)
section
variable {P : Program} {w : World} {K : PySem.W.Frag} {mg : Str → Option Value} {base : Heap} {f : Addr} {fd : FuncData} {C BS BZ : Addr}
def HasClause16 (C BS BZ : Addr) (d dd : Nat) (P : Program) (w : World) (K : PySem.W.Frag) (mg : Str → Option Value) (base : Heap) : Prop := HasEN P w K mg base (4 * d + 8) "_clause_row" ["pieces", "table"] (spClause16 K C BS BZ d dd)
def HasReadLine (BS BZ : Addr) (d dd : Nat) (P : Program) (w : World) (K : PySem.W.Frag) (mg : Str → Option Value) (base : Heap) : Prop := HasKE P w K mg base (4 * d + 9) "read_line" ["line", "operators", "most"] 2 ["most"] [.int 200] (spReadLine K BS BZ d dd)
theorem ok_clause16 {d dd : Nat} (hdd : dd ≤ 20) (hd : dd + 6 ≤ 4 * d + 7) (F : Fun K "_clause_row" "_clause_row" s_clause_row f fd) (T : Txt mg) (C_read_pieces : HasReadPE C BS d P w K mg base) (C_is_relation : HasLook 3 "is_relation" dd relP P w K mg base) (C_goal_of : HasGoalOfE C BS d dd P w K mg base) (C_parted_by_commas : HasParted16 P w K mg base) (C_measure : HasMeasE BZ P w K mg base) (E_BadShape : HasErr P w K mg base "BadShape" "line" BS) : FnOk P w K mg base (L2N.CX P w) (4 * d + 8) f fd ["pieces", "table"] (spClause16 K C BS BZ d dd) := by
  refine F.okN sc_clause_row (fun vs H Q E h => ?_) (fun cdv A outer s H vs Q E hr h => ?_)
  · obtain ⟨pl, tb, zs, R, o, rfl, _⟩ := h
    rfl
  obtain ⟨pl, tb, zs, R, o, rfl, ⟨hpl, hl, hzs⟩, htb, tok, hcl, q⟩ := h
  obtain ⟨oh, hoh, hcase⟩ := hcl.parts
  have hle := head_le zs
  obtain ⟨eh, et⟩ := head_take zs
  refine ⟨_, (Evl.pss_cut (ps_set (i := 2) sc_clause_row.nd rfl (Or.inl rfl) (pe_ifExp (pt_cmpR (op_inK (K := K)) pe_str (pv 0) (by first | exact nomark _ | rfl)) (pe_bm PySem.F.plainAttrs_list PySem.F.slot_list_index PySem.F.type_list_index (mt_indexS (K := K)) (pv 0) (pa_cons pe_str pa_nil)) (pe_callB (call_lenK (K := K)) (by rfl) T.z_len (by decide +kernel) (pa_cons (pv 0) pa_nil))))
    (pss_cons (ps_set (i := 3) sc_clause_row.nd rfl (Or.inl rfl) (pe_callEN C_read_pieces hr (L2N.takes_of rfl rfl rfl rfl) (pa_cons (pe_slice (sl_listK (K := K)) (pv 0) po_none (po_some (pv 2))) (pa_cons (pv 1) pa_nil)) (hk := by omega)))
    (pss_cons (ps_if (pt_not (pt_val (pe_callH C_is_relation hr (pa_cons (pv 3) pa_nil) (hk := by omega))))
      (pss_one (ps_raiseEN E_BadShape rfl (L2N.takes_of rfl rfl rfl rfl) hr (pa_cons pe_int pa_nil) (hk := by omega)))
      pss_nil)
    (Evl.pss_cut (ps_setLcE (i := 4) (own := [("part", 6)]) (g := gName 6) (tt := tYes) rfl sc_clause_row.nd rfl rfl (L2N.takes_of rfl rfl rfl rfl) rfl rfl (sw_true rfl rfl rfl (by decide +kernel)) (pi_list (pe_callH C_parted_by_commas hr (pa_cons (pe_slice (sl_listK (K := K)) (pv 0) (po_some (pv 2)) po_none) pa_nil) (hk := by omega))) (blkOk_by (own := [("part", 6)]) (N := ["pieces", "table", "at", "head", "goals", "reading", "part"]) (sc := defScope s_clause_row) (by decide +kernel)) (fun _ _ _ _ _ => pg_name (i := 6) sc_clause_row.nd rfl (Or.inl rfl)) (fun _ _ _ _ _ => pts_nil) (fun _ _ _ _ _ => (pe_callEB C_goal_of hr (pa_cons (pv 6) (pa_cons (pv 1) pa_nil)) (hk := by omega))))
    (pss_cons (ps_if (pt_cmpR op_gt (pe_callB (call_lenK (K := K)) (by rfl) T.z_len (by decide +kernel) (pa_cons (pv 4) pa_nil)) (pe_globI rfl T.c_GOALS) (nomark _))
      (pss_one (ps_raiseEN E_BadShape rfl (L2N.takes_of rfl rfl rfl rfl) hr (pa_cons pe_int pa_nil) (hk := by omega)))
      pss_nil)
    (pss_cons (ps_for (passes_of rfl) rfl (pi_list (pe_op op_cat (pe_lst (pa_cons (pv 3) pa_nil)) (pv 4))) (pg_name (i := 5) sc_clause_row.nd rfl (.inl rfl))
      (pss_one (ps_expr (pe_callEN C_measure hr (L2N.takes_of rfl rfl rfl rfl) (pa_cons (pv 5) pa_nil) (hk := by omega)))))
    (pss_one (ps_ret (pe_tup (pa_cons pe_str (pa_cons (pv 3) (pa_cons (pe_callTy call_tuple_of (by rfl) T.z_tuple (by decide +kernel) (pa_cons (pv 4) pa_nil)) pa_nil)))))))))))), ?_⟩
  walk_at "sx"
  refine x_cut (M := fun σ' G => σ' = [some (.ref pl), some (.ref tb), some (.int ((headP zs).length : Int)), none, none, none, none] ∧ G = H) ?_ ?_
  · walk_at "sx"
    have hfl : (zs.map V.str).all flatV = true := by
      rw [List.all_map, List.all_eq_true]
      exact fun _ _ => rfl
    refine ⟨_, _, rfl, .inl (.of hpl), rfl, hfl, ?_⟩
    rw [if_neg (by decide), inV_strs]
    by_cases hin : ("<-" : Str) ∈ zs
    · obtain ⟨h1, h2⟩ := head_at hin
      rw [decide_eq_true hin]
      walk_at "sx"
      refine ⟨pl, zs.map V.str, .str "<-", (headP zs).length, .str "<-", rfl, rfl, .of hpl, rfl, hfl, by rw [List.getElem?_map, h1]; rfl, by decide +kernel, fun j z hj hz => ?_, ?_⟩
      · obtain ⟨y, hy, rfl⟩ := map_get hz
        exact decide_eq_false fun e => h2 j y hj hy e
      · walk_at "sx"
        exact ⟨rfl, rfl⟩
    · rw [decide_eq_false hin]
      walk_at "sx"
      refine ⟨?_, rfl⟩
      rw [head_all hin, List.length_map]
      rfl
  · rintro σ' G ⟨rfl, rfl⟩
    walk_at "sx"
    refine x_slL (.of hpl) fun p np => ?_
    have ec : cutV (zs.map V.str) none (some ((headP zs).length : Int)) = (headP zs).map V.str := by
      rw [cut_take20 (by rw [List.length_map]; exact hle), ← List.map_take, ← eh]
    rw [ec]
    have s1 : Same G (upd G p (.lst ((headP zs).map V.str))) := same_upd np
    walk_at "sx"
    refine ⟨p, tb, headP zs, R, oh, rfl, upd_same, htb.same s1, by omega, tok, hoh, fun e => ?_, fun h e x H2 s2 hx => ?_⟩
    · rcases hcase with ⟨_, rfl⟩ | ⟨h, e2, _⟩
      · exact BadS.same q s1
      · rw [e] at e2
        cases e2
    · subst e
      rcases hcase with ⟨e, _⟩ | ⟨h', e, gh, hcase⟩
      · cases e
      cases e
      have s12 := s1.trans s2
      walk_at "sx"
      refine ⟨x, _, h, rfl, hx, gh.ok, by have := gh.sz; omega, gh.dp, fun H3 s3 => ?_⟩
      have s13 := s12.trans s3
      rcases hcase with ⟨hr0, rfl⟩ | ⟨hr0, gs, hg⟩
      · rw [hr0]
        walk_at "sx"
        exact x_mkE (n := 0) (by decide) fun dd hd => (BadS.same q s13).done hd
      · rw [hr0]
        walk_at "sx"
        have hx3 := hx.same s3
        have hpl3 := s13 _ _ hpl
        have htb3 := htb.same s13
        have q3 := q.same s13
        have hlp : gs.length ≤ 6 → True := fun _ => trivial
        clear q hx hpl htb
        refine x_cut (M := fun σ' G' => ∃ (D : Addr) (us : List V), σ' = [some (.ref pl), some (.ref tb), some (.int ((headP zs).length : Int)), some x, some (.ref D), none, none] ∧ Same H3 G' ∧ G' D = some (.lst us) ∧ PtsAt K G' dd us gs ∧ gs.length = (partsF (tailP zs)).length) ?_ ?_
        · walk_at "sx"
          refine x_slL (.of hpl3) fun p2 np2 => ?_
          have ec2 : cutV (zs.map V.str) (some ((headP zs).length : Int)) none = (tailP zs).map V.str := by
            rw [cut_drop20 (by rw [List.length_map]; exact hle), ← List.map_drop, ← et]
          rw [ec2]
          have s4 : Same H3 (upd H3 p2 (.lst ((tailP zs).map V.str))) := same_upd np2
          walk_at "sx"
          have htl : (tailP zs).length ≤ 1000 := by rw [et, List.length_drop]; omega
          refine ⟨p2, tailP zs, rfl, upd_same, htl, fun D as H5 s5 nD hD hLs => ?_⟩
          have s45 := s4.trans s5
          have hfr : ∀ D2, H5 D2 = none → H3 D2 = none := fun D2 e => s45.free e
          refine x_lcL (K := K) (a := D) (xs := as.map V.ref) (fun D2 i G' => Same H5 G' ∧ i ≤ gs.length ∧ ∃ us, G' D2 = some (.lst us) ∧ PtsAt K G' dd us (gs.take i)) (.of hD) (fun D2 nD2 => ⟨same_upd nD2, Nat.zero_le _, [], upd_same, .nil⟩) (fun D2 nD2 i G' _ h => .of (h.1 _ _ hD)) ?_ ?_
          · rintro D2 nD2 i v G' hv ⟨sG, hi, us, hus, hpt⟩
            rw [List.getElem?_map] at hv
            obtain ⟨a, ha, rfl⟩ : ∃ a, as[i]? = some a ∧ v = .ref a := by
              cases e : as[i]? with
              | none => rw [e] at hv; cases hv
              | some a => rw [e] at hv; cases hv; exact ⟨a, rfl, rfl⟩
            have hil : i < (partsF (tailP zs)).length := by rw [← hLs.len]; exact (List.getElem?_eq_some_iff.mp ha).1
            have hz : (partsF (tailP zs))[i]? = some ((partsF (tailP zs))[i]'hil) := List.getElem?_eq_getElem _
            generalize (partsF (tailP zs))[i]'hil = z at hz
            have haz := sG _ _ (hLs.at_ i a z ha hz)
            have hzl : z.length ≤ 1000 := by
              have := (sz_take (tailP zs) (tailP zs).length).2.1
              rw [List.take_length] at this
              have := this z (List.mem_of_getElem? hz)
              omega
            walk_at "sx"
            refine ⟨rfl, ?_⟩
            walk_at "sx"
            have s4G := s45.trans sG
            have q4 := q3.same s4G
            have ul := hpt.1
            rw [List.length_take, Nat.min_eq_left hi] at ul
            by_cases c : i < gs.length
            · have hg' : gs[i]? = some (gs[i]'c) := List.getElem?_eq_getElem _
              generalize gs[i]'c = g at hg'
              obtain ⟨r1, r2, r3⟩ := hg.good.at_ i z g (by rw [List.getElem?_take_of_lt c]; exact hz) hg'
              refine ⟨a, tb, z, R, some g, rfl, haz, htb3.same s4G, hzl, tok, r1, fun e => (by cases e), fun p0 e => ?_⟩
              cases e
              refine ⟨r2.ok, by have := r2.sz; omega, r2.dp, fun e => (by rw [r3] at e; cases e), fun _ y H6 s6 hy => ?_⟩
              have h6 := s6 _ _ hus
              refine ⟨us, h6, szl (by have := hg.le; have : (partsF (tailP zs)).length ≤ 1000 := (by have := (sz_take (tailP zs) (tailP zs).length).1; rw [List.take_length] at this; exact Nat.le_trans this htl); omega), same_updf (sG.trans s6) nD2, c, us ++ [y], upd_same, ?_⟩
              have e : gs.take (i + 1) = gs.take i ++ [g] := by rw [List.take_succ, hg']; rfl
              rw [e]
              exact ((hpt.same s6).append (.one (hy.up r2.dp))).lst h6
            · have hi' : i = gs.length := by omega
              subst hi'
              obtain ⟨rfl, hbad⟩ := hg.stop z hz
              rcases hbad with hb | ⟨g, r1, r2, r3⟩
              · exact ⟨a, tb, z, R, none, rfl, haz, htb3.same s4G, hzl, tok, hb, fun _ => q4, fun p0 e => (by cases e)⟩
              · refine ⟨a, tb, z, R, some g, rfl, haz, htb3.same s4G, hzl, tok, r1, fun e => (by cases e), fun p0 e => ?_⟩
                cases e
                exact ⟨r2.ok, by have := r2.sz; omega, r2.dp, fun _ => q4, fun e => (by rw [r3] at e; cases e)⟩
          · rintro D2 nD2 G' ⟨sG, hi, us, hus, hpt⟩
            rw [List.length_map, hLs.len] at hi hpt
            have e : gs.length = (partsF (tailP zs)).length := Nat.le_antisymm hg.le hi
            rw [← e, List.take_length] at hpt
            walk_at "sx"
            exact ⟨D2, us, rfl, s45.trans sG, hus, hpt, e⟩
        · rintro σ' G' ⟨D, us, rfl, sG, hD, hpt, eg⟩
          walk_at "sx"
          have eu := hpt.1
          have q5 := q3.same sG
          by_cases c6 : 6 < gs.length
          · have eo := hg.many eg c6
            rw [if_pos (by rw [decide_eq_true_iff]; omega)]
            walk_at "sx"
            subst eo
            exact x_mkE (n := 0) (by decide) fun dd hd => BadS.done q5 hd
          · rw [if_neg (by rw [decide_eq_true_iff]; omega)]
            walk_at "sx"
            rename_i a1 na1
            refine x_cat (xs := [x]) (zs := us) upd_same (by walk_at "hx") (Nat.le_of_lt (szl (by simp only [List.length_singleton]; omega))) fun a2 na2 => ?_
            have s5 : Same G' (upd (upd G' a1 (.lst [x])) a2 (.lst ([x] ++ us))) := by walk_at "sm"
            have h2 : (upd (upd G' a1 (.lst [x])) a2 (.lst ([x] ++ us))) a2 = some (.lst (x :: us)) := upd_same
            have q6 := q5.same s5
            have hD6 := s5 _ _ hD
            have hpt6 := hpt.same s5
            have hx6 := (hx3.same sG).same s5
            generalize upd (upd G' a1 (.lst [x])) a2 (.lst ([x] ++ us)) = G6 at *
            have hall : ∀ (i : Nat) (v : V), (x :: us)[i]? = some v → ∃ p0, (h :: gs)[i]? = some p0 ∧ PtAt K G6 dd v p0 ∧ szT p0 ≤ 800 := fun i v hv => by
              cases i with
              | zero =>
                cases hv
                exact ⟨h, rfl, hx6.up gh.dp, gh.sz⟩
              | succ i =>
                rw [List.getElem?_cons_succ] at hv
                obtain ⟨u, hu, pu⟩ := hpt6.at hv
                have hui := (List.getElem?_eq_some_iff.mp hu).1
                have gg := (hg.good.at_ i ((partsF (tailP zs))[i]'(by omega)) u (by rw [List.getElem?_take_of_lt hui]; exact List.getElem?_eq_getElem _) hu).2.1
                exact ⟨u, by rw [List.getElem?_cons_succ]; exact hu, pu, gg.sz⟩
            refine x_forL (K := K) (a := a2) (xs := x :: us) (fun i σ' G7 => ∃ y, σ' = [some (.ref pl), some (.ref tb), some (.int ((headP zs).length : Int)), some x, some (.ref D), y, none] ∧ Same G6 G7 ∧ ∀ p0 ∈ (h :: gs).take i, ¬ big p0) ⟨none, rfl, same_refl _, by simp⟩ (fun i σ' G7 _ h => by obtain ⟨_, _, s, _⟩ := h; exact .of (s _ _ h2)) ?_ ?_ (.of h2)
            · rintro i v σ' G7 hv ⟨y, rfl, s7, hsm⟩
              obtain ⟨p0, e0, hp0, hz0⟩ := hall i v hv
              walk_at "sx"
              refine ⟨v, dd, p0, rfl, hp0.same s7, by omega, fun hb => ?_, fun hb G8 s8 => ?_⟩
              · have eo := hg.great eg (by omega) ⟨p0, List.mem_of_getElem? e0, hb⟩
                subst eo
                exact BadS.same q6 s7
              · walk_at "sx"
                refine ⟨_, rfl, s7.trans s8, fun p1 hp1 => ?_⟩
                rw [List.take_succ, e0] at hp1
                rcases List.mem_append.mp hp1 with hp1 | hp1
                · exact hsm p1 hp1
                · rw [List.mem_singleton.mp hp1]
                  unfold big
                  omega
            · rintro σ' G7 ⟨y, rfl, s7, hsm⟩
              rw [show (x :: us).length = (h :: gs).length from by rw [List.length_cons, List.length_cons, eu], List.take_length] at hsm
              have eo := hg.fine eg (by omega) hsm
              subst eo
              have q7 : ∀ x H', Same G7 H' → TvAt K H' 24 x (clauseT h gs) → Q x H' := fun y H' sy => q6 y H' (s7.trans sy)
              walk_at "sx"
              refine ⟨D, us, rfl, .inl ⟨.of (s7 _ _ hD6), fun l nl => ?_⟩⟩
              walk_at "sx"
              rename_i t nt
              have sl : Same G7 (upd G7 l (.tup us)) := same_upd nl
              have st : Same (upd G7 l (.tup us)) (upd (upd G7 l (.tup us)) t (.tup [V.str "clause", x, V.ref l])) := same_upd nt
              have hl7 : SqT K (upd G7 l (.tup us)) l us := .of upd_same
              have t1 : TvAt K (upd (upd G7 l (.tup us)) t (.tup [V.str "clause", x, V.ref l])) 23 x (tvP h) := ((((hx6.same s7).same sl).same st).tv (by have := gh.sz; omega)).upN (by have := gh.dp; have := hx6.dp; omega)
              have t2 : TvAt K (upd (upd G7 l (.tup us)) t (.tup [V.str "clause", x, V.ref l])) 23 (.ref l) (.t (tvL gs)) := by
                refine tv_row (k := 21) (Same.sqT st hl7) ⟨by rw [tvL_len]; exact eu, fun i v u g1 g2 => ?_⟩ (by omega)
                rw [tvL_get] at g2
                cases e2 : gs[i]? with
                | none => rw [e2] at g2; cases g2
                | some g =>
                  rw [e2] at g2
                  cases g2
                  obtain ⟨p0, e0, hp0, hz0⟩ := hall (i + 1) v (by rw [List.getElem?_cons_succ]; exact g1)
                  rw [List.getElem?_cons_succ, e2] at e0
                  cases e0
                  exact ((((hp0.same s7).same sl).same st).tv (by omega)).upN (by omega)
              exact q7 _ _ (sl.trans st) (tv_row (k := 22) (.of upd_same) (tvs_s (tvs_cons t1 (tvs_cons t2 tvs_nil))) (by simp))
theorem pc_facts {z : Str} (h : OkBit (tl z)) : tl z ≠ [] ∧ z.length ≤ 1000 ∧ okStr z = true := by
  obtain ⟨c, t, e, _⟩ := h.ex
  have hl := h.len
  rw [tl_lenP] at hl
  exact ⟨by rw [e]; simp, by omega, okStr_small h.small⟩
theorem ok_read_line {d dd : Nat} {kws : List (Str × V)} (F : FunD K "read_line" "read_line" (defArgs s_read_line) (defBody s_read_line) (defScope s_read_line) [] kws f fd) (T : Txt mg) (C_pieces_of : HasPiecesE BZ P w K mg base) (C_op_row : HasOpRow BS BZ P w K mg base) (C_mode_row : HasModeRow BS BZ P w K mg base) (C_table_row : HasTableRow BS BZ P w K mg base) (C_clause_row : HasClause16 C BS BZ d dd P w K mg base) (C_table_of : HasTable C P w K mg base) : FnOk P w K mg base (L2N.CX P w) (4 * d + 9) f fd ["line", "operators", "most"] (spReadLine K BS BZ d dd) := by
  refine F.ok sc_read_line (fun vs H Q E h => ?_) (fun cdv A outer s H vs Q E hr h => ?_)
  · obtain ⟨line, most, b, es, ops, zs, o, rfl, _⟩ := h
    rfl
  obtain ⟨line, most, b, es, ops, zs, o, rfl, hb, hro, oko, tok, hl, hcut, hpc, hm2, hbz, q0⟩ := h
  refine ⟨_, (pss_cons (ps_set (i := 3) sc_read_line.nd rfl (Or.inl rfl) (pe_callHKE C_pieces_of hr (L2N.takes_of rfl rfl rfl rfl) (pa_cons (pv 0) pa_nil) (pk_cons (pv 2) pk_nil) (hk := by omega)))
    (pss_cons (ps_if (pt_not (pt_truthK (K := K) (pv 3) (by intro _; rfl)))
      (pss_one (ps_ret (pe_tup (pa_cons pe_str pa_nil))))
      pss_nil)
    (pss_cons (ps_if (pt_cmpR op_eq (pe_ix (ix_listK (K := K)) (pv 3) pe_int (fun _ _ => rfl)) pe_str (nomark _))
      (pss_one (ps_ret (pe_callEN C_op_row hr (L2N.takes_of rfl rfl rfl rfl) (pa_cons (pv 3) pa_nil) (hk := by omega))))
      pss_nil)
    (pss_cons (ps_if (pt_cmpR op_eq (pe_ix (ix_listK (K := K)) (pv 3) pe_int (fun _ _ => rfl)) pe_str (nomark _))
      (pss_one (ps_ret (pe_callEN C_mode_row hr (L2N.takes_of rfl rfl rfl rfl) (pa_cons (pv 3) pa_nil) (hk := by omega))))
      pss_nil)
    (pss_cons (ps_if (pt_cmpR op_eq (pe_ix (ix_listK (K := K)) (pv 3) pe_int (fun _ _ => rfl)) pe_str (nomark _))
      (pss_one (ps_ret (pe_callEN C_table_row hr (L2N.takes_of rfl rfl rfl rfl) (pa_cons (pv 3) pa_nil) (hk := by omega))))
      pss_nil)
    (pss_one (ps_ret (pe_callEN C_clause_row hr (L2N.takes_of rfl rfl rfl rfl) (pa_cons (pv 3) (pa_cons (pe_callH C_table_of hr (pa_cons (pv 1) pa_nil) (hk := by omega)) pa_nil)) (hk := by omega))))))))), ?_⟩
  walk_at "sx"
  refine x_callNS ?_
  walk_at "sx"
  refine ⟨rfl, rfl, line, most, zs, rfl, hl, hcut, fun z hz => (hpc z hz).pc, hbz, fun hm ho pl H1 npl s1 epl => ?_⟩
  obtain ⟨hln, q⟩ := q0 hm ho
  have q1 := q.same s1
  have hps : PcsAt H1 pl zs := ⟨epl, by omega, fun z hz => pc_facts (hpc z hz)⟩
  walk_at "sx"
  refine ⟨_, tru_strs epl, ?_⟩
  cases hln with
  | blank =>
    rw [if_pos (by rfl)]
    walk_at "sx"
    exact q1 _ _ (same_upd (by assumption)) (tv_row (k := 22) (.of upd_same) (tvs_s tvs_nil) (by simp))
  | @op r =>
    rw [if_neg (by simp)]
    have epl' : H1 pl = some (.lst (V.str "op" :: r.map V.str)) := epl
    walk_at "sx"
    exact ⟨pl, _, rfl, hps, q1⟩
  | @mode r =>
    rw [if_neg (by simp)]
    have epl' : H1 pl = some (.lst (V.str "mode" :: r.map V.str)) := epl
    walk_at "sx"
    exact ⟨pl, _, rfl, hps, q1⟩
  | @table r =>
    rw [if_neg (by simp)]
    have epl' : H1 pl = some (.lst (V.str "table" :: r.map V.str)) := epl
    walk_at "sx"
    exact ⟨pl, _, rfl, hps, q1⟩
  | @clause z r o n1 n2 n3 hcl =>
    rw [if_neg (by simp)]
    have epl' : H1 pl = some (.lst (V.str z :: r.map V.str)) := epl
    walk_at "sx"
    rw [if_neg (by simpa using n1)]
    walk_at "sx"
    rw [if_neg (by simpa using n2)]
    walk_at "sx"
    rw [if_neg (by simpa using n3)]
    walk_at "sx"
    refine ⟨b, es, ops, rfl, s1 _ _ hb, hro.same s1, oko, fun t H2 s2 tb => ?_⟩
    exact ⟨pl, t, _, _, _, rfl, ⟨s2 _ _ epl, hps.2.1, hps.2.2⟩, tb, tok, hcl, q1.same s2⟩
end
end Gs
namespace Gs
open PySem PySem.Spec PyProof.Rows L2 TL SrtK
section
variable {P : Program} {w : World} {K : PySem.W.Frag} {mg : Str → Option Value} {base : Heap} {f : Addr} {fd : FuncData}
theorem ok_law_alike (F : Fun K "_law_alike" "_law_alike" s_law_alike f fd) (T : Txt mg) (b : Binds K fd ["found", "due"] []) (kp : PySem.W.keepIn K (.ref f) = true) (m : mg "_law_alike" = some (.ref f)) : ∀ k, FnOk P w K mg base CX0 k f fd ["found", "due"] (spAlike K k)
  | 0 => ⟨fun vs H Q E h => by
      obtain ⟨x, y, u, _, h, _⟩ := h
      exact h.elim, fun A outer s H args us vs Q E _ _ _ _ h => by
      obtain ⟨x, y, u, _, h, _⟩ := h
      exact h.elim⟩
  | k + 1 => by
    have C_law_alike : HasAlike k P w K mg base := ⟨f, fd, ok_law_alike F T b kp m k, b, kp, m⟩
    refine F.ok sc_law_alike (fun vs H Q E h => ?_) (fun cdv A outer s H vs Q E hr h => ?_)
    · obtain ⟨x, y, u, rfl, _⟩ := h
      rfl
    obtain ⟨x, y, u, rfl, h1, h2, q⟩ := h
    have hk : k ≤ k := Nat.le_refl k
    refine ⟨_, (pss_cons (ps_if (pt_val (pe_callB (call_isiKK (K := K)) (by rfl) T.z_isinstance (by decide +kernel) (pa_cons (pv 1) (pa_cons (pe_bltn (v := .ty "tuple") (by rfl) T.z_tuple (by decide +kernel) rfl) pa_nil))))
      (pss_cons (ps_if (PW.pt (pw_or (pt_not (pt_val (pe_callB (call_isiKK (K := K)) (by rfl) T.z_isinstance (by decide +kernel) (pa_cons (pv 0) (pa_cons (pe_bltn (v := .ty "tuple") (by rfl) T.z_tuple (by decide +kernel) rfl) pa_nil))))) (pw_or1 (pt_cmpR op_ne (pe_callB (call_lenK (K := K)) (by rfl) T.z_len (by decide +kernel) (pa_cons (pv 0) pa_nil)) (pe_callB (call_lenK (K := K)) (by rfl) T.z_len (by decide +kernel) (pa_cons (pv 1) pa_nil)) (nomark _)))))
      (pss_one (ps_ret pe_bl))
      pss_nil)
    (pss_one (ps_ret (pe_callB (cr_allK (K := K) rfl) (by rfl) T.z_all (by decide +kernel) (pa_cons (pe_lc (own := [("k", 2)]) (g := gName 2) (tt := tYes) rfl sc_law_alike.nd (pi_range1 (by rfl) T.z_range (pa_cons (pe_callB (call_lenK (K := K)) (by rfl) T.z_len (by decide +kernel) (pa_cons (pv 1) pa_nil)) pa_nil)) (blkOk_by (own := [("k", 2)]) (N := ["found", "due", "k"]) (sc := defScope s_law_alike) (by decide +kernel)) (fun _ _ _ _ _ => pg_name (i := 2) sc_law_alike.nd rfl (Or.inl rfl)) (fun _ _ _ _ _ => pts_nil) (fun _ _ _ _ _ => (pe_callH C_law_alike hr (pa_cons (pe_ix (ix_tupK (K := K)) (pv 0) (pv 2) (fun _ _ => rfl)) (pa_cons (pe_ix (ix_tupK (K := K)) (pv 1) (pv 2) (fun _ _ => rfl)) pa_nil)) (hk := Nat.le_refl _)))) pa_nil)))))
      pss_nil)
    (pss_cons (ps_if (pt_val (pe_callB (call_isiKK (K := K)) (by rfl) T.z_isinstance (by decide +kernel) (pa_cons (pv 1) (pa_cons (pe_bltn (v := .ty "str") (by rfl) T.z_str (by decide +kernel) rfl) pa_nil))))
      (pss_one (ps_ret (pe_and (pe_callB (call_isiKK (K := K)) (by rfl) T.z_isinstance (by decide +kernel) (pa_cons (pv 0) (pa_cons (pe_bltn (v := .ty "str") (by rfl) T.z_str (by decide +kernel) rfl) pa_nil))) (pe_one (pe_cmpR op_eq (pv 0) (pv 1) (nomark _))))))
      pss_nil)
    (pss_one (ps_ret (pe_and (pe_callB (call_isiKK (K := K)) (by rfl) T.z_isinstance (by decide +kernel) (pa_cons (pv 0) (pa_cons (pe_bltn (v := .ty "int") (by rfl) T.z_int (by decide +kernel) rfl) pa_nil))) (pe_and (pe_not (pe_callB (call_isiKK (K := K)) (by rfl) T.z_isinstance (by decide +kernel) (pa_cons (pv 0) (pa_cons (pe_bltn (v := .ty "bool") (by rfl) T.z_bool (by decide +kernel) rfl) pa_nil)))) (pe_one (pe_cmpR op_eq (pv 0) (pv 1) (nomark _))))))))), ?_⟩
    walk_at "sx"
    match u, h1, h2 with
    | .i n, h1, h2 =>
      have h1 : x = .int n := h1
      have h2 : y = .int n := h2
      subst h1 h2
      refine x_isT (t := .type "int") (c := false) (.base (.int n)) (kit_ty (by decide +kernel)) ?_
      walk_at "sx"
      refine x_isT (t := .type "int") (c := false) (.base (.int n)) (kit_ty (by decide +kernel)) ?_
      walk_at "sx"
      refine x_isT (t := .type "int") (c := true) (.base (.int n)) (kit_ty (by decide +kernel)) ?_
      walk_at "sx"
      refine x_isT (t := .type "int") (c := false) (.base (.int n)) (kit_ty (by decide +kernel)) ?_
      walk_at "sx"
      rw [decide_eq_true rfl]
      exact q _ (same_refl _)
    | .s z, h1, h2 =>
      have h1 : x = .str z := h1
      have h2 : y = .str z := h2
      subst h1 h2
      refine x_isT (t := .type "str") (c := false) (.base (.str z)) (kit_ty (by decide +kernel)) ?_
      walk_at "sx"
      refine x_isT (t := .type "str") (c := true) (.base (.str z)) (kit_ty (by decide +kernel)) ?_
      walk_at "sx"
      refine x_isT (t := .type "str") (c := true) (.base (.str z)) (kit_ty (by decide +kernel)) ?_
      walk_at "sx"
      rw [decide_eq_true rfl]
      exact q _ (same_refl _)
    | .t ts, ⟨a, xs, ex, sx, zx, lx, fx⟩, ⟨b, ys, ey, sy, zy, ly, fy⟩ =>
      subst ex ey
      refine x_isT (t := .type "tuple") (c := true) (ty_tup sy) (kit_ty (by decide +kernel)) ?_
      walk_at "sx"
      refine x_isT (t := .type "tuple") (c := true) (ty_tup sx) (kit_ty (by decide +kernel)) ?_
      walk_at "sx"
      refine x_iteN (fun c => absurd (by rw [lx, ly]) c) (fun _ => ?_)
      walk_at "sx"
      refine x_lcR1 (n := ys.length) (fun D i H' => H' D = some (.lst ((List.replicate i true).map V.bl)) ∧ Same H H') (by omega) (by omega) ?_ ?_ ?_
      · intro D hD
        exact ⟨upd_same, same_upd hD⟩
      · rintro D hD i H' hi ⟨eD, sH⟩
        have hi2 : i < ys.length := by omega
        have hi1 : i < xs.length := by omega
        have hi3 : i < ts.length := by omega
        walk_at "sx"
        refine ⟨rfl, ?_⟩
        walk_at "sx"
        refine x_ixT (xs := xs) (v := xs[i]) (Same.sqT sH sx) (atI_nat (List.getElem?_eq_getElem hi1)) ?_
        walk_at "sx"
        refine x_ixT (xs := ys) (v := ys[i]) (Same.sqT sH sy) (atI_nat (List.getElem?_eq_getElem hi2)) ?_
        walk_at "sx"
        refine ⟨_, _, ts[i], rfl, (fx i _ _ (List.getElem?_eq_getElem hi1) (List.getElem?_eq_getElem hi3)).same sH, (fy i _ _ (List.getElem?_eq_getElem hi2) (List.getElem?_eq_getElem hi3)).same sH, fun G sG => ?_⟩
        refine ⟨_, sG _ _ eD, szl ?_, ?_, same_updf (sH.trans sG) hD⟩
        · rw [List.length_map, List.length_replicate]
          omega
        · rw [upd_same, List.replicate_succ', List.map_append]
          rfl
      · rintro D hD H' ⟨eD, sH⟩
        walk_at "sx"
        refine ⟨D, _, rfl, .of eD, ?_⟩
        rw [all_rep]
        exact q H' sH
end
end Gs
namespace Gs
open PySem PySem.Spec PyProof.Rows L2 TL SrtK
/-! ### the pieces of op, mode and table lines, changed -/
def NmW (z : Str) : Prop := (NameOk 0 (tl z) ∨ NameOk 2 (tl z)) ∧ z ∉ keptL
def Bits (zs : List Str) : Prop := ∀ z ∈ zs, OkBit (tl z)
theorem NmW.ok {z : Str} (h : NmW z) : OkBit (tl z) := nm_bit (h.1.elim (fun h => ⟨0, h⟩) fun h => ⟨2, h⟩)
def bitB (l : List Nat) : Bool := isPc l && l.all (fun x => decide (x < 128)) && decide (l.length ≤ 61) && (match l with
  | c :: t => !decide (c = 32) && t.all fun x => decide (x ∈ cls c)
  | [] => false)
theorem bit_of {l : List Nat} (h : bitB l = true) : OkBit l := by
  unfold bitB at h
  rw [Bool.and_eq_true, Bool.and_eq_true, Bool.and_eq_true] at h
  obtain ⟨⟨⟨h1, h2⟩, h3⟩, h4⟩ := h
  cases l with
  | nil => cases h4
  | cons c t =>
    rw [Bool.and_eq_true] at h4
    exact ⟨⟨c, t, rfl, by simpa using h4.1, fun x hx => of_decide_eq_true (List.all_eq_true.mp h4.2 x hx)⟩, h1, fun x hx => of_decide_eq_true (List.all_eq_true.mp h2 x hx), of_decide_eq_true h3⟩
theorem Bits.cons {z : Str} {zs : List Str} (h : OkBit (tl z)) (g : Bits zs) : Bits (z :: zs) := fun y hy => by
  rcases List.mem_cons.mp hy with rfl | hy
  · exact h
  · exact g y hy
theorem Bits.nil : Bits [] := fun y hy => by cases hy
theorem Bits.app {a b : List Str} (h : Bits a) (g : Bits b) : Bits (a ++ b) := fun y hy => (List.mem_append.mp hy).elim (h y) (g y)
section
variable {P : Program} {w : World} {K : PySem.W.Frag} {mg : Str → Option Value} {base : Heap} {f : Addr} {fd : FuncData}
theorem Bits.take {a : List Str} {n : Nat} (h : Bits a) : Bits (a.take n) := fun z hz => h z (List.mem_of_mem_take hz)
theorem Bits.drop {a : List Str} {n : Nat} (h : Bits a) : Bits (a.drop n) := fun z hz => h z (List.mem_of_mem_drop hz)
theorem Bits.set {a : List Str} {n : Nat} {y : Str} (h : Bits a) (hy : OkBit (tl y)) : Bits (a.set n y) := fun z hz => by
  rcases List.mem_or_eq_of_mem_set hz with hz | rfl
  · exact h z hz
  · exact hy
end
end Gs
namespace Gs
open PySem PySem.Spec PyProof.Rows L2 TL SrtK
/-! ### small goals, and the pieces of clauses -/
section
variable {P : Program} {w : World} {K : PySem.W.Frag} {mg : Str → Option Value} {base : Heap} {f : Addr} {fd : FuncData}
theorem pt_s {H : Hp} {k : Nat} (z : Str) : PtAt K H (k + 1) (.str z) (.s z) := rfl
end
end Gs
namespace Gs
open PySem PySem.Spec PyProof.Rows L2 TL SrtK
/-! ### clauses: those that are read, and those that are refused -/
theorem nm_tx16 {z : Str} (h : NmOk z) : TxOk z := by
  have := h.len
  unfold Len12 at this
  obtain ⟨way, c, t, e, _⟩ := h
  exact ⟨c, t, e, by omega⟩
def PcG (z : Str) : Prop := sgn z = true ∨ (∃ n : Int, n.natAbs < 10 ^ 60 ∧ z = figS n) ∨ NmOk z
def Pcs (zs : List Str) : Prop := ∀ z ∈ zs, PcG z
theorem Pcs.nil : Pcs [] := fun z h => by cases h
theorem Pcs.cons {z : Str} {zs : List Str} (h : PcG z) (g : Pcs zs) : Pcs (z :: zs) := fun y hy => by
  rcases List.mem_cons.mp hy with rfl | hy
  · exact h
  · exact g y hy
theorem Pcs.app {a b : List Str} (h : Pcs a) (g : Pcs b) : Pcs (a ++ b) := fun y hy => (List.mem_append.mp hy).elim (h y) (g y)
theorem PcG.bit {z : Str} (h : PcG z) : OkBit (tl z) := by
  rcases h with h | ⟨n, hn, rfl⟩ | h
  · rcases of_decide_eq_true h with rfl | rfl | rfl
    · exact ok_open
    · exact ok_shut
    · exact ok_comma
  · exact fig_bit n hn
  · exact nm_bit h
theorem Pcs.bits {zs : List Str} (h : Pcs zs) : Bits zs := fun z hz => (h z hz).bit
theorem PcG.good {ops : List Op} (k : OpsOk ops) {z : Str} (h : PcG z) : GoodPc z := by
  rcases h with h | ⟨n, hn, rfl⟩ | h
  · exact .inl h
  · exact .inr (.inl (num_fst (R := ownL ++ ops) ⟨figS_tl n, hn, fig_no k n 1⟩))
  · exact .inr (.inr h)
mutual
theorem tok_pcs {R : List Op} : ∀ (u : Pt) (top : Int), okT NmOk NmOk u → Pcs (tokT R top u)
  | .i n, top, h => by
    rw [tokT]
    exact .cons (.inr (.inl ⟨n, h, rfl⟩)) .nil
  | .s z, top, h => by
    rw [tokT]
    exact .cons (.inr (.inr h)) .nil
  | .t nm ps, top, h => by
    rw [okT] at h
    obtain ⟨hn, l0, l4, hl⟩ := h
    have hps := tokL_pcs (R := R) ps hl
    have par : ∀ (b : Bool) (l : List Str), Pcs l → Pcs (parS b l) := fun b l g => by
      cases b with
      | true => exact .cons (.inl sg_o) (g.app (.cons (.inl sg_c) .nil))
      | false => exact g
    cases e : rowOf R nm ps.length with
    | none =>
      rw [tokT_none e]
      refine .cons (.inr (.inr hn)) (.cons (.inl sg_o) ?_)
      have cm : ∀ zss : List (List Str), (∀ z ∈ zss, Pcs z) → Pcs (commas zss) := fun zss => by
        induction zss with
        | nil => exact fun _ => .cons (.inl sg_c) .nil
        | cons x r ih =>
          intro g
          cases r with
          | nil => exact (g x (List.mem_cons_self ..)).app (.cons (.inl sg_c) .nil)
          | cons y r => exact (g x (List.mem_cons_self ..)).app (.cons (.inl sg_m) (ih fun z hz => g z (List.mem_cons_of_mem _ hz)))
      refine cm _ fun z hz => ?_
      obtain ⟨p, hp, rfl⟩ := List.mem_map.mp hz
      exact hps p hp 9
    | some o =>
      obtain ⟨_, _, hm⟩ := rowOf_some e
      match ps, e, hm, hps with
      | [], _, hm, _ => exact absurd hm (by split <;> simp)
      | [x], e, _, hps =>
        rw [tokT_one e]
        exact par _ _ (.cons (.inr (.inr hn)) (hps x (by simp) _))
      | [x, y], e, _, hps =>
        rw [tokT_two e]
        exact par _ _ ((hps x (by simp) _).app (.cons (.inr (.inr hn)) (hps y (by simp) _)))
      | _ :: _ :: _ :: _, _, hm, _ => exact absurd hm (by split <;> simp)
theorem tokL_pcs {R : List Op} : ∀ (ps : List Pt), okL NmOk NmOk ps → ∀ p ∈ ps, ∀ top, Pcs (tokT R top p)
  | [], _, p, h, _ => by cases h
  | x :: r, g, p, h, top => by
    rw [okL] at g
    rcases List.mem_cons.mp h with e | h
    · rw [e]
      exact tok_pcs x top g.1
    · exact tokL_pcs r g.2 p h top
end
theorem kin_own : ∀ o ∈ ownL, o.n ≠ ("op" : Str) ∧ o.n ≠ ("mode" : Str) ∧ o.n ≠ ("table" : Str) ∧ o.n ≠ ("<-" : Str) := by decide +kernel
/-- no piece of a reading begins a row, none is an arrow -/
theorem Spt.nob {ops : List Op} (k : OpsOk ops) {d : Nat} {l : Int} {p : Pt} {ts : List Str} (h : Spt (ownL ++ ops) d l p ts) : ∀ z ∈ ts, z ≠ ("op" : Str) ∧ z ≠ ("mode" : Str) ∧ z ≠ ("table" : Str) ∧ z ≠ ("<-" : Str) := by
  intro z hz
  by_cases hk : z ∈ keptL
  · obtain ⟨_, m, o, ho⟩ := h.kin z hz hk
    obtain ⟨h1, h2, _⟩ := rowOf_some ho
    rcases List.mem_append.mp h1 with h1 | h1
    · have := kin_own o h1
      rw [h2] at this
      exact this
    · have := k.nk o h1
      rw [h2] at this
      exact absurd hk this
  · refine ⟨fun e => hk ?_, fun e => hk ?_, fun e => hk ?_, fun e => hk ?_⟩ <;> (rw [e]; decide +kernel)
theorem open_of {zs : List Str} {k : Int} (h : Opn zs k) (hk : k ≤ 12) (h0 : 0 ≤ k) : mostOpen zs ≤ 12 := by
  obtain ⟨m', e, hm⟩ := h 0 0
  unfold mostOpen
  rw [e]
  show m' ≤ 12
  omega
theorem go_okp {ops : List Op} {u : Pt} (h : GoOk ops u) : OkP u := okT_imp (fun z h => nm_tx16 h) (fun _ _ => trivial) h.nm
theorem bit_br {z : Str} (h : sgn z = false) : z ≠ ("(" : Str) ∧ z ≠ (")" : Str) := ⟨fun e => of_decide_eq_false h (.inl e), fun e => of_decide_eq_false h (.inr (.inl e))⟩
theorem goalsZ_arrow (gs : List (List Str)) : goalsZ gs = [] ∨ ∃ r, goalsZ gs = ("<-" : Str) :: r := by
  cases gs with
  | nil => exact .inl rfl
  | cons g r => exact .inr ⟨_, rfl⟩
theorem line_of {ops : List Op} {zs : List Str} {o : Out} (hne : zs ≠ []) (h : ∀ z r, zs = z :: r → z ≠ ("op" : Str) ∧ z ≠ ("mode" : Str) ∧ z ≠ ("table" : Str)) (hc : ClauseR (ownL ++ ops) 40 20 zs o) : LineR (ownL ++ ops) 40 20 zs o := by
  cases zs with
  | nil => exact absurd rfl hne
  | cons z r =>
    obtain ⟨h1, h2, h3⟩ := h z r rfl
    exact .clause h1 h2 h3 hc
/-- a goal or a head that is read -/
structure Rd (ops : List Op) (p : Pt) (z : List Str) : Prop where
  sp : ∃ lev, lev ≤ 9 ∧ Spt (ownL ++ ops) 40 lev p z
  gd : GdP 20 p
theorem Rd.rdo {ops : List Op} (k : OpsOk ops) {p : Pt} {z : List Str} (h : Rd ops p z) : RdO (ownL ++ ops) 40 z (some p) := by
  obtain ⟨lev, h1, h2⟩ := h.sp
  exact h2.rdo (tab_ok k) h1
theorem Rd.clo {ops : List Op} (k : OpsOk ops) {p : Pt} {z : List Str} (h : Rd ops p z) : Clo z := by
  obtain ⟨lev, h1, h2⟩ := h.sp
  exact h2.clo (tab_ok k).br
theorem Rd.nob {ops : List Op} (k : OpsOk ops) {p : Pt} {z : List Str} (h : Rd ops p z) : ∀ y ∈ z, y ≠ ("op" : Str) ∧ y ≠ ("mode" : Str) ∧ y ≠ ("table" : Str) ∧ y ≠ ("<-" : Str) := by
  obtain ⟨lev, h1, h2⟩ := h.sp
  exact h2.nob k
theorem Rd.ne {ops : List Op} {p : Pt} {z : List Str} (h : Rd ops p z) : z ≠ [] := fun e => by
  obtain ⟨lev, h1, h2⟩ := h.sp
  have := h2.pos
  rw [e] at this
  exact absurd this (by simp)
theorem Spl.rd {ops : List Op} {u : Pt} {held : Int} {z : List Str} (h : Spl (ownL ++ ops) 9 held u z) (g : GoOk ops u) (hs : szT u ≤ 800) (hd : dpT u ≤ 20) : Rd ops u z := ⟨h.sp 40 (by omega), go_okp g, hs, hd⟩
theorem tok_rd {ops : List Op} (k : OpsOk ops) {u : Pt} (g : GoOk ops u) (hs : szT u ≤ 800) (hd : dpT u ≤ 20) : Rd ops u (tokT (ownL ++ ops) 9 u) := ⟨spt_tok (tab_ok k).lv u 9 40 g.rd (by omega) (by decide) (by decide), go_okp g, hs, hd⟩
theorem clause_parts {ops : List Op} (k : OpsOk ops) {h : Pt} {hz : List Str} {gzs : List (List Str)} (hh : Rd ops h hz) (hg : ∀ z ∈ gzs, Clo z) : headP (hz ++ goalsZ gzs) = hz ∧ tailP (hz ++ goalsZ gzs) = goalsZ gzs ∧ partsF (goalsZ gzs) = gzs := by
  obtain ⟨e1, e2⟩ := headP_app (hd := hz) (tl := goalsZ gzs) (fun hm => (hh.nob k _ hm).2.2.2 rfl) (goalsZ_arrow gzs)
  exact ⟨e1, e2, partsF_goals hg⟩
theorem clause_first {ops : List Op} (k : OpsOk ops) {h : Pt} {hz : List Str} {t : List Str} (hh : Rd ops h hz) : hz ++ t ≠ [] ∧ ∀ z r, hz ++ t = z :: r → z ≠ ("op" : Str) ∧ z ≠ ("mode" : Str) ∧ z ≠ ("table" : Str) := by
  have hne := hh.ne
  cases hz with
  | nil => exact absurd rfl hne
  | cons y s =>
    refine ⟨by simp, fun z r e => ?_⟩
    obtain ⟨rfl, _⟩ := List.cons.inj e
    have := hh.nob k y (List.mem_cons_self ..)
    exact ⟨this.1, this.2.1, this.2.2.1⟩
end Gs
namespace Gs
open PySem PySem.Spec PyProof.Rows L2 TL SrtK
abbrev s_first_piece : Stmt := PySem.Challenge.pw_goalstead_k21_sizes_as_read.main.body.getD 39 (.Pass ⟨0, 0, 0, 0⟩)
theorem sc_first_piece : FnScope ["line", "at"] ["line"] (defScope s_first_piece) := ⟨rfl, rfl, rfl, by decide +kernel, rfl, by decide +kernel, by decide +kernel⟩
/-! ### the first piece of a line -/
def headZ : List Str → Str
  | [] => ""
  | z :: _ => z
def spFirstPiece : Sp := fun vs H Q _ => ∃ (line : Str) (zs : List Str), vs = [.str line] ∧ line.length ≤ 100000 ∧ Cut (tl line) (zs.map tl) ∧ Q (.str (headZ zs)) H
section
variable {P : Program} {w : World} {K : PySem.W.Frag} {mg : Str → Option Value} {base : Heap} {f C BS BZ : Addr} {fd : FuncData}
def HasFirstPiece (P : Program) (w : World) (K : PySem.W.Frag) (mg : Str → Option Value) (base : Heap) : Prop := Has P w K mg base 3 "first_piece" ["line"] spFirstPiece
theorem ok_first_piece (F : Fun K "first_piece" "first_piece" s_first_piece f fd) (T : Txt mg) (C_run : HasRun P w K mg base) (C_end_of_piece : HasEnd P w K mg base) : FnOk P w K mg base CX0 3 f fd ["line"] spFirstPiece := by
  refine F.ok sc_first_piece (fun vs H Q E h => ?_) (fun cdv A outer s H vs Q E hr h => ?_)
  · obtain ⟨line, zs, rfl, _⟩ := h
    rfl
  obtain ⟨line, zs, rfl, hl, hcut, q⟩ := h
  refine ⟨_, (pss_cons (ps_set (i := 1) sc_first_piece.nd rfl (Or.inl rfl) (pe_callH C_run hr (pa_cons (pv 0) (pa_cons pe_int (pa_cons pe_str pa_nil)))))
    (pss_one (ps_ret (pe_ifExp (pt_cmpR op_lt (pv 1) (pe_callB call_len_str (by rfl) T.z_len (by decide +kernel) (pa_cons (pv 0) pa_nil)) (nomark _)) (pe_slice sl_str (pv 0) (po_some (pv 1)) (po_some (pe_callH C_end_of_piece hr (pa_cons (pv 0) (pa_cons (pv 1) pa_nil))))) pe_str)))), ?_⟩
  walk_at "sx"
  have e32 : tl (" " : Str) = [32] := by decide +kernel
  have hk : runL [32] (tl line) 0 ≤ line.length := by
    have := runL_le [32] (tl line) 0 (Nat.zero_le _)
    rw [tl_len] at this
    omega
  have hc := (run_blanks (k := 0) hcut).1
  have hb := (run_blanks (k := 0) hcut).2
  refine ⟨line, _, 0, rfl, Nat.zero_le _, hl, ?_⟩
  rw [e32]
  rw [Nat.zero_add] at hc hb ⊢
  generalize runL [32] (tl line) 0 = k at *
  walk_at "sx"
  refine x_lenS (sz hl) ?_
  walk_at "sx"
  refine x_ite (fun c => ?_) (fun c => ?_)
  · have hkl : k < (tl line).length := by rw [tl_len]; omega
    obtain ⟨cd, hcd⟩ : ∃ cd, (tl line)[k]? = some cd := ⟨_, List.getElem?_eq_getElem hkl⟩
    have ed : (tl line).drop k = cd :: (tl line).drop (k + 1) := by
      obtain ⟨h1, h2⟩ := List.getElem?_eq_some_iff.mp hcd
      rw [List.drop_eq_getElem_cons h1, h2]
    rw [ed] at hc hb
    have hc32 : cd ≠ 32 := fun z => hb _ (by rw [z])
    obtain ⟨t, l, z, todo', el, et, eo, ht, hs, hcut'⟩ : ∃ t l z todo', (tl line).drop (k + 1) = t ++ l ∧ tl z = cd :: t ∧ zs = z :: todo' ∧ (∀ x ∈ t, x ∈ cls cd) ∧ Stop cd l ∧ Cut l (todo'.map tl) := by
      generalize hL : cd :: (tl line).drop (k + 1) = L0 at hc
      generalize hT : zs.map tl = T0 at hc
      cases hc with
      | nil => cases hL
      | blank h => exact absurd (List.cons.inj hL).1 hc32
      | @piece c' t l ts h1 h2 h3 h4 =>
        obtain ⟨e1, e2⟩ := List.cons.inj hL
        subst e1
        cases zs with
        | nil => cases hT
        | cons z todo' =>
          obtain ⟨e3, e4⟩ := List.cons.inj hT
          subst e4
          exact ⟨t, l, z, todo', e2, e3, rfl, h2, h3, h4⟩
    subst eo
    have er : runL (cls cd) (tl line) (k + 1) = t.length := by
      unfold runL
      rw [el, run_stop ht (stop_of hs)]
    have elen : (tl line).length = k + 1 + t.length + l.length := by
      have := congrArg List.length el
      rw [List.length_drop, List.length_append] at this
      omega
    rw [tl_len] at elen
    have ecut : cutS line (some (k : Int)) (some ((k + 1 + t.length : Nat) : Int)) = z := by
      refine ext_tl ?_
      rw [cut_mid (by omega) (by omega), et, ed, el, show k + 1 + t.length - k = t.length + 1 by omega, List.take_succ_cons, List.take_left]
    walk_at "sx"
    refine ⟨line, k, cd, rfl, hl, hcd, ?_⟩
    rw [er]
    walk_at "sx"
    refine x_slS (sz hl) ?_
    rw [ecut]
    exact q
  · have hkl : (tl line).drop k = [] := List.drop_eq_nil_of_le (by rw [tl_len]; omega)
    rw [hkl] at hc
    have ez : zs = [] := by
      cases zs with
      | nil => rfl
      | cons z r => cases hc
    subst ez
    walk_at "sx"
    exact q
end
end Gs
-- plain
namespace Gs
open PySem PySem.Spec PyProof.Rows L2 TL SrtK
abbrev s_row_at : Stmt := PySem.Challenge.pw_goalstead_k21_sizes_as_read.main.body.getD 78 (.Pass ⟨0, 0, 0, 0⟩)
theorem sc_row_at : FnScope ["at", "line", "operators", "most", "e"] ["at", "line", "operators", "most"] (defScope s_row_at) := ⟨rfl, rfl, rfl, by decide +kernel, rfl, by decide +kernel, by decide +kernel⟩
abbrev s_read_text : Stmt := PySem.Challenge.pw_goalstead_k21_sizes_as_read.main.body.getD 77 (.Pass ⟨0, 0, 0, 0⟩)
theorem sc_read_text : FnScope ["lines", "most", "operators", "rows", "at", "line"] ["lines", "most"] (defScope s_read_text) := ⟨rfl, rfl, rfl, by decide +kernel, rfl, by decide +kernel, by decide +kernel⟩
/-! ### texts whose lines may be refused -/
def BadL (BS : Addr) (n : Nat) (H : Hp) (E : XK) : Prop := ∀ dd H', Same H H' → H' dd = some (.xd [("line", .int (n : Int))]) → E (.ref BS) (some dd) H'
theorem BadL.same {BS : Addr} {n : Nat} {H G : Hp} {E : XK} (b : BadL BS n H E) (k : Same H G) : BadL BS n G E := fun dd H' k' h => b dd H' (k.trans k') h
theorem BadL.done {BS : Addr} {n : Nat} {H : Hp} {E : XK} (b : BadL BS n H E) {dd : Addr} (h : H dd = none) : E (.ref BS) (some dd) (upd H dd (.xd [("line", .int (n : Int))])) := b dd _ (same_upd h) upd_same
theorem tv_lst21 {K : PySem.W.Frag} {G : Hp} {D : Addr} {ys : List V} {o : HO} (hD : G D = some (.lst ys)) : ∀ {k : Nat} {x : V} {u : Tv}, TvAt K G k x u → TvAt K (upd G D o) k x u
  | 0, _, _, h => h.elim
  | _ + 1, _, .i _, h => h
  | _ + 1, _, .s _, h => h
  | k + 1, _, .t _, ⟨a, vs, e, s, h1, h2, h3⟩ => ⟨a, vs, e, sqT_lst hD s, h1, h2, fun i y u hy hu => tv_lst21 hD (h3 i y u hy hu)⟩
theorem tvs_same21 {K : PySem.W.Frag} {G G' : Hp} {k : Nat} {us : List V} {ts : List Tv} (s : Same G G') (h : TvsAt K G k us ts) : TvsAt K G' k us ts := ⟨h.1, fun i y u h1 h2 => (h.2 i y u h1 h2).same s⟩
theorem tvs_lst21 {K : PySem.W.Frag} {G : Hp} {D : Addr} {ys : List V} {o : HO} {k : Nat} {us : List V} {ts : List Tv} (e : G D = some (.lst ys)) (h : TvsAt K G k us ts) : TvsAt K (upd G D o) k us ts := ⟨h.1, fun i y u h1 h2 => tv_lst21 e (h.2 i y u h1 h2)⟩
theorem tvs_snoc21 {K : PySem.W.Frag} {G : Hp} {k : Nat} {v : V} {t : Tv} {us : List V} {ts : List Tv} (h : TvsAt K G k us ts) (g : TvAt K G k v t) : TvsAt K G k (us ++ [v]) (ts ++ [t]) := by
  have lh := h.1
  refine ⟨by rw [List.length_append, List.length_append, lh]; rfl, fun i y u h1 h2 => ?_⟩
  by_cases c : i < us.length
  · rw [List.getElem?_append_left c] at h1
    rw [List.getElem?_append_left (by omega)] at h2
    exact h.2 i y u h1 h2
  · rw [List.getElem?_append_right (by omega)] at h1
    rw [List.getElem?_append_right (by omega), ← lh] at h2
    have e : i - us.length = 0 := by
      have := (List.getElem?_eq_some_iff.mp h1).1
      simp at this
      omega
    rw [e] at h1 h2
    cases h1
    cases h2
    exact g
/-- what becomes of a line of a text -/
def OutL (K : PySem.W.Frag) (BS BZ : Addr) (n : Nat) (H : Hp) (Q : VK) (E : XK) : Out → Prop
  | .told t => ∀ x H', Same H H' → TvAt K H' 24 x t → Q x H'
  | .shape => BadL BS n H E
  | .size => BadL BZ n H E
/-- a line of good pieces, and what it is -/
structure LnX (ops : List Op) (most : Int) (line : Str) (zs : List Str) (o : Out) : Prop where
  ln : line.length ≤ 100000
  cut : Cut (tl line) (zs.map tl)
  bits : ∀ z ∈ zs, OkBit (tl z)
  many : (zs.length : Int) > most ∨ mostOpen zs > 12 → o = .size
  fits : (zs.length : Int) ≤ most → mostOpen zs ≤ 12 → LineR (ownL ++ ops) 40 20 zs o
def spRowAtX (K : PySem.W.Frag) (BS BZ : Addr) : Sp := fun vs H Q E => ∃ (n : Nat) (line : Str) (b : Addr) (es : List V) (ops : List Op) (zs : List Str) (o : Out) (most : Int), vs = [.int (n : Int), .str line, .ref b, .int most] ∧ n ≤ 1000 ∧ H b = some (.lst es) ∧ RowsAt K H es ops ∧ OpsOk ops ∧ most ≤ 1000 ∧ LnX ops most line zs o ∧ OutL K BS BZ n H Q E o
/-- a def with defaults that may raise, the context of its errors not told -/
structure HasKX (P : Program) (w : World) (K : PySem.W.Frag) (mg : Str → Option Value) (base : Heap) (k : Nat) (x : Str) (ps : List Str) (n : Nat) (ks : List Str) (dvs : List V) (sp : Sp) : Prop where
  ex : ∃ (f : Addr) (fd : FuncData), FnOk P w K mg base (L2.CX P w) k f fd ps sp ∧ (∃ ds, Vals dvs ds ∧ Binds K fd ps ds) ∧ KBn K fd ps n ks (fun us ws => us ++ ws) (fun vs zs => vs ++ zs) ∧ PySem.W.keepIn K (.ref f) = true ∧ mg x = some (.ref f)
section
variable {X : Cx} {x : Str} {p pos : Pos} {e : PySem.Expr} {es : List PySem.Expr} {t : TA}
theorem pe_callHDX {k j n : Nat} {ps ks : List Str} {dvs : List V} {sp : Sp} {W : WX} (C : HasKX X.prog X.w X.K X.mg X.base k x ps n ks dvs sp) (hr : Room j X.A) (tk : L2.Takes X W) (ha : PA X (e :: es) t) (hk : k ≤ j := by decide) (hg : Gl X x := by rfl) (hdb : (x == ("__debug__" : Str)) = false := by decide)
    (he : starEach (e :: es) X.env = (false, eval e X.env) :: starEach es X.env := by rfl) (hpl : (backTo pos (starEach es X.env)).any (·.1) = false := by rfl) :
    PE X (.Call (.Name x p) (e :: es) [] pos) (tCallSD sp dvs (WE W) t) := by
  obtain ⟨f, fd, F, ⟨ds, hv, b⟩, _, kp, m⟩ := C.ex
  exact pe_callSD F (hr.mono hk) hg m kp b hv (fun σ => L2.passAt tk σ) ha hdb he hpl
end
/-- the classes of errors apart -/
structure ErrAp (K : PySem.W.Frag) (BP BS BZ : Addr) : Prop where
  zp : PySem.W.exmOne K (.ref BZ) (.ref BP) = some false
  sp : PySem.W.exmOne K (.ref BS) (.ref BP) = some false
  sz : PySem.W.exmOne K (.ref BS) (.ref BZ) = some false
section
variable {P : Program} {w : World} {K : PySem.W.Frag} {mg : Str → Option Value} {base : Heap} {f C BP BS BZ : Addr} {fd : FuncData}
def HasRowAtX (BS BZ : Addr) (P : Program) (w : World) (K : PySem.W.Frag) (mg : Str → Option Value) (base : Heap) : Prop := HasE P w K mg base 170 "_row_at" ["at", "line", "operators", "most"] (spRowAtX K BS BZ)
theorem ok_row_atX (F : Fun K "_row_at" "_row_at" s_row_at f fd) (AP : ErrAp K BP BS BZ) (M_BadPiece : mg "BadPiece" = some (.ref BP)) (E_BadSize : HasErrH P w K mg base "BadSize" "line" BZ) (E_BadShape : HasErrH P w K mg base "BadShape" "line" BS) (C_read_line : HasReadLine BS BZ 40 20 P w K mg base) : FnOk P w K mg base (L2.CX P w) 170 f fd ["at", "line", "operators", "most"] (spRowAtX K BS BZ) := by
  refine F.okX sc_row_at (fun vs H Q E h => ?_) (fun cdv A outer s H vs Q E hr h => ?_)
  · obtain ⟨n, line, b, es, ops, zs, o, most, rfl, _⟩ := h
    rfl
  obtain ⟨n, line, b, es, ops, zs, o, most, rfl, hn, hb, hro, oko, hm, L, q⟩ := h
  refine ⟨_, (pss_one (ps_try_clsX rfl rfl (fun hd => L2H.passesAt_of rfl hd) (L2.takes_of rfl rfl rfl rfl)
      (fun W pn xe tk _ => (pss_one (ps_ret (pe_callHKE C_read_line hr tk (pa_cons (pv 1) (pa_cons (pv 2) pa_nil)) (pk_cons (pv 3) pk_nil) (hk := by omega)))))
      (ClsX.skip ⟨rfl, by decide, Or.inl M_BadPiece⟩
      (ClsX.suite ⟨rfl, by decide, Or.inl E_BadSize.err.mC⟩
      (fun a oe cls d pn _ _ tkS hot => (pss_one (ps_raiseHE (K := K) E_BadSize hot tkS (L2H.roomH_mark hr _) (pa_cons (pv 0) pa_nil))))
      (ClsX.suite ⟨rfl, by decide, Or.inl E_BadShape.err.mC⟩
      (fun a oe cls d pn _ _ tkS hot => (pss_one (ps_raiseHE (K := K) E_BadShape hot tkS (L2H.roomH_mark hr _) (pa_cons (pv 0) pa_nil))))
      ClsX.nil))))), ?_⟩
  walk_at "sx"
  refine x_callNS ?_
  walk_at "sx"
  have hn50 : n < 10 ^ 50 := Nat.lt_of_le_of_lt hn (by decide)
  have sz : o = .size → ∀ dd H', Same H H' → H' dd = some (.xd [("line", .int 0)]) → BadL BZ n H' E := fun e dd H' sH _ => by
    subst e
    exact BadL.same q sH
  refine ⟨rfl, rfl, line, most, b, es, ops, zs, o, rfl, hb, hro, oko, tab_ok oko, L.ln, L.cut, L.bits, hm, fun e => ?_, fun h1 h2 => ⟨L.fits h1 h2, ?_⟩⟩
  · have eo := L.many e
    intro dd H' sH hd
    have bq := sz eo dd H' sH hd
    refine ⟨AP.zp, true, E_BadSize.err.ex, fun _ a0 h0 => ?_, fun z => Bool.noConfusion z⟩
    walk_at "sx"
    exact x_mkE hn50 fun d hd0 => bq.done hd0
  · cases o with
    | told t =>
      intro x H' sH px
      walk_at "sx"
      exact q x H' sH px
    | size =>
      intro dd H' sH hd
      have bq := sz rfl dd H' sH hd
      refine ⟨AP.zp, true, E_BadSize.err.ex, fun _ a0 h0 => ?_, fun z => Bool.noConfusion z⟩
      walk_at "sx"
      exact x_mkE hn50 fun d hd0 => bq.done hd0
    | shape =>
      intro dd H' sH hd
      have bq : BadL BS n H' E := BadL.same q sH
      refine ⟨AP.sp, false, AP.sz, (fun z => Bool.noConfusion z), fun _ => ⟨true, E_BadShape.err.ex, fun _ a0 h0 => ?_, fun z => Bool.noConfusion z⟩⟩
      walk_at "sx"
      exact x_mkE hn50 fun d hd0 => bq.done hd0
def spTextX (K : PySem.W.Frag) (BS BZ : Addr) : Sp := fun vs H Q E => ∃ (a : Addr) (ls : List Str) (zss : List (List Str)) (os : List Out) (most : Int), vs = [.ref a, .int most] ∧ SqL K H a (ls.map V.str) ∧ ls.length ≤ 1000 ∧ zss.length = ls.length ∧ os.length = ls.length ∧ most ≤ 1000 ∧
  (∀ (i : Nat) (l : Str) (z : List Str) (o : Out), ls[i]? = some l → zss[i]? = some z → os[i]? = some o → LnX [] most l z o ∧ headZ z ≠ ("op" : Str)) ∧
  (∀ i, (∀ j, j < i → ∃ t, os[j]? = some (.told t)) → (os[i]? = some .shape → BadL BS i H E) ∧ (os[i]? = some .size → BadL BZ i H E)) ∧
  ∀ ts, os = ts.map Out.told → ∀ (D oa ra : Addr) (rs : List V) (H' : Hp), Same H H' → SqT K H' D [.ref oa, .ref ra] → H' oa = some (.lst []) → H' ra = some (.lst rs) → TvsAt K H' 24 rs ts → Q (.ref D) H'
theorem rep_set {us : List V} {n : Nat} {x y : V} : (us ++ List.replicate (n + 1) y).set us.length x = us ++ [x] ++ List.replicate n y := by
  rw [List.set_append_right _ _ (Nat.le_refl _), Nat.sub_self, List.replicate_succ, List.set_cons_zero, List.append_assoc]
  rfl
theorem ok_read_textX {kws : List (Str × V)} (F : FunD K "read_text" "read_text" (defArgs s_read_text) (defBody s_read_text) (defScope s_read_text) [] kws f fd) (T : Txt mg) (C_first_piece : HasFirstPiece P w K mg base) (C_row_at : HasRowAtX BS BZ P w K mg base) : FnOk P w K mg base (L2.CX P w) 171 f fd ["lines", "most"] (spTextX K BS BZ) := by
  refine F.ok sc_read_text (fun vs H Q E h => ?_) (fun cdv A outer s H vs Q E hr h => ?_)
  · obtain ⟨a, ls, zss, os, most, rfl, _⟩ := h
    rfl
  obtain ⟨a, ls, zss, os, most, rfl, hS, h1000, hlz, hlo, hm, hL, bad, q⟩ := h
  refine ⟨_, (pss_cons (ps_set (i := 2) sc_read_text.nd rfl (Or.inl rfl) (pe_lst pa_nil))
    (pss_cons (ps_set (i := 3) sc_read_text.nd rfl (Or.inl rfl) (pe_op op_rep (pe_lst (pa_cons pe_non pa_nil)) (pe_callB (call_lenK (K := K)) (by rfl) T.z_len (by decide +kernel) (pa_cons (pv 0) pa_nil))))
    (pss_cons (ps_for (passes_of rfl) rfl (pi_enum (by rfl) T.z_enumerate (pa_cons (pv 0) pa_nil)) (pg_tup (by rfl) (pgs_cons (pg_name (i := 4) sc_read_text.nd rfl (.inl rfl)) (pgs_cons (pg_name (i := 5) sc_read_text.nd rfl (.inl rfl)) pgs_nil)))
      (pss_one (ps_if (pt_cmpR op_eq (pe_callH C_first_piece hr (pa_cons (pv 5) pa_nil) (hk := by omega)) pe_str (nomark _))
      (pss_cons ps_never (pss_cons ps_never (pss_one ps_never)))
      pss_nil)))
    (pss_cons (ps_for (passes_of rfl) rfl (pi_enum (by rfl) T.z_enumerate (pa_cons (pv 0) pa_nil)) (pg_tup (by rfl) (pgs_cons (pg_name (i := 4) sc_read_text.nd rfl (.inl rfl)) (pgs_cons (pg_name (i := 5) sc_read_text.nd rfl (.inl rfl)) pgs_nil)))
      (pss_one (ps_if (pt_cmpR op_isN (pe_ix (ix_listK (K := K)) (pv 3) (pv 4) (fun _ _ => rfl)) pe_non (nomark _))
      (pss_one (ps_asg (pe_callE C_row_at hr (takes_of rfl rfl rfl rfl) (pa_cons (pv 4) (pa_cons (pv 5) (pa_cons (pv 2) (pa_cons (pv 1) pa_nil)))) (hk := by omega)) (pg_sub (pv 3) (pv 4) set_list)))
      pss_nil)))
    (pss_one (ps_ret (pe_tup (pa_cons (pv 2) (pa_cons (pv 3) pa_nil))))))))), ?_⟩
  walk_at "sx"
  rename_i oa noa b1 nb1
  have ln : (ls.map V.str).length = ls.length := by rw [List.length_map]
  refine ⟨_, _, _, rfl, rfl, upd_same, by rw [ln]; omega, by rw [ln]; omega, sz (by rw [ln]; show 1 * _ ≤ _; omega), fun ra nra => ?_⟩
  have eR : (List.replicate (((ls.map V.str).length : Nat) : Int).toNat [V.non]).flatten = List.replicate ls.length V.non := by
    rw [ln]
    simp
  rw [eR]
  clear eR
  have s3 : Same H (upd (upd (upd H oa (.lst [])) b1 (.lst [.non])) ra (.lst (List.replicate ls.length V.non))) := ((same_upd noa).trans (same_upd nb1)).trans (same_upd nra)
  have eo : (upd (upd (upd H oa (.lst [])) b1 (.lst [.non])) ra (.lst (List.replicate ls.length V.non))) oa = some (.lst []) := same_upd nra _ _ (same_upd nb1 _ _ upd_same)
  have er : (upd (upd (upd H oa (.lst [])) b1 (.lst [.non])) ra (.lst (List.replicate ls.length V.non))) ra = some (.lst (List.replicate ls.length V.non)) := upd_same
  have hor : oa ≠ ra := ne_of_none (same_upd nb1 _ _ upd_same) nra
  have nra0 : H ra = none := by
    cases e : H ra with
    | none => rfl
    | some o =>
      rw [same_upd nb1 _ _ (same_upd noa _ _ e)] at nra
      cases nra
  generalize upd (upd (upd H oa (.lst [])) b1 (.lst [.non])) ra (.lst (List.replicate ls.length V.non)) = G0 at *
  walk_at "sx"
  refine x_forE (K := K) (a := a) (xs := ls.map V.str) (fun i σ' G => ∃ (x y : Option V), σ' = [some (.ref a), some (.int most), some (.ref oa), some (.ref ra), x, y] ∧ Same H G ∧ G oa = some (.lst []) ∧ G ra = some (.lst (List.replicate ls.length V.non))) (s3.seq hS) ⟨none, none, rfl, s3, eo, er⟩ ?_ ?_ ?_
  · rintro i σ' G _ ⟨x, y, rfl, sG, _⟩
    exact sG.seq hS
  · rintro i v σ' G T hi ⟨x, y, rfl, sG, eo, er⟩ hT
    rw [List.getElem?_map] at hi
    obtain ⟨line, hli, rfl⟩ := Option.map_eq_some_iff.mp hi
    have hil : i < ls.length := (List.getElem?_eq_some_iff.mp hli).1
    obtain ⟨zs, hz⟩ : ∃ zs, zss[i]? = some zs := ⟨_, List.getElem?_eq_getElem (by omega)⟩
    obtain ⟨o, ho⟩ : ∃ o, os[i]? = some o := ⟨_, List.getElem?_eq_getElem (by omega)⟩
    obtain ⟨L, hne⟩ := hL i line zs o hli hz ho
    have sT := same_upd (o := .tup [.int (i : Int), .str line]) hT
    have eoT := sT _ _ eo
    have erT := sT _ _ er
    have sGT := sG.trans sT
    walk_at "sx"
    generalize upd G T (.tup [.int (i : Int), .str line]) = G1 at *
    refine ⟨line, zs, rfl, L.ln, L.cut, ?_⟩
    walk_at "sx"
    refine x_ite (fun c => absurd (V.str.inj c) hne) (fun c => ?_)
    walk_at "sx"
    exact ⟨_, _, rfl, sGT, eoT, erT⟩
  rintro σ' G ⟨x, y, rfl, sG, eo, er⟩
  walk_at "sx"
  refine x_forE (K := K) (a := a) (xs := ls.map V.str) (fun i σ' G => ∃ (us : List V) (ts : List Tv) (x y : Option V), σ' = [some (.ref a), some (.int most), some (.ref oa), some (.ref ra), x, y] ∧ Same H G ∧ G oa = some (.lst []) ∧ G ra = some (.lst (us ++ List.replicate (ls.length - i) V.non)) ∧ us.length = i ∧ os.take i = ts.map Out.told ∧ TvsAt K G 24 us ts) (sG.seq hS) ⟨[], [], x, y, rfl, sG, eo, er, rfl, rfl, tvs_nil⟩ ?_ ?_ ?_
  · rintro i σ' G _ ⟨us, ts, x, y, rfl, sG, _⟩
    exact sG.seq hS
  · clear er eo sG x y
    clear G
    rintro i v σ' G T hi ⟨us, ts, x, y, rfl, sG, eo, er, lus, hts, hu⟩ hT
    rw [List.getElem?_map] at hi
    obtain ⟨line, hli, rfl⟩ := Option.map_eq_some_iff.mp hi
    have hil : i < ls.length := (List.getElem?_eq_some_iff.mp hli).1
    obtain ⟨zs, hz⟩ : ∃ zs, zss[i]? = some zs := ⟨_, List.getElem?_eq_getElem (by omega)⟩
    obtain ⟨o, ho⟩ : ∃ o, os[i]? = some o := ⟨_, List.getElem?_eq_getElem (by omega)⟩
    obtain ⟨L, hne⟩ := hL i line zs o hli hz ho
    have sT := same_upd (o := .tup [.int (i : Int), .str line]) hT
    have eoT := sT _ _ eo
    have erT := sT _ _ er
    have huT := tvs_same21 sT hu
    have sGT := sG.trans sT
    walk_at "sx"
    generalize upd G T (.tup [.int (i : Int), .str line]) = G1 at *
    have hk : ls.length - i = (ls.length - (i + 1)) + 1 := by omega
    rw [hk] at erT
    have atn : (us ++ List.replicate (ls.length - (i + 1) + 1) V.non)[i]? = some V.non := by
      rw [List.getElem?_append_right (by omega), lus, Nat.sub_self]
      rfl
    refine x_ixL (v := .non) (.of erT) (atI_nat atn) ?_
    refine ⟨rfl, _, rfl, ?_⟩
    rw [if_pos (by simp)]
    walk_at "sx"
    have prev : ∀ j, j < i → ∃ t, os[j]? = some (.told t) := fun j hj => by
      have h1 : (os.take i)[j]? = os[j]? := List.getElem?_take_of_lt hj
      rw [hts, List.getElem?_map] at h1
      have hlt : ts.length = i := by
        have := congrArg List.length hts
        rw [List.length_map, List.length_take] at this
        omega
      obtain ⟨t, ht⟩ : ∃ t, ts[j]? = some t := ⟨_, List.getElem?_eq_getElem (by omega)⟩
      rw [ht] at h1
      exact ⟨t, h1.symm⟩
    refine ⟨i, line, oa, [], [], zs, o, most, rfl, by omega, eoT, .nil, .nil, hm, L, ?_⟩
    cases o with
    | shape => exact ((bad i prev).1 ho).same sGT
    | size => exact ((bad i prev).2 ho).same sGT
    | told t =>
      intro xv G3 s3' px
      walk_at "sx"
      have eo3 := s3' _ _ eoT
      have er3 := s3' _ _ erT
      have lsz : (us ++ List.replicate (ls.length - (i + 1) + 1) V.non).length = ls.length := by rw [List.length_append, List.length_replicate, lus]; omega
      have es : (us ++ List.replicate (ls.length - (i + 1) + 1) V.non).set i xv = us ++ [xv] ++ List.replicate (ls.length - (i + 1)) V.non := by
        have := rep_set (us := us) (n := ls.length - (i + 1)) (x := xv) (y := V.non)
        rw [lus] at this
        exact this
      refine x_setL er3 (ixN_of (by rw [lsz]; exact hil)) ?_
      refine ⟨us ++ [xv], ts ++ [t], _, _, rfl, same_updf (sGT.trans s3') nra0, by rw [upd_ne hor]; exact eo3, by rw [upd_same, es], by rw [List.length_append, lus]; rfl, ?_, ?_⟩
      · rw [take_more ho, hts, List.map_append]
        rfl
      · exact tvs_lst21 er3 (tvs_snoc21 (tvs_same21 s3' huT) px)
  · clear er eo sG x y
    clear G
    rintro σ' G ⟨us, ts, x, y, rfl, sG, eo, er, lus, hts, hu⟩
    rw [ln] at er hts lus
    rw [Nat.sub_self, List.replicate_zero, List.append_nil] at er
    rw [← hlo, List.take_length] at hts
    walk_at "sx"
    rename_i D nD
    have sD := same_upd (o := .tup [.ref oa, .ref ra]) nD
    exact q ts hts D oa ra us _ (sG.trans sD) (.of upd_same) (sD _ _ eo) (sD _ _ er) (tvs_same21 sD hu)
end
end Gs
-- plain
namespace Gs
open PySem PySem.Spec PyProof.Rows L2 TL SrtK
abbrev s_law_told : Stmt := PySem.Challenge.pw_goalstead_k21_sizes_as_read.main.body.getD 102 (.Pass ⟨0, 0, 0, 0⟩)
theorem sc_law_told : FnScope ["door", "line", "e"] ["door", "line"] (defScope s_law_told) := ⟨rfl, rfl, rfl, by decide +kernel, rfl, by decide +kernel, by decide +kernel⟩
/-! ### a line told at its door -/
structure DoorR (door : Int) (zs : List Str) (o : Out) : Prop where
  term : door = 0 → ∃ p, RdO (ownL ++ []) 40 zs (some p) ∧ szT p ≤ 800 ∧ ((hasK p = true ∧ o = .shape) ∨ (hasK p = false ∧ (60 < szT p ∨ 12 < dpT p) ∧ o = .size) ∨ (hasK p = false ∧ szT p ≤ 60 ∧ dpT p ≤ 12 ∧ o = .told (tvP p)))
  goal : door = 1 ∨ door = 2 → ∃ p, RdO (ownL ++ []) 40 zs (some p) ∧ OkP p ∧ szT p ≤ 800 ∧ dpT p ≤ 20 ∧ goalP p = true ∧ (((60 < szT p ∨ 12 < dpT p) ∧ o = .size) ∨ (szT p ≤ 60 ∧ dpT p ≤ 12 ∧ o = .told (tvP p)))
  line : 3 ≤ door → LineR (ownL ++ []) 40 20 zs o ∧ headZ zs ≠ ("op" : Str)
def spTold21 (K : PySem.W.Frag) : Sp := fun vs H Q _ => ∃ (door : Int) (line : Str) (zs : List Str) (o : Out), vs = [.int door, .str line] ∧ 0 ≤ door ∧ line.length ≤ 100000 ∧ Cut (tl line) (zs.map tl) ∧ (∀ z ∈ zs, OkBit (tl z)) ∧ zs.length ≤ 200 ∧ mostOpen zs ≤ 12 ∧ DoorR door zs o ∧
  (o = .shape → ∀ D H', Same H H' → H' D = some (.lst [.str ("shape" : Str), .int 0]) → Q (.ref D) H') ∧ (o = .size → ∀ D H', Same H H' → H' D = some (.lst [.str ("size" : Str), .int 0]) → Q (.ref D) H') ∧ ∀ t, o = .told t → ∀ x D H', Same H H' → TvAt K H' 24 x t → H' D = some (.lst [.str ("told" : Str), x]) → Q (.ref D) H'
section
variable {P : Program} {w : World} {K : PySem.W.Frag} {mg : Str → Option Value} {base : Heap} {f BP BS BZ : Addr} {fd : FuncData}
def HasTold21 (P : Program) (w : World) (K : PySem.W.Frag) (mg : Str → Option Value) (base : Heap) : Prop := Has P w K mg base 172 "_law_told" ["door", "line"] (spTold21 K)
def HasTextX (BS BZ : Addr) (P : Program) (w : World) (K : PySem.W.Frag) (mg : Str → Option Value) (base : Heap) : Prop := HasKX P w K mg base 171 "read_text" ["lines", "most"] 1 ["most"] [.int 200] (spTextX K BS BZ)
theorem ok_law_told21 (F : Fun K "_law_told" "_law_told" s_law_told f fd) (AP : ErrAp K BP BS BZ) (E_BadSize : HasErr P w K mg base "BadSize" "line" BZ) (E_BadShape : HasErr P w K mg base "BadShape" "line" BS) (C_read_term : HasReadTE BS BZ 40 P w K mg base) (C_read_goal : HasReadGE BS BZ 40 20 P w K mg base) (C_read_line : HasReadLine BS BZ 40 20 P w K mg base) (C_read_text : HasTextX BS BZ P w K mg base) : FnOk P w K mg base CX0 172 f fd ["door", "line"] (spTold21 K) := by
  refine F.ok sc_law_told (fun vs H Q E h => ?_) (fun cdv A outer s H vs Q E hr h => ?_)
  · obtain ⟨door, line, zs, o, rfl, _⟩ := h
    rfl
  obtain ⟨door, line, zs, o, rfl, d0, hl, hcut, hbits, hlen, hop, R, qs, qz, qt⟩ := h
  refine ⟨_, (pss_one (ps_try_clsA rfl rfl sc_law_told.nd takes0
      (fun W pn xe tk _ => (pss_cons (ps_if (pt_cmpR op_eq (pv 0) pe_int (nomark _))
      (pss_one (ps_ret (pe_lst (pa_cons pe_str (pa_cons (pe_callHDE C_read_term hr (takesN tk) (pa_cons (pv 1) (pa_cons (pe_lst pa_nil) pa_nil)) (hk := by omega)) pa_nil)))))
      pss_nil)
    (pss_cons (ps_if (pt_cmpR op_lt (pv 0) pe_int (nomark _))
      (pss_one (ps_ret (pe_lst (pa_cons pe_str (pa_cons (pe_callHDE C_read_goal hr (takesN tk) (pa_cons (pv 1) (pa_cons (pe_lst pa_nil) pa_nil)) (hk := by omega)) pa_nil)))))
      pss_nil)
    (pss_cons (ps_if (pt_cmpR op_lt (pv 0) pe_int (nomark _))
      (pss_one (ps_ret (pe_lst (pa_cons pe_str (pa_cons (pe_callHDE C_read_line hr (takesN tk) (pa_cons (pv 1) (pa_cons (pe_lst pa_nil) pa_nil)) (hk := by omega)) pa_nil)))))
      pss_nil)
    (pss_one (ps_ret (pe_lst (pa_cons pe_str (pa_cons (pe_ix (ix_listK (K := K)) (pe_ix (ix_tupK (K := K)) (pe_callHDX C_read_text hr tk (pa_cons (pe_lst (pa_cons (pv 1) (pa_cons (pv 1) pa_nil))) pa_nil) (hk := by omega)) pe_int (fun _ _ => rfl)) pe_int (fun _ _ => rfl)) pa_nil)))))))))
      (ClsA.cons (i := 2) ⟨rfl, by decide, Or.inl E_BadSize.mC⟩ rfl rfl
      (fun a oe cls d pn hz hf => (pss_one (ps_ret (pe_lst (pa_cons pe_str (pa_cons (pe_xf E_BadSize.xf E_BadSize.noF hz hf (pv 2)) pa_nil))))))
      (ClsA.cons (i := 2) ⟨rfl, by decide, Or.inl E_BadShape.mC⟩ rfl rfl
      (fun a oe cls d pn hz hf => (pss_one (ps_ret (pe_lst (pa_cons pe_str (pa_cons (pe_xf E_BadShape.xf E_BadShape.noF hz hf (pv 2)) pa_nil))))))
      ClsA.nil)))), ?_⟩
  walk_at "sx"
  refine x_ite (fun c => ?_) (fun c => ?_)
  · have hd0 : door = 0 := V.int.inj c
    obtain ⟨p, hrd, hsz, alt⟩ := R.term hd0
    walk_at "sx"
    refine x_callSD ?_
    walk_at "sx"
    rename_i b nb
    have sb := same_upd (o := .lst []) nb
    refine ⟨line, 200, b, [], [], zs, some p, rfl, upd_same, .nil, .nil, tab_ok .nil, hl, hcut, fun z hz => (hbits z hz).pc, by omega, by decide, hop, hrd, (fun e => by cases e), fun p' e => ?_⟩
    cases e
    refine ⟨by omega, fun hk => ?_, fun hk hb => ?_, fun hk hb x H' sH px => ?_⟩
    · have ho : o = .shape := by
        rcases alt with ⟨_, h⟩ | ⟨h, _⟩ | ⟨h, _⟩
        · exact h
        · rw [hk] at h; cases h
        · rw [hk] at h; cases h
      intro dd H' sH hd
      refine ⟨false, AP.sz, (fun z => Bool.noConfusion z), fun _ => ⟨true, E_BadShape.ex, fun _ a0 h0 => ?_, fun z => Bool.noConfusion z⟩⟩
      walk_at "sx"
      unfold tXf
      walk_at "sx"
      refine ⟨rfl, rfl, dd, _, _, rfl, hd, rfl, ?_⟩
      walk_at "sx"
      rename_i o1 no1
      exact qs ho o1 _ ((sb.trans sH).trans (same_upd no1)) upd_same
    · have ho : o = .size := by
        rcases alt with ⟨h, _⟩ | ⟨_, _, h⟩ | ⟨_, h1, h2, _⟩
        · rw [hk] at h; cases h
        · exact h
        · omega
      intro dd H' sH hd
      refine ⟨true, E_BadSize.ex, fun _ a0 h0 => ?_, fun z => Bool.noConfusion z⟩
      walk_at "sx"
      unfold tXf
      walk_at "sx"
      refine ⟨rfl, rfl, dd, _, _, rfl, hd, rfl, ?_⟩
      walk_at "sx"
      rename_i o1 no1
      exact qz ho o1 _ ((sb.trans sH).trans (same_upd no1)) upd_same
    · have ho : o = .told (tvP p) := by
        rcases alt with ⟨h, _⟩ | ⟨_, h, _⟩ | ⟨_, _, _, h⟩
        · rw [hk] at h; cases h
        · omega
        · exact h
      walk_at "sx"
      rename_i o1 no1
      exact qt _ ho x o1 _ ((sb.trans sH).trans (same_upd no1)) (((px.tv (by omega)).upN (by omega)).same (same_upd no1)) upd_same
  walk_at "sx"
  have cd0 : ¬ door = 0 := fun e => c (by rw [e])
  refine x_ite (fun c3 => ?_) (fun c3 => ?_)
  · have c3' : door < 3 := c3
    obtain ⟨p, hrd, hokp, hsz, hdp, hg, alt⟩ := R.goal (by omega)
    walk_at "sx"
    refine x_callSD ?_
    walk_at "sx"
    rename_i b nb
    have sb := same_upd (o := .lst []) nb
    refine ⟨line, 200, b, [], [], zs, some p, rfl, upd_same, .nil, .nil, tab_ok .nil, hl, hcut, fun z hz => (hbits z hz).pc, by omega, by decide, hop, hrd, (fun e => by cases e), fun p' e => ?_⟩
    cases e
    refine ⟨hokp, by omega, hdp, (fun h => by rw [hg] at h; cases h), fun _ hb => ?_, fun _ hb x H' sH px => ?_⟩
    · have ho : o = .size := by
        rcases alt with ⟨_, h⟩ | ⟨h1, h2, _⟩
        · exact h
        · omega
      intro dd H' sH hd
      refine ⟨true, E_BadSize.ex, fun _ a0 h0 => ?_, fun z => Bool.noConfusion z⟩
      walk_at "sx"
      unfold tXf
      walk_at "sx"
      refine ⟨rfl, rfl, dd, _, _, rfl, hd, rfl, ?_⟩
      walk_at "sx"
      rename_i o1 no1
      exact qz ho o1 _ ((sb.trans sH).trans (same_upd no1)) upd_same
    · have ho : o = .told (tvP p) := by
        rcases alt with ⟨h, _⟩ | ⟨_, _, h⟩
        · omega
        · exact h
      walk_at "sx"
      rename_i o1 no1
      exact qt _ ho x o1 _ ((sb.trans sH).trans (same_upd no1)) (((px.tv (by omega)).upN (by omega)).same (same_upd no1)) upd_same
  have c3' : ¬ door < 3 := c3
  obtain ⟨hLn, hne⟩ := R.line (by omega)
  walk_at "sx"
  refine x_ite (fun c6 => ?_) (fun c6 => ?_)
  · walk_at "sx"
    refine x_callSD ?_
    walk_at "sx"
    rename_i b nb
    have sb := same_upd (o := .lst []) nb
    refine ⟨line, 200, b, [], [], zs, o, rfl, upd_same, .nil, .nil, tab_ok .nil, hl, hcut, hbits, by decide, fun e => by omega, fun _ _ => ⟨hLn, ?_⟩⟩
    cases o with
    | shape =>
      intro dd H' sH hd
      refine ⟨false, AP.sz, (fun z => Bool.noConfusion z), fun _ => ⟨true, E_BadShape.ex, fun _ a0 h0 => ?_, fun z => Bool.noConfusion z⟩⟩
      walk_at "sx"
      unfold tXf
      walk_at "sx"
      refine ⟨rfl, rfl, dd, _, _, rfl, hd, rfl, ?_⟩
      walk_at "sx"
      rename_i o1 no1
      exact qs rfl o1 _ ((sb.trans sH).trans (same_upd no1)) upd_same
    | size =>
      intro dd H' sH hd
      refine ⟨true, E_BadSize.ex, fun _ a0 h0 => ?_, fun z => Bool.noConfusion z⟩
      walk_at "sx"
      unfold tXf
      walk_at "sx"
      refine ⟨rfl, rfl, dd, _, _, rfl, hd, rfl, ?_⟩
      walk_at "sx"
      rename_i o1 no1
      exact qz rfl o1 _ ((sb.trans sH).trans (same_upd no1)) upd_same
    | told t =>
      intro x H' sH px
      walk_at "sx"
      rename_i o1 no1
      exact qt _ rfl x o1 _ ((sb.trans sH).trans (same_upd no1)) (px.same (same_upd no1)) upd_same
  walk_at "sx"
  refine x_callSD ?_
  walk_at "sx"
  rename_i b nb
  have sb := same_upd (o := .lst [.str line, .str line]) nb
  have L : LnX [] 200 line zs o := ⟨hl, hcut, hbits, fun e => by omega, fun _ _ => hLn⟩
  refine ⟨b, [line, line], [zs, zs], [o, o], 200, rfl, .of upd_same, by simp, rfl, rfl, by decide, fun i l z o' h1 h2 h3 => ?_, fun i prev => ?_, fun ts hts D oa ra rs H' sH st h1 h2 h3 => ?_⟩
  · have e1 : l = line := by
      match i, h1 with
      | 0, h1 => cases h1; rfl
      | 1, h1 => cases h1; rfl
    have e2 : z = zs := by
      match i, h2 with
      | 0, h2 => cases h2; rfl
      | 1, h2 => cases h2; rfl
    have e3 : o' = o := by
      match i, h3 with
      | 0, h3 => cases h3; rfl
      | 1, h3 => cases h3; rfl
    subst e1 e2 e3
    exact ⟨L, hne⟩
  · have first : ∀ {o' : Out}, [o, o][i]? = some o' → (∀ t, o' ≠ .told t) → o = o' ∧ i = 0 := fun {o'} h nt => by
      match i, h, prev with
      | 0, h, _ => cases h; exact ⟨rfl, rfl⟩
      | 1, h, prev =>
        cases h
        obtain ⟨t, ht⟩ := prev 0 (by omega)
        cases ht
        exact absurd rfl (nt t)
    refine ⟨fun h => ?_, fun h => ?_⟩
    · obtain ⟨ho, rfl⟩ := first h (fun t e => by cases e)
      intro dd H' sH hd
      refine ⟨false, AP.sz, (fun z => Bool.noConfusion z), fun _ => ⟨true, E_BadShape.ex, fun _ a0 h0 => ?_, fun z => Bool.noConfusion z⟩⟩
      walk_at "sx"
      unfold tXf
      walk_at "sx"
      refine ⟨rfl, rfl, dd, _, _, rfl, hd, rfl, ?_⟩
      walk_at "sx"
      rename_i o1 no1
      exact qs ho o1 _ ((sb.trans sH).trans (same_upd no1)) upd_same
    · obtain ⟨ho, rfl⟩ := first h (fun t e => by cases e)
      intro dd H' sH hd
      refine ⟨true, E_BadSize.ex, fun _ a0 h0 => ?_, fun z => Bool.noConfusion z⟩
      walk_at "sx"
      unfold tXf
      walk_at "sx"
      refine ⟨rfl, rfl, dd, _, _, rfl, hd, rfl, ?_⟩
      walk_at "sx"
      rename_i o1 no1
      exact qz ho o1 _ ((sb.trans sH).trans (same_upd no1)) upd_same
  · obtain ⟨t, rfl, rfl⟩ : ∃ t, o = .told t ∧ ts = [t, t] := by
      match ts, hts with
      | [t1, t2], hts =>
        have e1 := (List.cons.inj hts).1
        have e2 := (List.cons.inj (List.cons.inj hts).2).1
        rw [e1] at e2
        cases e2
        exact ⟨t1, e1, rfl⟩
    have lrs := h3.1
    obtain ⟨v0, v1, rfl⟩ : ∃ v0 v1, rs = [v0, v1] := by
      match rs, lrs with
      | [v0, v1], _ => exact ⟨v0, v1, rfl⟩
    have px := h3.2 1 v1 t rfl rfl
    walk_at "sx"
    rename_i o1 no1
    exact qt t rfl v1 o1 _ ((sb.trans sH).trans (same_upd no1)) (px.same (same_upd no1)) upd_same
end
end Gs
-- plain
namespace Gs
open PySem PySem.Spec PyProof.Rows L2 TL SrtK
abbrev s_law_flat : Stmt := PySem.Challenge.pw_goalstead_k21_sizes_as_read.main.body.getD 99 (.Pass ⟨0, 0, 0, 0⟩)
theorem sc_law_flat : FnScope ["size", "word", "name", "many", "parts", "k"] ["size", "word", "name"] (defScope s_law_flat) := ⟨rfl, rfl, rfl, by decide +kernel, rfl, by decide +kernel, by decide +kernel⟩
abbrev s_law_chain : Stmt := PySem.Challenge.pw_goalstead_k21_sizes_as_read.main.body.getD 100 (.Pass ⟨0, 0, 0, 0⟩)
theorem sc_law_chain : FnScope ["pool", "deep", "word", "thing", "turn", "way"] ["pool", "deep", "word"] (defScope s_law_chain) := ⟨rfl, rfl, rfl, by decide +kernel, rfl, by decide +kernel, by decide +kernel⟩
abbrev s_law_text : Stmt := PySem.Challenge.pw_goalstead_k21_sizes_as_read.main.body.getD 101 (.Pass ⟨0, 0, 0, 0⟩)
theorem sc_law_text : FnScope ["thing", "parts", "part"] ["thing"] (defScope s_law_text) := ⟨rfl, rfl, rfl, by decide +kernel, rfl, by decide +kernel, by decide +kernel⟩
/-! ### things of one word, a sign and leaves -/
mutual
def P21 (w : Str) : Pt → Prop
  | .i n => n = 7
  | .s z => z = w ∨ z = ("X" : Str)
  | .t nm ps => ((nm = w ∧ 1 ≤ ps.length ∧ ps.length ≤ 4) ∨ (nm = ("+" : Str) ∧ ps.length = 2)) ∧ P21L w ps
def P21L (w : Str) : List Pt → Prop
  | [] => True
  | x :: r => P21 w x ∧ P21L w r
end
theorem P21L_mem {w : Str} : ∀ {ps : List Pt}, P21L w ps ↔ ∀ p ∈ ps, P21 w p
  | [] => ⟨fun _ p h => by simp at h, fun _ => trivial⟩
  | x :: r => by
    rw [P21L, P21L_mem]
    exact ⟨fun h p hp => (List.mem_cons.mp hp).elim (fun e => e ▸ h.1) (h.2 p), fun h => ⟨h x (List.mem_cons_self ..), fun p hp => h p (List.mem_cons_of_mem _ hp)⟩⟩
theorem nm_X : NameOk 1 (tl ("X" : Str)) := ⟨88, [], by decide +kernel, .inr (.inl ⟨rfl, by decide, by simp, by decide⟩)⟩
theorem nm_plus : NmOk ("+" : Str) := ⟨2, 43, [], by decide +kernel, .inr (.inr ⟨rfl, by decide, by simp, by decide⟩)⟩
theorem plus_row : rowOf (ownL ++ []) ("+" : Str) 2 = some ⟨4, "left", "+"⟩ := by
  have h : (rowOf (ownL ++ []) ("+" : Str) 2).map (fun o => (o.l, o.s, o.n)) = some ((4 : Int), ("left" : Str), ("+" : Str)) := by decide +kernel
  cases e : rowOf (ownL ++ []) ("+" : Str) 2 with
  | none =>
    rw [e] at h
    cases h
  | some o =>
    rw [e] at h
    obtain ⟨a, b, c⟩ := o
    have h := Option.some.inj h
    have h1 := congrArg Prod.fst h
    have h2 := congrArg (fun z => z.2.1) h
    have h3 := congrArg (fun z => z.2.2) h
    dsimp only at h1 h2 h3
    rw [h1, h2, h3]
theorem free_no {w : Str} (hw : FreeW [] w) (m : Nat) : rowOf (ownL ++ []) w m = none := by
  have h := free_wd hw
  by_cases h1 : m = 1
  · rw [h1]; exact h.2.2.1
  by_cases h2 : m = 2
  · rw [h2]; exact h.2.2.2.1
  cases e : rowOf (ownL ++ []) w m with
  | none => rfl
  | some o =>
    have := (rowOf_some e).2.2
    split at this
    · exact absurd this h1
    · exact absurd this h2
mutual
theorem p21_nm {w : Str} (hw : FreeW [] w) : ∀ u : Pt, P21 w u → okT NmOk NmOk u
  | .i n, h => by
    rw [P21] at h
    rw [h]
    show (7 : Int).natAbs < 10 ^ 60
    decide
  | .s z, h => by
    rw [P21] at h
    rcases h with rfl | rfl
    · exact ⟨0, hw.1⟩
    · exact ⟨1, nm_X⟩
  | .t nm ps, h => by
    rw [P21] at h
    rw [okT]
    obtain ⟨⟨rfl, h1, h4⟩ | ⟨rfl, h2⟩, hl⟩ := h
    · exact ⟨⟨0, hw.1⟩, by omega, h4, p21_nmL hw ps hl⟩
    · exact ⟨nm_plus, by omega, by omega, p21_nmL hw ps hl⟩
theorem p21_nmL {w : Str} (hw : FreeW [] w) : ∀ ps : List Pt, P21L w ps → okL NmOk NmOk ps
  | [], _ => trivial
  | x :: r, h => ⟨p21_nm hw x h.1, p21_nmL hw r h.2⟩
end
mutual
theorem p21_rd {w : Str} (hw : FreeW [] w) : ∀ u : Pt, P21 w u → rdT (ownL ++ []) u
  | .i n, h => by
    rw [P21] at h
    rw [h]
    exact ⟨by decide, fig_no .nil 7 1⟩
  | .s z, h => by
    rw [P21] at h
    rcases h with rfl | rfl
    · exact .inr (free_wd hw)
    · exact .inl (cap_unk .nil nm_X)
  | .t nm ps, h => by
    rw [P21] at h
    rw [rdT]
    obtain ⟨⟨rfl, h1, h4⟩ | ⟨rfl, h2⟩, hl⟩ := h
    · exact ⟨by omega, h4, fun _ => free_wd hw, p21_rdL hw ps hl⟩
    · refine ⟨by omega, by omega, fun e => ?_, p21_rdL hw ps hl⟩
      rw [h2, plus_row] at e
      cases e
theorem p21_rdL {w : Str} (hw : FreeW [] w) : ∀ ps : List Pt, P21L w ps → rdL (ownL ++ []) ps
  | [], _ => trivial
  | x :: r, h => ⟨p21_rd hw x h.1, p21_rdL hw r h.2⟩
end
mutual
theorem p21_nk {w : Str} (hw : FreeW [] w) : ∀ u : Pt, P21 w u → hasK u = false
  | .i _, _ => rfl
  | .s _, _ => rfl
  | .t nm ps, h => by
    rw [P21] at h
    rw [hasK, p21_nkL hw ps h.2, Bool.or_false]
    refine decide_eq_false ?_
    rcases h.1 with ⟨rfl, _⟩ | ⟨rfl, _⟩
    · exact hw.2.1
    · decide +kernel
theorem p21_nkL {w : Str} (hw : FreeW [] w) : ∀ ps : List Pt, P21L w ps → hasKL ps = false
  | [], _ => rfl
  | x :: r, h => by
    rw [hasKL, p21_nk hw x h.1, p21_nkL hw r h.2]
    rfl
end
theorem p21_go {w : Str} (hw : FreeW [] w) {u : Pt} (h : P21 w u) : GoOk [] u := ⟨p21_nm hw u h, p21_rd hw u h⟩
theorem p21_rel {w : Str} (hw : FreeW [] w) {nm : Str} {ps : List Pt} (h : P21 w (.t nm ps)) : relP (.t nm ps) = true := by
  unfold relP
  rw [p21_nk hw _ h]
  show (true && (wordP (.t nm ps) || true)) = true
  rw [Bool.or_true]
  rfl
/-- no brackets behind a bound of four or more -/
theorem p21_top {w : Str} (hw : FreeW [] w) {top : Int} (ht : 4 ≤ top) : ∀ {u : Pt}, P21 w u → formT (ownL ++ []) top u = formT (ownL ++ []) 9 u ∧ tokT (ownL ++ []) top u = tokT (ownL ++ []) 9 u
  | .i n, _ => by rw [formT, formT, tokT, tokT]; exact ⟨rfl, rfl⟩
  | .s z, _ => by rw [formT, formT, tokT, tokT]; exact ⟨rfl, rfl⟩
  | .t nm ps, h => by
    rw [P21] at h
    obtain ⟨⟨rfl, h1, h4⟩ | ⟨rfl, h2⟩, hl⟩ := h
    · rw [formT_none (free_no hw _), formT_none (free_no hw _), tokT_none (free_no hw _), tokT_none (free_no hw _)]
      exact ⟨rfl, rfl⟩
    · obtain ⟨x, y, rfl⟩ : ∃ x y, ps = [x, y] := by
        match ps, h2 with
        | [x, y], _ => exact ⟨x, y, rfl⟩
      rw [formT_two plus_row, formT_two plus_row, tokT_two plus_row, tokT_two plus_row, decide_eq_false (show ¬ (4 : Int) > top by omega), decide_eq_false (show ¬ (4 : Int) > 9 by decide)]
      exact ⟨rfl, rfl⟩
/-- the text of a sum of two -/
theorem p21_two {w : Str} (hw : FreeW [] w) {x y : Pt} (hx : P21 w x) : formT (ownL ++ []) 9 (.t "+" [x, y]) = formT (ownL ++ []) 9 x ++ 32 :: (43 :: 32 :: formT (ownL ++ []) 3 y) := by
  rw [formT_two plus_row, decide_eq_false (show ¬ (4 : Int) > 9 by decide)]
  show formT (ownL ++ []) 4 x ++ 32 :: (tl ("+" : Str) ++ 32 :: formT (ownL ++ []) 3 y) = _
  rw [(p21_top hw (by decide) hx).1, show tl ("+" : Str) = [43] from by decide +kernel]
  rfl
def plusP : Pt → Bool
  | .t nm _ => decide (nm = ("+" : Str))
  | _ => false
theorem p21_right {w : Str} (hw : FreeW [] w) : ∀ {y : Pt}, P21 w y → formT (ownL ++ []) 3 y = if plusP y = true then 40 :: (formT (ownL ++ []) 9 y ++ [41]) else formT (ownL ++ []) 9 y
  | .i n, _ => by rw [formT, formT]; rfl
  | .s z, _ => by rw [formT, formT]; rfl
  | .t nm ps, h => by
    rw [P21] at h
    have hwp : w ≠ ("+" : Str) := fun e => by
      have h1 := free_no hw 2
      rw [e, plus_row] at h1
      cases h1
    obtain ⟨⟨rfl, h1, h4⟩ | ⟨rfl, h2⟩, hl⟩ := h
    · rw [formT_none (free_no hw _), formT_none (free_no hw _), if_neg]
      show ¬ decide (nm = ("+" : Str)) = true
      rw [decide_eq_false hwp]
      decide
    · obtain ⟨x, y, rfl⟩ : ∃ x y, ps = [x, y] := by
        match ps, h2 with
        | [x, y], _ => exact ⟨x, y, rfl⟩
      rw [formT_two plus_row, formT_two plus_row, decide_eq_true (show (4 : Int) > 3 by decide), decide_eq_false (show ¬ (4 : Int) > 9 by decide), if_pos (by decide +kernel)]
      rfl
def sz21 : Nat → Nat
  | 0 => 0
  | d + 1 => 4 * sz21 d + 1
def qs21 (n m : Nat) : Nat → Nat
  | 0 => 0
  | i + 1 => qs21 n m i + (n + i) / m
theorem qs_all {n : Nat} (h : 1 ≤ n) : qs21 n (min 4 n) (min 4 n) ≤ n := by
  by_cases c : 4 ≤ n
  · rw [Nat.min_eq_left c]
    simp only [qs21]
    omega
  · rw [Nat.min_eq_right (by omega)]
    rcases (show n = 1 ∨ n = 2 ∨ n = 3 by omega) with rfl | rfl | rfl <;> decide
theorem qs_one {n i S : Nat} (h : 1 ≤ n) (hi : i < min 4 n) (hS : n ≤ 4 * S) : 1 ≤ (n + i) / min 4 n ∧ (n + i) / min 4 n ≤ S := by
  by_cases c : 4 ≤ n
  · rw [Nat.min_eq_left c] at hi ⊢
    omega
  · rw [Nat.min_eq_right (by omega)] at hi ⊢
    rcases (show n = 1 ∨ n = 2 ∨ n = 3 by omega) with rfl | rfl | rfl <;> omega
def spFlat21 (K : PySem.W.Frag) (d : Nat) : Sp := fun vs H Q _ => ∃ (n : Nat) (w : Str), vs = [.int (n : Int), .str w, .str "X"] ∧ 1 ≤ n ∧ n ≤ sz21 d ∧ FreeW [] w ∧ ∀ x u H', Same H H' → PtAt K H' d x u → P21 w u → szT u ≤ n → (1 < n → ∃ nm ps, u = .t nm ps) → Q x H'
def spChain21 (K : PySem.W.Frag) : Sp := fun vs H Q _ => ∃ (p l : Addr) (c : Int) (n : Nat) (w : Str), vs = [.ref p, .int (n : Int), .str w] ∧ PoolAt H p l c ∧ c + n ≤ 1000000000000 ∧ 2 ≤ n ∧ n ≤ 13 ∧ FreeW [] w ∧ ∀ x u H', PtAt K H' 13 x u → P21 w u → szT u + 1 ≤ 2 * n → dpT u ≤ n → (∃ nm ps, u = .t nm ps) → Kx p l H H' → Q x H'
def spText21 (K : PySem.W.Frag) (k : Nat) : Sp := fun vs H Q _ => ∃ (x : V) (u : Pt) (w : Str), vs = [x] ∧ PtAt K H k x u ∧ P21 w u ∧ FreeW [] w ∧ szT u ≤ 100 ∧ ∀ z H', Same H H' → tl z = formT (ownL ++ []) 9 u → Q (.str z) H'
section
variable {P : Program} {w : World} {K : PySem.W.Frag} {mg : Str → Option Value} {base : Heap} {f : Addr} {fd : FuncData}
def HasFlat21 (d : Nat) (P : Program) (w : World) (K : PySem.W.Frag) (mg : Str → Option Value) (base : Heap) : Prop := Has P w K mg base (d + 1) "_law_flat" ["size", "word", "name"] (spFlat21 K d)
def HasChain21 (P : Program) (w : World) (K : PySem.W.Frag) (mg : Str → Option Value) (base : Heap) : Prop := Has P w K mg base 3 "_law_chain" ["pool", "deep", "word"] (spChain21 K)
def HasText21 (k : Nat) (P : Program) (w : World) (K : PySem.W.Frag) (mg : Str → Option Value) (base : Heap) : Prop := Has P w K mg base (k + 2) "_law_text" ["thing"] (spText21 K k)
theorem ok_law_chain21 (F : Fun K "_law_chain" "_law_chain" s_law_chain f fd) (T : Txt mg) (C_law_take : HasTake P w K mg base) : FnOk P w K mg base CX0 3 f fd ["pool", "deep", "word"] (spChain21 K) := by
  refine F.ok sc_law_chain (fun vs H Q E h => ?_) (fun cdv A outer s H vs Q E hr h => ?_)
  · obtain ⟨p, l, c, n, w, rfl, _⟩ := h
    rfl
  obtain ⟨p, l, c, n, w, rfl, P0, hc, n2, n13, hw, q⟩ := h
  refine ⟨_, (pss_cons (ps_set (i := 3) sc_law_chain.nd rfl (Or.inl rfl) (pv 2))
    (pss_cons (ps_for PassesOwn.never rfl (pi_range1 (by rfl) T.z_range (pa_cons (pe_op op_sub (pv 1) pe_int) pa_nil)) (pg_name (i := 4) sc_law_chain.nd rfl (.inl rfl))
      (pss_cons (ps_set (i := 5) sc_law_chain.nd rfl (Or.inl rfl) (pe_callH C_law_take hr (pa_cons (pv 0) (pa_cons pe_int pa_nil))))
    (pss_cons (ps_if (pt_cmpR op_eq (pv 5) pe_int (nomark _))
      (pss_one (ps_set (i := 3) sc_law_chain.nd rfl (Or.inl rfl) (pe_tup (pa_cons (pv 2) (pa_cons (pv 3) pa_nil)))))
      pss_nil)
    (pss_cons (ps_if (pt_cmpR op_eq (pv 5) pe_int (nomark _))
      (pss_one (ps_set (i := 3) sc_law_chain.nd rfl (Or.inl rfl) (pe_tup (pa_cons (pv 2) (pa_cons (pv 2) (pa_cons (pv 3) pa_nil))))))
      pss_nil)
    (pss_cons (ps_if (pt_cmpR op_eq (pv 5) pe_int (nomark _))
      (pss_one (ps_set (i := 3) sc_law_chain.nd rfl (Or.inl rfl) (pe_tup (pa_cons pe_str (pa_cons (pv 2) (pa_cons (pv 3) pa_nil))))))
      pss_nil)
    (pss_one (ps_if (pt_cmpR op_eq (pv 5) pe_int (nomark _))
      (pss_one (ps_set (i := 3) sc_law_chain.nd rfl (Or.inl rfl) (pe_tup (pa_cons pe_str (pa_cons (pv 3) (pa_cons (pv 2) pa_nil))))))
      pss_nil)))))))
    (pss_one (ps_ret (pv 3))))), ?_⟩
  walk_at "sx"
  refine x_forR1 (n := (n : Int) - 1) (fun i σ' G => ∃ (x : V) (u : Pt) (x4 x5 : Option V), σ' = [some (.ref p), some (.int (n : Int)), some (.str w), some x, x4, x5] ∧ PtAt K G (i + 1) x u ∧ P21 w u ∧ szT u ≤ 2 * i + 1 ∧ dpT u ≤ i + 1 ∧ (0 < i → ∃ nm ps, u = .t nm ps) ∧ PoolAt G p l (c + i) ∧ Kx p l H G) (by omega) (by omega) ⟨.str w, .s w, none, none, rfl, rfl, by rw [P21]; exact .inl rfl, by simp [szT], by simp [dpT], (fun h => absurd h (by decide)), P0.mono (by omega), Kx.refl _⟩ ?_ ?_
  · rintro i σ' G hi ⟨x, u, x4, x5, rfl, px, pu, hsz, hdp, _, PG, kG⟩
    walk_at "sx"
    refine ⟨p, l, _, 4, rfl, PG, by omega, by decide, by decide, fun way G2 w0 w4 P2 k2 => ?_⟩
    have px2 := px.kx k2 PG
    have k02 := kG.trans k2
    have pw : PtAt K G2 (i + 1) (.str w) (.s w) := rfl
    rcases (show way = 0 ∨ way = 1 ∨ way = 2 ∨ way = 3 by omega) with rfl | rfl | rfl | rfl
    · walk_at "sx"
      rename_i t nt
      have st := same_upd (o := .tup [.str w, x]) nt
      exact ⟨.ref t, .t w [u], _, _, rfl, .tup (.of upd_same) (.one (px2.same st)), by rw [P21, P21L]; exact ⟨.inl ⟨rfl, by simp, by simp⟩, pu, trivial⟩, by simp [szT, szL]; omega, by simp [dpT, dpL]; omega, fun _ => ⟨_, _, rfl⟩, (P2.upd nt).mono (by omega), k02.trans (.of st)⟩
    · walk_at "sx"
      rename_i t nt
      have st := same_upd (o := .tup [.str w, .str w, x]) nt
      exact ⟨.ref t, .t w [.s w, u], _, _, rfl, .tup (.of upd_same) ((PtsAt.one (pw.same st)).append (.one (px2.same st))), by rw [P21, P21L, P21L, P21]; exact ⟨.inl ⟨rfl, by simp, by simp⟩, .inl rfl, pu, trivial⟩, by simp [szT, szL]; omega, by simp [dpT, dpL]; omega, fun _ => ⟨_, _, rfl⟩, (P2.upd nt).mono (by omega), k02.trans (.of st)⟩
    · walk_at "sx"
      rename_i t nt
      have st := same_upd (o := .tup [.str "+", .str w, x]) nt
      exact ⟨.ref t, .t "+" [.s w, u], _, _, rfl, .tup (.of upd_same) ((PtsAt.one (pw.same st)).append (.one (px2.same st))), by rw [P21, P21L, P21L, P21]; exact ⟨.inr ⟨rfl, rfl⟩, .inl rfl, pu, trivial⟩, by simp [szT, szL]; omega, by simp [dpT, dpL]; omega, fun _ => ⟨_, _, rfl⟩, (P2.upd nt).mono (by omega), k02.trans (.of st)⟩
    · walk_at "sx"
      rename_i t nt
      have st := same_upd (o := .tup [.str "+", x, .str w]) nt
      exact ⟨.ref t, .t "+" [u, .s w], _, _, rfl, .tup (.of upd_same) ((PtsAt.one (px2.same st)).append (.one (pw.same st))), by rw [P21, P21L, P21L, P21]; exact ⟨.inr ⟨rfl, rfl⟩, pu, .inl rfl, trivial⟩, by simp [szT, szL]; omega, by simp [dpT, dpL]; omega, fun _ => ⟨_, _, rfl⟩, (P2.upd nt).mono (by omega), k02.trans (.of st)⟩
  · rintro σ' G ⟨x, u, x4, x5, rfl, px, pu, hsz, hdp, ht, PG, kG⟩
    walk_at "sx"
    exact q x u G (px.up (by omega)) pu (by omega) (by omega) (ht (by omega)) kG
theorem ok_law_text21 (F : Fun K "_law_text" "_law_text" s_law_text f fd) (T : Txt mg) (C_law_figure : HasFig P w K mg base) (b : Binds K fd ["thing"] []) (kp : PySem.W.keepIn K (.ref f) = true) (m : mg "_law_text" = some (.ref f)) : ∀ k, FnOk P w K mg base CX0 (k + 2) f fd ["thing"] (spText21 K k)
  | 0 => ⟨fun vs H Q E h => by
      obtain ⟨v, p, _, _, h, _⟩ := h
      exact h.elim, fun A outer s H args us vs Q E _ _ _ _ h => by
      obtain ⟨v, p, _, _, h, _⟩ := h
      exact h.elim⟩
  | k + 1 => by
    have C_law_text : HasText21 k P w K mg base := ⟨f, fd, ok_law_text21 F T C_law_figure b kp m k, b, kp, m⟩
    refine F.ok sc_law_text (fun vs H Q E h => ?_) (fun cdv A outer s H vs Q E hr h => ?_)
    · obtain ⟨v, p, _, rfl, _⟩ := h
      rfl
    obtain ⟨v, p, wd, rfl, hp, h21, hw, hz, q⟩ := h
    have oknm := p21_nm hw p h21
    refine ⟨_, (pss_cons (ps_if (pt_not (pt_val (pe_callB (call_isiKK (K := K)) (by rfl) T.z_isinstance (by decide +kernel) (pa_cons (pv 0) (pa_cons (pe_bltn (v := .ty "tuple") (by rfl) T.z_tuple (by decide +kernel) rfl) pa_nil)))))
      (pss_one (ps_ret (pe_callH C_law_figure hr (pa_cons (pv 0) pa_nil) (hk := by omega))))
      pss_nil)
    (pss_cons (ps_setLc (i := 1) (own := [("part", 2)]) (g := gName 2) (tt := tYes) rfl sc_law_text.nd rfl rfl (sw_true rfl rfl rfl (by decide +kernel)) (pi_tup (pe_slice (sl_tupK (K := K)) (pv 0) (po_some pe_int) po_none)) (blkOk_by (own := [("part", 2)]) (N := ["thing", "parts", "part"]) (sc := defScope s_law_text) (by decide +kernel)) (fun _ _ _ _ _ => pg_name (i := 2) sc_law_text.nd rfl (Or.inl rfl)) (fun _ _ _ _ _ => pts_nil) (fun _ _ _ _ _ => (pe_callH C_law_text hr (pa_cons (pv 2) pa_nil) (hk := Nat.le_refl _))))
    (pss_cons (ps_if (pt_cmpR op_ne (pe_ix (ix_tupK (K := K)) (pv 0) pe_int (fun _ _ => rfl)) pe_str (nomark _))
      (pss_one (ps_ret (pe_op op_add_str (pe_op op_add_str (pe_op op_add_str (pe_ix (ix_tupK (K := K)) (pv 0) pe_int (fun _ _ => rfl)) pe_str) (pe_join pe_str (pv 1))) pe_str)))
      pss_nil)
    (pss_cons (ps_if (PW.pt (pw_and (pt_val (pe_callB (call_isiKK (K := K)) (by rfl) T.z_isinstance (by decide +kernel) (pa_cons (pe_ix (ix_tupK (K := K)) (pv 0) pe_int (fun _ _ => rfl)) (pa_cons (pe_bltn (v := .ty "tuple") (by rfl) T.z_tuple (by decide +kernel) rfl) pa_nil)))) (pw_and1 (pt_cmpR op_eq (pe_ix (ix_tupK (K := K)) (pe_ix (ix_tupK (K := K)) (pv 0) pe_int (fun _ _ => rfl)) pe_int (fun _ _ => rfl)) pe_str (nomark _)))))
      (pss_one (ps_asg (pe_op op_add_str (pe_op op_add_str pe_str (pe_ix (ix_listK (K := K)) (pv 1) pe_int (fun _ _ => rfl))) pe_str) (pg_sub (pv 1) pe_int set_list)))
      pss_nil)
    (pss_one (ps_ret (pe_op op_add_str (pe_op op_add_str (pe_ix (ix_listK (K := K)) (pv 1) pe_int (fun _ _ => rfl)) pe_str) (pe_ix (ix_listK (K := K)) (pv 1) pe_int (fun _ _ => rfl))))))))), ?_⟩
    walk_at "sx"
    rcases hp.three with ⟨n, rfl, rfl⟩ | ⟨z, rfl, rfl⟩ | ⟨j, nm, ps, a, ys, ej, rfl, rfl, sa, pq⟩
    · refine x_isT (t := .type "int") (c := false) (.base (.int n)) (kit_ty (by decide +kernel)) ?_
      walk_at "sx"
      exact ⟨_, .i n, rfl, .inl ⟨n, rfl, rfl, oknm⟩, fun z hz => q z _ (same_refl _) (by rw [hz, formT])⟩
    · refine x_isT (t := .type "str") (c := false) (.base (.str z)) (kit_ty (by decide +kernel)) ?_
      walk_at "sx"
      exact ⟨_, .s z, rfl, .inr ⟨z, rfl, rfl⟩, fun z hz => q z _ (same_refl _) (by rw [hz, formT])⟩
    · have ej' : j = k := by omega
      subst ej'
      have okt := okT_imp (fun _ h => NmOk.len h) (fun _ h => NmOk.len h) oknm
      rw [P21] at h21
      have lps := pq.1
      have l4 : ps.length ≤ 4 := by
        rcases h21.1 with ⟨_, _, h⟩ | ⟨_, h⟩ <;> omega
      have szp : ∀ p ∈ ps, szT p ≤ 100 := fun p hp => by
        have := szL_mem20 hp
        rw [szT] at hz
        omega
      have bs := formL_len (R := ownL ++ []) ps (by rw [okT] at okt; exact okt.2.2.2)
      rw [formL_map] at bs
      rw [szT] at hz
      refine x_isT (t := .type "tuple") (c := true) (ty_tup sa) (kit_ty (by decide +kernel)) ?_
      walk_at "sx"
      refine ⟨a, _, rfl, sa, cut_tail_ne _ _, fun r nr => ?_⟩
      rw [cut_tail]
      have sr := same_upd (o := .tup ys) nr
      have er : SqT K (upd H r (.tup ys)) r ys := .of upd_same
      have pq1 := pq.same sr
      have sa1 := Same.sqT sr sa
      generalize upd H r (.tup ys) = H1 at *
      refine x_lcMT (R := fun H v p => PtAt K H j v p) (S := fun H v (l : List Nat) => ∃ z : Str, v = .str z ∧ tl z = l) (formT (ownL ++ []) 9) er ⟨pq1.1, pq1.2⟩ (fun s h => h.same s) (fun _ _ _ _ _ h => h) (by omega) (fun G v x kG hx hv Q' P' q' => ?_) (fun D G us' hD kG eD hu => ?_)
      · walk_at "sx"
        refine ⟨rfl, ?_⟩
        walk_at "sx"
        exact ⟨v, x, wd, rfl, hv, P21L_mem.mp h21.2 x hx, hw, szp x hx, fun v' H' k' tv => q' _ _ k' ⟨_, rfl, tv⟩⟩
      · obtain ⟨zs, rfl, ezs⟩ := strs_of hu
        have sa2 := Same.sqT kG sa1
        have sG := sr.trans kG
        have lzs : zs.length = ps.length := by
          have := congrArg List.length ezs
          rw [List.length_map, List.length_map] at this
          exact this
        have l1 : ("(" : Str).length = 1 := by decide +kernel
        have l2 : (")" : Str).length = 1 := by decide +kernel
        have l3 : (", " : Str).length = 2 := by decide +kernel
        have l5 : (" + " : Str).length = 3 := by decide +kernel
        have ln : nm.length ≤ 12 := by
          rw [okT] at oknm
          exact oknm.1.len
        have sj : ((ps.map (formT (ownL ++ []) 9)).map List.length).sum ≤ 80 * 100 := by omega
        obtain ⟨⟨rfl, p1, p4⟩ | ⟨rfl, p2⟩, hl⟩ := h21
        · have hne : nm ≠ ("+" : Str) := fun e => by
            have h1 := free_no hw 2
            rw [e, plus_row] at h1
            cases h1
          have ej : tl (Txt.join (", " : Str) zs) = joinL [44, 32] (ps.map (formT (ownL ++ []) 9)) := by
            rw [join_eq, tl_join, ezs]
            rfl
          have lj : (Txt.join (", " : Str) zs).length = (joinL [44, 32] (ps.map (formT (ownL ++ []) 9))).length := by rw [← ej, tl_lenP]
          have hj := joinL_len [44, 32] (ps.map (formT (ownL ++ []) 9))
          rw [List.length_map, show ([44, 32] : List Nat).length = 2 from rfl] at hj
          walk_at "sx"
          refine x_iteN (fun _ => ?_) (fun c => absurd (V.str.inj c) hne)
          walk_at "sx"
          refine x_addS (sz (by omega)) ?_
          walk_at "sx"
          refine x_join (.of eD) ?_ ?_
          · rw [l3, ← len_sum, ezs]
            omega
          · refine x_addS (sz (by rw [lj, len_app, l1]; omega)) ?_
            walk_at "sx"
            refine x_addS (sz (by rw [len_app, len_app, lj, l1, l2]; omega)) (q _ _ sG ?_)
            rw [tl_append, tl_append, tl_append, ej, formT_none (free_no hw _), tl_op, tl_cl]
            simp
        · obtain ⟨x, y, rfl⟩ : ∃ x y, ps = [x, y] := by
            match ps, p2 with
            | [x, y], _ => exact ⟨x, y, rfl⟩
          obtain ⟨z1, z2, rfl⟩ : ∃ z1 z2, zs = [z1, z2] := by
            match zs, lzs with
            | [z1, z2], _ => exact ⟨z1, z2, rfl⟩
          obtain ⟨vx, vy, rfl⟩ : ∃ vx vy, ys = [vx, vy] := by
            match ys, lps with
            | [vx, vy], _ => exact ⟨vx, vy, rfl⟩
          have e1 : tl z1 = formT (ownL ++ []) 9 x := (List.cons.inj ezs).1
          have e2 : tl z2 = formT (ownL ++ []) 9 y := (List.cons.inj (List.cons.inj ezs).2).1
          have hx21 : P21 wd x := hl.1
          have hy21 : P21 wd y := hl.2.1
          have py : PtAt K G j vy y := (pq1.2 1 vy y rfl rfl).same kG
          have fin := p21_two hw (y := y) hx21
          have rgt := p21_right hw hy21
          have lz1 : z1.length ≤ 8000 := by
            have h1 : (formT (ownL ++ []) 9 x).length ≤ 8000 := by
              rw [List.map_cons, List.map_cons, List.sum_cons] at sj
              omega
            rw [← e1, tl_lenP] at h1
            exact h1
          have lz2 : z2.length ≤ 8000 := by
            have h1 : (formT (ownL ++ []) 9 y).length ≤ 8000 := by
              rw [List.map_cons, List.map_cons, List.sum_cons, List.map_cons, List.map_cons, List.sum_cons] at sj
              omega
            rw [← e2, tl_lenP] at h1
            exact h1
          have ende : ∀ (H2 : Hp) (z' : Str), Same H H2 → z'.length ≤ 8100 → tl z' = formT (ownL ++ []) 3 y → Q (.str (z1 ++ (" + " : Str) ++ z')) H2 := fun H2 z' s2 _ ez => q _ _ s2 (by
            rw [fin, tl_append, tl_append, e1, ez, show tl (" + " : Str) = [32, 43, 32] from by decide +kernel]
            simp)
          walk_at "sx"
          have plain : plusP y = false → ∀ G', Same G G' → True := fun _ _ _ => trivial
          rcases py.three with ⟨n, rfl, rfl⟩ | ⟨z, rfl, rfl⟩ | ⟨j2, nm2, ps2, a2, ys2, ej2, rfl, rfl, sa3, pq3⟩
          · refine x_isT (t := .type "int") (c := false) (.base (.int n)) (kit_ty (by decide +kernel)) ?_
            walk_at "sx"
            refine x_addS (sz (by rw [l5]; omega)) ?_
            walk_at "sx"
            refine x_addS (sz (by rw [len_app, l5]; omega)) (ende G z2 sG (by omega) ?_)
            rw [e2, rgt, if_neg (by simp [plusP])]
          · refine x_isT (t := .type "str") (c := false) (.base (.str z)) (kit_ty (by decide +kernel)) ?_
            walk_at "sx"
            refine x_addS (sz (by rw [l5]; omega)) ?_
            walk_at "sx"
            refine x_addS (sz (by rw [len_app, l5]; omega)) (ende G z2 sG (by omega) ?_)
            rw [e2, rgt, if_neg (by simp [plusP])]
          · refine x_isT (t := .type "tuple") (c := true) (ty_tup sa3) (kit_ty (by decide +kernel)) ?_
            walk_at "sx"
            have hnD : H D = none := Same.free sr hD
            refine x_ite (fun c => ?_) (fun c => ?_)
            · have hn2 : nm2 = ("+" : Str) := V.str.inj c
              walk_at "sx"
              refine x_addS (sz (by rw [l1]; omega)) ?_
              walk_at "sx"
              refine x_addS (sz (by rw [len_app, l1, l2]; omega)) ?_
              walk_at "sx"
              have eD2 : upd G D (.lst (([z1, z2].map V.str).set 1 (.str (("(" : Str) ++ z2 ++ (")" : Str))))) D = some (.lst [.str z1, .str (("(" : Str) ++ z2 ++ (")" : Str))]) := upd_same
              have sG2 : Same H (upd G D (.lst (([z1, z2].map V.str).set 1 (.str (("(" : Str) ++ z2 ++ (")" : Str)))))) := same_updf sG hnD
              generalize upd G D (.lst (([z1, z2].map V.str).set 1 (.str (("(" : Str) ++ z2 ++ (")" : Str))))) = G2 at *
              walk_at "sx"
              refine x_addS (sz (by rw [l5]; omega)) ?_
              walk_at "sx"
              refine x_addS (sz (by rw [len_app, len_app, len_app, l1, l2, l5]; omega)) (ende G2 _ sG2 (by rw [len_app, len_app, l1, l2]; omega) ?_)
              rw [tl_append, tl_append, e2, rgt, if_pos (show plusP (.t nm2 ps2) = true from decide_eq_true hn2), tl_op, tl_cl]
              simp
            · have hn2 : nm2 ≠ ("+" : Str) := fun e => c (by rw [e])
              walk_at "sx"
              refine x_addS (sz (by rw [l5]; omega)) ?_
              walk_at "sx"
              refine x_addS (sz (by rw [len_app, l5]; omega)) (ende G z2 sG (by omega) ?_)
              rw [e2, rgt, if_neg (show ¬ plusP (.t nm2 ps2) = true from fun e => hn2 (of_decide_eq_true e))]
theorem ok_law_flat21 (F : Fun K "_law_flat" "_law_flat" s_law_flat f fd) (T : Txt mg) (b : Binds K fd ["size", "word", "name"] []) (kp : PySem.W.keepIn K (.ref f) = true) (m : mg "_law_flat" = some (.ref f)) : ∀ d, FnOk P w K mg base CX0 (d + 1) f fd ["size", "word", "name"] (spFlat21 K d)
  | 0 => ⟨fun vs H Q E h => by
      obtain ⟨n, wd, _, n1, nd, _⟩ := h
      have : n ≤ 0 := nd
      omega, fun A outer s H args us vs Q E _ _ _ _ h => by
      obtain ⟨n, wd, _, n1, nd, _⟩ := h
      have : n ≤ 0 := nd
      omega⟩
  | d + 1 => by
    have C_law_flat : HasFlat21 d P w K mg base := ⟨f, fd, ok_law_flat21 F T b kp m d, b, kp, m⟩
    refine F.ok sc_law_flat (fun vs H Q E h => ?_) (fun cdv A outer s H vs Q E hr h => ?_)
    · obtain ⟨n, wd, rfl, _⟩ := h
      rfl
    obtain ⟨n, wd, rfl, n1, nd, hw, q⟩ := h
    have nd' : n ≤ 4 * sz21 d + 1 := nd
    have lw : wd.length ≤ 12 := NmOk.len ⟨0, hw.1⟩
    refine ⟨_, (pss_cons (ps_if (pt_cmpR op_eq (pv 0) pe_int (nomark _))
      (pss_one (ps_ret (pe_ix (ix_listK (K := K)) (pe_lst (pa_cons (pv 1) (pa_cons (pv 2) (pa_cons pe_int pa_nil)))) (pe_op op_modN (pe_callB call_len_str (by rfl) T.z_len (by decide +kernel) (pa_cons (pv 1) pa_nil)) pe_int) (fun _ _ => rfl))))
      pss_nil)
    (pss_cons (ps_set (i := 3) sc_law_flat.nd rfl (Or.inl rfl) (pe_callB (call_min2 rfl) (by rfl) T.z_min (by decide +kernel) (pa_cons pe_int (pa_cons (pe_op op_sub (pv 0) pe_int) pa_nil))))
    (pss_cons (ps_set (i := 4) sc_law_flat.nd rfl (Or.inl rfl) (pe_lst pa_nil))
    (pss_cons (ps_for PassesOwn.never rfl (pi_range1 (by rfl) T.z_range (pa_cons (pv 3) pa_nil)) (pg_name (i := 5) sc_law_flat.nd rfl (.inl rfl))
      (pss_one (ps_expr (pe_bm PySem.F.plainAttrs_list PySem.F.slot_list_append PySem.F.type_list_append mt_append (pv 4) (pa_cons (pe_callH C_law_flat hr (pa_cons (pe_op op_fdivW (pe_op op_add (pe_op op_sub (pv 0) pe_int) (pv 5)) (pv 3)) (pa_cons (pv 1) (pa_cons (pv 2) pa_nil))) (hk := Nat.le_refl _)) pa_nil)))))
    (pss_one (ps_ret (pe_op op_catT (pe_tup (pa_cons (pv 1) pa_nil)) (pe_callTy call_tuple_of (by rfl) T.z_tuple (by decide +kernel) (pa_cons (pv 4) pa_nil))))))))), ?_⟩
    walk_at "sx"
    refine x_ite (fun c => ?_) (fun c => ?_)
    · have hn1 : n = 1 := by
        have := V.int.inj c
        omega
      walk_at "sx"
      rename_i L nL
      refine x_lenS (sz (by omega)) ?_
      walk_at "sx"
      have sL := same_upd (o := .lst [.str wd, .str "X", .int 7]) nL
      rename_i r h0 h3 _
      rcases (show r = 0 ∨ r = 1 ∨ r = 2 by omega) with rfl | rfl | rfl
      · exact x_ixL (v := .str wd) (.of upd_same) (at0 rfl) (q _ (.s wd) _ sL rfl (by rw [P21]; exact .inl rfl) (by simp [szT]; omega) (fun h => by omega))
      · exact x_ixL (v := .str "X") (.of upd_same) (at1 rfl) (q _ (.s "X") _ sL rfl (by rw [P21]; exact .inr rfl) (by simp [szT]; omega) (fun h => by omega))
      · exact x_ixL (v := .int 7) (.of upd_same) (at2 rfl) (q _ (.i 7) _ sL rfl (by rw [P21]) (by simp [szT]; omega) (fun h => by omega))
    · have hn : 2 ≤ n := by
        have : ¬ n = 1 := fun e => c (by rw [e]; rfl)
        omega
      walk_at "sx"
      refine ⟨4, (n : Int) - 1, rfl, ?_⟩
      have em : (if (n : Int) - 1 < 4 then (n : Int) - 1 else 4) = ((min 4 (n - 1) : Nat) : Int) := by
        split <;> omega
      rw [em]
      have hm1 : 1 ≤ min 4 (n - 1) := by omega
      have hq := qs_all (n := n - 1) (by omega)
      have h1q := fun i hi => qs_one (n := n - 1) (i := i) (S := sz21 d) (by omega) hi (by omega)
      generalize hmm : min 4 (n - 1) = mm at *
      have mm4 : mm ≤ 4 := by omega
      walk_at "sx"
      rename_i D nD
      have sD := same_upd (o := .lst []) nD
      have eD : upd H D (.lst []) D = some (.lst []) := upd_same
      generalize upd H D (.lst []) = H1 at *
      refine x_forR1 (n := (mm : Int)) (fun i σ' G => ∃ (vs : List V) (ps : List Pt) (x5 : Option V), σ' = [some (.int (n : Int)), some (.str wd), some (.str "X"), some (.int (mm : Int)), some (.ref D), x5] ∧ G D = some (.lst vs) ∧ PtsAt K G d vs ps ∧ (∀ p ∈ ps, P21 wd p) ∧ ps.length = i ∧ szL ps ≤ qs21 (n - 1) mm i ∧ Same H G) (by omega) (by omega) ⟨[], [], none, rfl, eD, .nil, (fun p hp => by cases hp), rfl, by simp [szL], sD⟩ ?_ ?_
      · rintro i σ' G hi ⟨vs, ps, x5, rfl, eG, hp, h21, lps, hsz, sG⟩
        have hil : i < mm := by omega
        obtain ⟨k1, k2⟩ := h1q i hil
        have lvs := hp.1
        walk_at "sx"
        rename_i r hr1 _
        have er : r = (((n - 1 + i) / mm : Nat) : Int) := by
          rw [hr1, show (n : Int) - 1 + (i : Int) = ((n - 1 + i : Nat) : Int) by omega]
          rfl
        subst er
        refine ⟨(n - 1 + i) / mm, wd, rfl, k1, k2, hw, fun x u G2 s2 px pu su _ => ?_⟩
        have eG2 := s2 _ _ eG
        walk_at "sx"
        refine x_app eG2 (szl (by omega)) ?_
        refine ⟨vs ++ [x], ps ++ [u], _, rfl, upd_same, ((hp.same s2).append (.one px)).lst eG2, fun p hp' => ?_, by rw [List.length_append, lps]; rfl, ?_, same_updf (sG.trans s2) nD⟩
        · rcases List.mem_append.mp hp' with h | h
          · exact h21 p h
          · rw [List.mem_singleton.mp h]
            exact pu
        · rw [szL_append, qs21]
          simp only [szL]
          omega
      · rintro σ' G ⟨vs, ps, x5, rfl, eG, hp, h21, lps, hsz, sG⟩
        rw [Int.toNat_natCast] at lps hsz
        have lvs := hp.1
        walk_at "sx"
        rename_i t1 n1
        have s1 := same_upd (o := .tup [.str wd]) n1
        refine ⟨D, vs, rfl, .inl ⟨.of (s1 _ _ eG), fun t2 n2 => ?_⟩⟩
        have s2 := same_upd (o := .tup vs) n2
        refine ⟨t1, t2, [.str wd], vs, rfl, rfl, .of (s2 _ _ upd_same), .of upd_same, by simp, sz (by simp; omega), (fun e => ?_), fun _ t3 n3 => ?_⟩
        · rw [e] at lvs
          simp at lvs
          omega
        · have s3 := same_upd (o := .tup ([.str wd] ++ vs)) n3
          have sA := (s1.trans s2).trans s3
          exact q (.ref t3) (.t wd ps) _ (sG.trans sA) (.tup (.of upd_same) (hp.same sA)) (by rw [P21, P21L_mem]; exact ⟨.inl ⟨rfl, by omega, by omega⟩, h21⟩) (by rw [szT]; omega) (fun _ => ⟨_, _, rfl⟩)
end
end Gs
-- plain
namespace Gs
open PySem PySem.Spec PyProof.Rows L2 TL SrtK
/-! ### what each door asks of its line -/
def bigB (p : Pt) : Bool := decide (60 < szT p ∨ 12 < dpT p)
def dueB (p : Pt) : Str := if bigB p = true then "size" else "told"
theorem bigB_iff {p : Pt} : bigB p = true ↔ big p := by
  unfold bigB big
  exact decide_eq_true_iff
theorem split_bad : ∀ {gs : List Pt}, gs.all goalP = false → ∃ a g b, gs = a ++ g :: b ∧ (∀ x ∈ a, goalP x = true) ∧ goalP g = false
  | [], h => by simp at h
  | x :: r, h => by
    cases hx : goalP x with
    | false => exact ⟨[], x, r, rfl, (fun y hy => by cases hy), hx⟩
    | true =>
      rw [List.all_cons, hx, Bool.true_and] at h
      obtain ⟨a, g, b, e, h1, h2⟩ := split_bad h
      refine ⟨x :: a, g, b, by rw [e]; rfl, fun y hy => ?_, h2⟩
      rcases List.mem_cons.mp hy with rfl | hy
      · exact hx
      · exact h1 y hy
/-- a clause of read parts -/
theorem clause_any {ops : List Op} (k : OpsOk ops) {h : Pt} {hz : List Str} {gs : List Pt} {gzs : List (List Str)} (hh : Rd ops h hz) (hr : relP h = true) (hl : gzs.length = gs.length) (hl6 : gs.length ≤ 6)
    (hg : ∀ (i : Nat) (g : Pt) (z : List Str), gs[i]? = some g → gzs[i]? = some z → Rd ops g z) :
    LineR (ownL ++ ops) 40 20 (hz ++ goalsZ gzs) (if gs.all goalP = false then .shape else if (h :: gs).any bigB = true then .size else .told (clauseT h gs)) := by
  have hc : ∀ z ∈ gzs, Clo z := fun z hz => by
    obtain ⟨i, hi⟩ := List.getElem?_of_mem hz
    have hil := (List.getElem?_eq_some_iff.mp hi).1
    exact (hg i _ z (List.getElem?_eq_getElem (by omega)) hi).clo k
  obtain ⟨e1, e2, e3⟩ := clause_parts k hh hc
  obtain ⟨f1, f2⟩ := clause_first (t := goalsZ gzs) k hh
  have gl : ∀ {as : List Pt} {zs : List (List Str)}, zs.length = as.length → (∀ (i : Nat) (g : Pt) (z : List Str), as[i]? = some g → zs[i]? = some z → Rd ops g z ∧ goalP g = true) → GoalL (ownL ++ ops) 40 20 zs as := fun hl h => ⟨hl, fun i z g h1 h2 => by
    obtain ⟨r, g'⟩ := h i g z h2 h1
    exact ⟨r.rdo k, r.gd, g'⟩⟩
  by_cases cb : gs.all goalP = false
  · rw [if_pos cb]
    obtain ⟨a, g, b, e, h1, h2⟩ := split_bad cb
    have lg : gs.length = a.length + (b.length + 1) := by rw [e]; simp
    obtain ⟨za, hza⟩ : ∃ z, gzs[a.length]? = some z := ⟨_, List.getElem?_eq_getElem (by omega)⟩
    have hga : gs[a.length]? = some g := by rw [e]; simp
    have esp : gzs = gzs.take a.length ++ za :: gzs.drop (a.length + 1) := by
      have hlt := (List.getElem?_eq_some_iff.mp hza).1
      have hv := (List.getElem?_eq_some_iff.mp hza).2
      rw [← hv, ← List.drop_eq_getElem_cons hlt, List.take_append_drop]
    have rg := hg _ _ _ hga hza
    refine line_of f1 f2 (.nogoal (h := h) (a := gzs.take a.length) (b := gzs.drop (a.length + 1)) (z := za) (gs := a) (by rw [e1]; exact hh.rdo k) hh.gd hr (by rw [e2, e3]; exact esp) (gl (by rw [List.length_take]; omega) fun i x z g1 g2 => ?_) (.inr ⟨g, rg.rdo k, rg.gd, h2⟩))
    have hi := (List.getElem?_eq_some_iff.mp g1).1
    rw [List.getElem?_take_of_lt hi] at g2
    have g1' : gs[i]? = some x := by rw [e, List.getElem?_append_left hi]; exact g1
    exact ⟨hg i x z g1' g2, h1 x (List.mem_of_getElem? g1)⟩
  · rw [if_neg cb]
    have all : ∀ g ∈ gs, goalP g = true := by
      cases h : gs.all goalP with
      | false => exact absurd h cb
      | true => exact List.all_eq_true.mp h
    have G := gl hl fun i g z h1 h2 => ⟨hg i g z h1 h2, all g (List.mem_of_getElem? h1)⟩
    by_cases cz : (h :: gs).any bigB = true
    · rw [if_pos cz]
      obtain ⟨p, hp, hb⟩ := List.any_eq_true.mp cz
      exact line_of f1 f2 (.great (h := h) (gs := gs) (by rw [e1]; exact hh.rdo k) hh.gd hr (by rw [e2, e3]; exact G) hl6 ⟨p, hp, bigB_iff.mp hb⟩)
    · rw [if_neg cz]
      refine line_of f1 f2 (.fine (h := h) (gs := gs) (by rw [e1]; exact hh.rdo k) hh.gd hr (by rw [e2, e3]; exact G) hl6 fun p hp hb => cz (List.any_eq_true.mpr ⟨p, hp, bigB_iff.mpr hb⟩))
/-- a text cut into pieces whatever stands behind its edge -/
def CutE (t : List Nat) (z : List Str) : Prop := ∀ (l : List Nat) (ts : List (List Nat)), Edge l → Cut l ts → Cut (t ++ l) (z.map tl ++ ts)
theorem edge_nil21 : Edge [] := fun c t e => by cases e
theorem edge_44' {l : List Nat} : Edge (44 :: l) := fun c t e => by cases e; exact .inr (.inr rfl)
theorem edge_32' {l : List Nat} : Edge (32 :: l) := fun c t e => by cases e; exact .inl rfl
theorem CutE.all {t : List Nat} {z : List Str} (h : CutE t z) : Cut t (z.map tl) := by
  have := h [] [] edge_nil21 .nil
  rwa [List.append_nil, List.append_nil] at this
theorem CutE.one {z : Str} (h : PcOk z) : CutE (tl z) [z] := fun l ts he hc => cut_pc h (.inl he) hc
theorem CutE.form {R : List Op} {p : Pt} (h : okT NmOk NmOk p) : CutE (formT R 9 p) (tokT R 9 p) := fun l ts he hc => cut_form p 9 l ts (okT_imp (fun _ h => nm_pc h) (fun _ h => nm_pc h) h) fig_pc he hc
/-- two parts with a blank between -/
theorem CutE.sp {a b : List Nat} {x y : List Str} (h : CutE a x) (g : CutE b y) : CutE (a ++ 32 :: b) (x ++ y) := fun l ts he hc => by
  have h1 := h (32 :: (b ++ l)) (y.map tl ++ ts) edge_32' (.blank (g l ts he hc))
  simpa [List.append_assoc] using h1
/-- two parts with a comma between -/
theorem CutE.cm {a b : List Nat} {x y : List Str} (h : CutE a x) (g : CutE b y) : CutE (a ++ 44 :: 32 :: b) (x ++ ("," : Str) :: y) := fun l ts he hc => by
  have h1 := h (44 :: 32 :: (b ++ l)) ([44] :: (y.map tl ++ ts)) edge_44' (cut_sign (.inr (.inr rfl)) (.blank (g l ts he hc)))
  have e : tl ("," : Str) = [44] := by decide +kernel
  simpa [List.append_assoc, e] using h1
theorem pc_eq : PcOk ("=" : Str) := OkBit.pc20 (bit_of (by decide +kernel))
theorem pc_ar : PcOk ("<-" : Str) := OkBit.pc20 (bit_of (by decide +kernel))
theorem pc_3 : PcOk ("3" : Str) := OkBit.pc20 (bit_of (by decide +kernel))
theorem pc_X : PcOk ("X" : Str) := OkBit.pc20 (bit_of (by decide +kernel))
/-- pieces that are short of brackets -/
structure Pz (z : List Str) (n : Nat) : Prop where
  bits : Bits z
  opn : Opn z 12
  len : z.length ≤ n
theorem Pz.one {z : Str} (h : OkBit (tl z)) (s : sgn z = false) : Pz [z] 1 := by
  have b := bit_br s
  exact ⟨.cons h .nil, (opn_name b.1 b.2).mono (by decide), Nat.le_refl _⟩
theorem Pz.app {a b : List Str} {n m : Nat} (h : Pz a n) (g : Pz b m) : Pz (a ++ b) (n + m) := ⟨h.bits.app g.bits, h.opn.app g.opn, by rw [List.length_append]; have := h.len; have := g.len; omega⟩
theorem Pz.mono {a : List Str} {n m : Nat} (h : Pz a n) (hm : n ≤ m) : Pz a m := ⟨h.bits, h.opn, Nat.le_trans h.len hm⟩
theorem Pz.most {a : List Str} {n : Nat} (h : Pz a n) : mostOpen a ≤ 12 := open_of h.opn (by decide) (by decide)
theorem pz_comma : Pz [("," : Str)] 1 := ⟨.cons (bit_of (by decide +kernel)) .nil, (opn_name (by decide +kernel) (by decide +kernel)).mono (by decide), Nat.le_refl _⟩
theorem pz_word {w : Str} (hw : FreeW [] w) : Pz [w] 1 := .one (nm_bit ⟨0, hw.1⟩) (by
  refine decide_eq_false fun hs => ?_
  obtain ⟨c, t, e, hh⟩ := hw.1
  have hc : c ∈ sS := by
    rcases hh with ⟨_, hc, _⟩ | ⟨h, _⟩ | ⟨h, _⟩
    · exact hc
    · exact absurd h (by decide)
    · exact absurd h (by decide)
  rw [sS_iff] at hc
  rcases hs with rfl | rfl | rfl
  · rw [show tl ("(" : Str) = [40] by decide +kernel] at e
    have := (List.cons.inj e).1
    omega
  · rw [show tl (")" : Str) = [41] by decide +kernel] at e
    have := (List.cons.inj e).1
    omega
  · rw [show tl ("," : Str) = [44] by decide +kernel] at e
    have := (List.cons.inj e).1
    omega)
/-- a thing of the law: its pieces -/
theorem pz_thing {w : Str} (hw : FreeW [] w) {u : Pt} (h : P21 w u) (hd : dpT u ≤ 13) : Pz (tokT (ownL ++ []) 9 u) (3 * szT u) := by
  have hl := tok_len u 9 (p21_rd hw u h)
  exact ⟨(tok_pcs u 9 (p21_nm hw u h)).bits, (opn_tok (tab_ok .nil).br u 9 (p21_rd hw u h)).mono (by omega), by omega⟩
theorem goal_like21 {a b : Pt} (ha : hasK a = false) (hb : hasK b = false) : goalP (.t "=" [a, b]) = true := by
  have : likeP (.t "=" [a, b]) = true := by
    show (namedP ["="] 2 (.t "=" [a, b]) && (!hasK a && !hasK b)) = true
    rw [ha, hb]
    rfl
  unfold goalP
  rw [this]
  simp
def eqP (u : Pt) : Pt := .t "=" [.s "X", u]
theorem eq_row : rowOf (ownL ++ []) ("=" : Str) 2 = some ⟨6, "none", "="⟩ := by
  have h : (rowOf (ownL ++ []) ("=" : Str) 2).map (fun o => (o.l, o.s, o.n)) = some ((6 : Int), ("none" : Str), ("=" : Str)) := by decide +kernel
  cases e : rowOf (ownL ++ []) ("=" : Str) 2 with
  | none =>
    rw [e] at h
    cases h
  | some o =>
    rw [e] at h
    obtain ⟨a, b, c⟩ := o
    have h := Option.some.inj h
    have h1 := congrArg Prod.fst h
    have h2 := congrArg (fun z => z.2.1) h
    have h3 := congrArg (fun z => z.2.2) h
    dsimp only at h1 h2 h3
    rw [h1, h2, h3]
theorem eq_tok {w : Str} (hw : FreeW [] w) {u : Pt} (h : P21 w u) : tokT (ownL ++ []) 9 (eqP u) = [("X" : Str), "="] ++ tokT (ownL ++ []) 9 u := by
  unfold eqP
  rw [tokT_two eq_row, decide_eq_false (show ¬ (6 : Int) > 9 by decide)]
  show tokT (ownL ++ []) 5 (.s "X") ++ ("=" : Str) :: tokT (ownL ++ []) 5 u = _
  rw [(p21_top hw (by decide) h).2, tokT]
  rfl
theorem eq_go {w : Str} (hw : FreeW [] w) {u : Pt} (h : P21 w u) : GoOk [] (eqP u) := .two (by unfold Own; decide +kernel) ⟨⟨1, nm_X⟩, .inl (cap_unk .nil nm_X)⟩ (p21_go hw h)
theorem eq_sz (u : Pt) : szT (eqP u) = szT u + 2 := by unfold eqP; simp [szT, szL]; omega
theorem eq_dp (u : Pt) : dpT (eqP u) = dpT u + 1 := by
  have := dpT_pos u
  unfold eqP
  simp [dpT, dpL]
  omega
theorem eq_kept (u : Pt) : hasK (eqP u) = true := by
  unfold eqP
  rw [hasK, decide_eq_true (show ("=" : Str) ∈ keptL by decide +kernel), Bool.true_or]
theorem eq_goal {w : Str} (hw : FreeW [] w) {u : Pt} (h : P21 w u) : goalP (eqP u) = true := goal_like21 rfl (p21_nk hw u h)
theorem eq_cut {w : Str} (hw : FreeW [] w) {u : Pt} (h : P21 w u) : CutE (tl ("X" : Str) ++ 32 :: (tl ("=" : Str) ++ 32 :: formT (ownL ++ []) 9 u)) (tokT (ownL ++ []) 9 (eqP u)) := by
  rw [eq_tok hw h]
  exact (CutE.one pc_X).sp ((CutE.one pc_eq).sp (.form (p21_nm hw u h)))
theorem pz_eq {w : Str} (hw : FreeW [] w) {u : Pt} (h : P21 w u) (hd : dpT u ≤ 13) : Pz (tokT (ownL ++ []) 9 (eqP u)) (2 + 3 * szT u) := by
  rw [eq_tok hw h]
  exact ((Pz.one (bit_of (by decide +kernel)) (by decide +kernel)).app (.one (bit_of (by decide +kernel)) (by decide +kernel))).app (pz_thing hw h hd)
theorem word_rel21 {w : Str} (hw : FreeW [] w) : relP (.s w) = true := by
  obtain ⟨⟨c, t, e, hc⟩, _⟩ := free_wd hw
  have h : wordS w = true := by
    unfold wordS
    rw [e]
    exact decide_eq_true hc
  show (!false && (wordS w || false)) = true
  rw [h]
  rfl
theorem rel_goal21 {u : Pt} (h : relP u = true) : goalP u = true := by
  unfold goalP
  rw [h]
  simp
/-- a goal or a head as it stands in the text -/
structure It (t : List Nat) (p : Pt) (n : Nat) : Prop where
  cut : CutE t (tokT (ownL ++ []) 9 p)
  go : GoOk [] p
  sz : szT p ≤ 800
  dp : dpT p ≤ 20
  pz : Pz (tokT (ownL ++ []) 9 p) n
theorem It.rd {t : List Nat} {p : Pt} {n : Nat} (h : It t p n) : Rd [] p (tokT (ownL ++ []) 9 p) := tok_rd .nil h.go h.sz h.dp
theorem p21_word {w : Str} : P21 w (.s w) := by
  rw [P21]
  exact .inl rfl
theorem it_word {w : Str} (hw : FreeW [] w) : It (tl w) (.s w) 1 := ⟨.form (p21_nm hw _ p21_word), p21_go hw p21_word, by simp [szT], by simp [dpT], pz_word hw⟩
theorem tok_three : tokT (ownL ++ []) 9 (.i 3) = [("3" : Str)] := by
  show [figS 3] = _
  exact congrArg (fun z => [z]) (by decide +kernel)
theorem it_three : It [51] (.i 3) 1 := ⟨by
  rw [tok_three]
  have h := CutE.one pc_3
  rwa [show tl ("3" : Str) = [51] by decide +kernel] at h, ⟨show (3 : Int).natAbs < 10 ^ 60 by decide, ⟨by decide, fig_no .nil 3 1⟩⟩, by decide, by decide, by
  rw [tok_three]
  exact .one (bit_of (by decide +kernel)) (by decide +kernel)⟩
theorem it_thing {w : Str} (hw : FreeW [] w) {u : Pt} (h : P21 w u) (hs : szT u ≤ 100) (hd : dpT u ≤ 13) : It (formT (ownL ++ []) 9 u) u (3 * szT u - 1) := ⟨.form (p21_nm hw u h), p21_go hw h, by omega, by omega, (pz_thing hw h hd).bits, (pz_thing hw h hd).opn, by have := tok_len u 9 (p21_rd hw u h); omega⟩
theorem it_eq {w : Str} (hw : FreeW [] w) {u : Pt} (h : P21 w u) (hs : szT u ≤ 100) (hd : dpT u ≤ 13) : It (88 :: 32 :: 61 :: 32 :: formT (ownL ++ []) 9 u) (eqP u) (3 * szT u + 1) := ⟨eq_cut hw h, eq_go hw h, by rw [eq_sz]; omega, by rw [eq_dp]; omega, (pz_eq hw h hd).bits, (pz_eq hw h hd).opn, by
  rw [eq_tok hw h]
  have := tok_len u 9 (p21_rd hw u h)
  show (tokT (ownL ++ []) 9 u).length + 1 + 1 ≤ _
  omega⟩
/-- goals one behind the other -/
def Its (L : List (List Nat × Pt × Nat)) : Prop := ∀ q ∈ L, It q.1 q.2.1 q.2.2
theorem head_op {u : Pt} {z y : List Str} (h : Rd [] u z) : headZ (z ++ y) ≠ ("op" : Str) := by
  obtain ⟨h1, h2⟩ := clause_first (t := y) .nil h
  cases e : z ++ y with
  | nil => exact absurd e h1
  | cons a r => exact (h2 a r e).1
theorem its1 {q : List Nat × Pt × Nat} (h : It q.1 q.2.1 q.2.2) : Its [q] := fun x hx => by
  rw [List.mem_singleton.mp hx]
  exact h
theorem its2 {q1 q2 : List Nat × Pt × Nat} (h : It q1.1 q1.2.1 q1.2.2) (h2 : It q2.1 q2.2.1 q2.2.2) : Its [q1, q2] := fun x hx => (List.mem_cons.mp hx).elim (fun e => e ▸ h) fun hx => its1 h2 x hx
theorem its3 {q1 q2 q3 : List Nat × Pt × Nat} (h : It q1.1 q1.2.1 q1.2.2) (h2 : It q2.1 q2.2.1 q2.2.2) (h3 : It q3.1 q3.2.1 q3.2.2) : Its [q1, q2, q3] := fun x hx => (List.mem_cons.mp hx).elim (fun e => e ▸ h) fun hx => its2 h2 h3 x hx
theorem its4 {q1 q2 q3 q4 : List Nat × Pt × Nat} (h : It q1.1 q1.2.1 q1.2.2) (h2 : It q2.1 q2.2.1 q2.2.2) (h3 : It q3.1 q3.2.1 q3.2.2) (h4 : It q4.1 q4.2.1 q4.2.2) : Its [q1, q2, q3, q4] := fun x hx => (List.mem_cons.mp hx).elim (fun e => e ▸ h) fun hx => its3 h2 h3 h4 x hx
def gzs21 (L : List (List Nat × Pt × Nat)) : List (List Str) := L.map fun q => tokT (ownL ++ []) 9 q.2.1
theorem cut_goals21 : ∀ {L : List (List Nat × Pt × Nat)} {t : List Nat} {z : List Str}, Its L → CutE t z → CutE (t ++ L.flatMap fun q => 44 :: 32 :: q.1) (z ++ (gzs21 L).flatMap fun q => ("," : Str) :: q)
  | [], t, z, _, h => by
    show CutE (t ++ []) (z ++ [])
    rwa [List.append_nil, List.append_nil]
  | q :: r, t, z, H, h => by
    have h1 := cut_goals21 (L := r) (fun x hx => H x (List.mem_cons_of_mem _ hx)) (h.cm (H q (List.mem_cons_self ..)).cut)
    have e1 : t ++ (q :: r).flatMap (fun q => 44 :: 32 :: q.1) = (t ++ 44 :: 32 :: q.1) ++ r.flatMap fun q => 44 :: 32 :: q.1 := by
      rw [List.flatMap_cons, List.append_assoc]
    have e2 : z ++ (gzs21 (q :: r)).flatMap (fun q => ("," : Str) :: q) = (z ++ ("," : Str) :: tokT (ownL ++ []) 9 q.2.1) ++ (gzs21 r).flatMap fun q => ("," : Str) :: q := by
      show z ++ (tokT (ownL ++ []) 9 q.2.1 :: gzs21 r).flatMap _ = _
      rw [List.flatMap_cons, List.append_assoc]
    rw [e1, e2]
    exact h1
theorem pz_goals21 : ∀ {L : List (List Nat × Pt × Nat)} {z : List Str} {n : Nat}, Its L → Pz z n → Pz (z ++ (gzs21 L).flatMap fun q => ("," : Str) :: q) (n + (L.map fun q => q.2.2 + 1).sum)
  | [], z, n, _, h => by
    show Pz (z ++ []) (n + 0)
    rwa [List.append_nil]
  | q :: r, z, n, H, h => by
    have h1 := pz_goals21 (L := r) (fun x hx => H x (List.mem_cons_of_mem _ hx)) (h.app (pz_comma.app (H q (List.mem_cons_self ..)).pz))
    have e2 : z ++ (gzs21 (q :: r)).flatMap (fun q => ("," : Str) :: q) = (z ++ ([("," : Str)] ++ tokT (ownL ++ []) 9 q.2.1)) ++ (gzs21 r).flatMap fun q => ("," : Str) :: q := by
      show z ++ (tokT (ownL ++ []) 9 q.2.1 :: gzs21 r).flatMap _ = _
      rw [List.flatMap_cons, List.append_assoc]
      rfl
    rw [e2]
    refine h1.mono ?_
    rw [List.map_cons, List.sum_cons]
    omega
/-- a line and what is told of it at a door -/
structure Fin21 (door : Int) (t : List Nat) (o : Out) : Prop where
  ex : ∃ zs : List Str, Cut t (zs.map tl) ∧ (∀ z ∈ zs, OkBit (tl z)) ∧ zs.length ≤ 200 ∧ mostOpen zs ≤ 12 ∧ DoorR door zs o
def due21 (h : Pt) (gs : List Pt) : Out := if gs.all goalP = false then .shape else if (h :: gs).any bigB = true then .size else .told (clauseT h gs)
/-- a clause with goals -/
theorem fin_cl {door : Int} (hd : 3 ≤ door) {h : List Nat × Pt × Nat} {q : List Nat × Pt × Nat} {r : List (List Nat × Pt × Nat)} (H : It h.1 h.2.1 h.2.2) (hr : relP h.2.1 = true) (Q : Its (q :: r)) (hl : (q :: r).length ≤ 6) (hn : h.2.2 + 1 + q.2.2 + (r.map fun q => q.2.2 + 1).sum ≤ 200) :
    Fin21 door (h.1 ++ 32 :: 60 :: 45 :: 32 :: (q.1 ++ r.flatMap fun q => 44 :: 32 :: q.1)) (due21 h.2.1 ((q :: r).map fun q => q.2.1)) := by
  have Q0 := Q q (List.mem_cons_self ..)
  have Qr : Its r := fun x hx => Q x (List.mem_cons_of_mem _ hx)
  have c := H.cut.sp ((CutE.one pc_ar).sp (cut_goals21 Qr Q0.cut))
  rw [show tl ("<-" : Str) = [60, 45] by decide +kernel] at c
  have p := H.pz.app ((Pz.one (z := ("<-" : Str)) (bit_of (by decide +kernel)) (by decide +kernel)).app (pz_goals21 Qr Q0.pz))
  have line := clause_any .nil (h := h.2.1) (gs := (q :: r).map fun q => q.2.1) (gzs := gzs21 (q :: r)) H.rd hr (by rw [gzs21, List.length_map, List.length_map]) (by rw [List.length_map]; exact hl) fun i g z h1 h2 => by
    rw [List.getElem?_map] at h1
    rw [gzs21, List.getElem?_map] at h2
    obtain ⟨x, hx, rfl⟩ := Option.map_eq_some_iff.mp h1
    rw [hx] at h2
    rw [← Option.some.inj h2]
    exact (Q x (List.mem_of_getElem? hx)).rd
  have ez : tokT (ownL ++ []) 9 h.2.1 ++ goalsZ (gzs21 (q :: r)) = tokT (ownL ++ []) 9 h.2.1 ++ ([("<-" : Str)] ++ (tokT (ownL ++ []) 9 q.2.1 ++ (gzs21 r).flatMap fun q => ("," : Str) :: q)) := rfl
  rw [ez] at line
  have hop : headZ (tokT (ownL ++ []) 9 h.2.1 ++ ([("<-" : Str)] ++ (tokT (ownL ++ []) 9 q.2.1 ++ (gzs21 r).flatMap fun q => ("," : Str) :: q))) ≠ ("op" : Str) := head_op H.rd
  exact ⟨⟨_, c.all, p.bits, by have := p.len; omega, p.most, ⟨fun e => by omega, fun e => by omega, fun _ => ⟨line, hop⟩⟩⟩⟩
/-- a clause without goals -/
theorem fin_head {door : Int} (hd : 3 ≤ door) {t : List Nat} {u : Pt} {n : Nat} (H : It t u n) (hr : relP u = true) (hn : n ≤ 200) : Fin21 door t (due21 u []) := by
  have line := clause_any .nil (h := u) (gs := []) (gzs := []) H.rd hr rfl (by decide) fun i g z h1 _ => by
    rw [List.getElem?_nil] at h1
    cases h1
  have hop : headZ (tokT (ownL ++ []) 9 u ++ goalsZ []) ≠ ("op" : Str) := head_op H.rd
  rw [show goalsZ [] = [] from rfl, List.append_nil (tokT (ownL ++ []) 9 u)] at line hop
  exact ⟨⟨_, H.cut.all, H.pz.bits, by have := H.pz.len; omega, H.pz.most, ⟨fun e => by omega, fun e => by omega, fun _ => ⟨line, hop⟩⟩⟩⟩
/-- a thing read as a pattern -/
theorem fin_read {t : List Nat} {u : Pt} {n : Nat} (H : It t u n) (hk : hasK u = false) (hn : n ≤ 200) : Fin21 0 t (if bigB u = true then .size else .told (tvP u)) := by
  refine ⟨⟨_, H.cut.all, H.pz.bits, by have := H.pz.len; omega, H.pz.most, ⟨fun _ => ⟨u, H.rd.rdo .nil, H.sz, .inr ?_⟩, fun e => by omega, fun e => by omega⟩⟩⟩
  by_cases hb : bigB u = true
  · rw [if_pos hb]
    exact .inl ⟨hk, bigB_iff.mp hb, rfl⟩
  · rw [if_neg hb]
    have : ¬ big u := fun h => hb (bigB_iff.mpr h)
    unfold big at this
    exact .inr ⟨hk, by omega, by omega, rfl⟩
theorem fin_kept {t : List Nat} {u : Pt} {n : Nat} (H : It t u n) (hk : hasK u = true) (hn : n ≤ 200) : Fin21 0 t .shape := ⟨⟨_, H.cut.all, H.pz.bits, by have := H.pz.len; omega, H.pz.most, ⟨fun _ => ⟨u, H.rd.rdo .nil, H.sz, .inl ⟨hk, rfl⟩⟩, fun e => by omega, fun e => by omega⟩⟩⟩
/-- a thing read as a goal -/
theorem fin_goal {door : Int} (hd : door = 1 ∨ door = 2) {t : List Nat} {u : Pt} {n : Nat} (H : It t u n) (hg : goalP u = true) (hn : n ≤ 200) : Fin21 door t (if bigB u = true then .size else .told (tvP u)) := by
  refine ⟨⟨_, H.cut.all, H.pz.bits, by have := H.pz.len; omega, H.pz.most, ⟨fun e => by omega, fun _ => ⟨u, H.rd.rdo .nil, go_okp H.go, H.sz, H.dp, hg, ?_⟩, fun e => by omega⟩⟩⟩
  by_cases hb : bigB u = true
  · rw [if_pos hb]
    exact .inl ⟨bigB_iff.mp hb, rfl⟩
  · rw [if_neg hb]
    have : ¬ big u := fun h => hb (bigB_iff.mpr h)
    unfold big at this
    exact .inr ⟨by omega, by omega, rfl⟩
theorem big_word {w : Str} : bigB (.s w) = false := decide_eq_false (by simp [szT, dpT])
/-- a goal among others -/
theorem fin_many {w : Str} (hw : FreeW [] w) {door : Int} (hd : 3 ≤ door) {t : List Nat} {m : Pt} {n : Nat} (H : It t m n) (hg : goalP m = true) (hn : n ≤ 188) {a : Nat} (ha : a ≤ 2) (bad : Int) :
    Fin21 door (tl w ++ (32 :: 60 :: 45 :: 32 :: ((List.replicate a (tl w ++ [44, 32])).flatten ++ ((if bad = 0 then [51, 44, 32] else []) ++ (t ++ if bad = 1 then [44, 32, 51] else [])))))
      (if bad = 0 ∨ bad = 1 then .shape else if bigB m = true then .size else .told (clauseT (.s w) (List.replicate a (.s w) ++ [m]))) := by
  have W := it_word hw
  have N3 : goalP (.i 3) = false := by decide +kernel
  have gw := rel_goal21 (word_rel21 hw)
  have bw := big_word (w := w)
  by_cases b0 : bad = 0
  · have go : ∀ {q : List Nat × Pt × Nat} {r : List (List Nat × Pt × Nat)}, Its (q :: r) → (q :: r).length ≤ 6 → 1 + 1 + q.2.2 + (r.map fun q => q.2.2 + 1).sum ≤ 200 → ((q :: r).map fun q => q.2.1).all goalP = false → Fin21 door (tl w ++ 32 :: 60 :: 45 :: 32 :: (q.1 ++ r.flatMap fun q => 44 :: 32 :: q.1)) .shape := fun {q r} h1 h2 h3 h4 => by
      have := fin_cl hd (h := (tl w, .s w, 1)) W (word_rel21 hw) h1 h2 h3
      unfold due21 at this
      rwa [if_pos h4] at this
    rw [if_pos (show bad = 0 ∨ bad = 1 from .inl b0), if_pos b0, if_neg (show ¬ bad = 1 by omega), List.append_nil t]
    have e : a = 0 ∨ a = 1 ∨ a = 2 := by omega
    rcases e with rfl | rfl | rfl
    · have := go (q := ([51], .i 3, 1)) (r := [(t, m, n)]) (its2 it_three H) (by simp) (by simp; omega) (by simp [N3])
      simpa [List.append_assoc] using this
    · have := go (q := (tl w, .s w, 1)) (r := [([51], .i 3, 1), (t, m, n)]) (its3 W it_three H) (by simp) (by simp; omega) (by simp [N3])
      simpa [List.append_assoc] using this
    · have := go (q := (tl w, .s w, 1)) (r := [(tl w, .s w, 1), ([51], .i 3, 1), (t, m, n)]) (its4 W W it_three H) (by simp) (by simp; omega) (by simp [N3])
      simpa [List.append_assoc, List.replicate] using this
  by_cases b1 : bad = 1
  · have go : ∀ {q : List Nat × Pt × Nat} {r : List (List Nat × Pt × Nat)}, Its (q :: r) → (q :: r).length ≤ 6 → 1 + 1 + q.2.2 + (r.map fun q => q.2.2 + 1).sum ≤ 200 → ((q :: r).map fun q => q.2.1).all goalP = false → Fin21 door (tl w ++ 32 :: 60 :: 45 :: 32 :: (q.1 ++ r.flatMap fun q => 44 :: 32 :: q.1)) .shape := fun {q r} h1 h2 h3 h4 => by
      have := fin_cl hd (h := (tl w, .s w, 1)) W (word_rel21 hw) h1 h2 h3
      unfold due21 at this
      rwa [if_pos h4] at this
    rw [if_pos (show bad = 0 ∨ bad = 1 from .inr b1), if_neg b0, if_pos b1, List.nil_append]
    have e : a = 0 ∨ a = 1 ∨ a = 2 := by omega
    rcases e with rfl | rfl | rfl
    · have := go (q := (t, m, n)) (r := [([51], .i 3, 1)]) (its2 H it_three) (by simp) (by simp; omega) (by simp [N3])
      simpa [List.append_assoc] using this
    · have := go (q := (tl w, .s w, 1)) (r := [(t, m, n), ([51], .i 3, 1)]) (its3 W H it_three) (by simp) (by simp; omega) (by simp [N3])
      simpa [List.append_assoc] using this
    · have := go (q := (tl w, .s w, 1)) (r := [(tl w, .s w, 1), (t, m, n), ([51], .i 3, 1)]) (its4 W W H it_three) (by simp) (by simp; omega) (by simp [N3])
      simpa [List.append_assoc, List.replicate] using this
  rw [if_neg (show ¬ (bad = 0 ∨ bad = 1) by omega), if_neg b0, if_neg b1, List.nil_append, List.append_nil t]
  have go : ∀ {q : List Nat × Pt × Nat} {r : List (List Nat × Pt × Nat)}, Its (q :: r) → (q :: r).length ≤ 6 → 1 + 1 + q.2.2 + (r.map fun q => q.2.2 + 1).sum ≤ 200 → ((q :: r).map fun q => q.2.1).all goalP = true → ((q :: r).map fun q => q.2.1).any bigB = bigB m → Fin21 door (tl w ++ 32 :: 60 :: 45 :: 32 :: (q.1 ++ r.flatMap fun q => 44 :: 32 :: q.1)) (if bigB m = true then .size else .told (clauseT (.s w) ((q :: r).map fun q => q.2.1))) := fun {q r} h1 h2 h3 h4 h5 => by
    have := fin_cl hd (h := (tl w, .s w, 1)) W (word_rel21 hw) h1 h2 h3
    unfold due21 at this
    rw [if_neg (by rw [h4]; simp), List.any_cons, h5] at this
    rwa [show bigB ((tl w, Pt.s w, 1) : List Nat × Pt × Nat).2.1 = false from bw, Bool.false_or] at this
  have e : a = 0 ∨ a = 1 ∨ a = 2 := by omega
  rcases e with rfl | rfl | rfl
  · have := go (q := (t, m, n)) (r := []) (its1 H) (by simp) (by simp; omega) (by simp [hg]) (by simp)
    simpa [List.append_assoc] using this
  · have := go (q := (tl w, .s w, 1)) (r := [(t, m, n)]) (its2 W H) (by simp) (by simp; omega) (by simp [hg, gw]) (by simp [bw])
    simpa [List.append_assoc] using this
  · have := go (q := (tl w, .s w, 1)) (r := [(tl w, .s w, 1), (t, m, n)]) (its3 W W H) (by simp) (by simp; omega) (by simp [hg, gw]) (by simp [bw])
    simpa [List.append_assoc, List.replicate] using this
/-- a head with goals that are none -/
theorem fin_door3 {w : Str} (hw : FreeW [] w) {t : List Nat} {u : Pt} {n : Nat} (H : It t u n) (hr : relP u = true) (hn : n ≤ 190) : Fin21 3 (t ++ (32 :: 60 :: 45 :: 32 :: (tl w ++ [44, 32, 51]))) .shape := by
  have := fin_cl (door := 3) (by decide) (h := (t, u, n)) (q := (tl w, .s w, 1)) (r := [([51], .i 3, 1)]) H hr (its2 (it_word hw) it_three) (by simp) (by simp; omega)
  unfold due21 at this
  rw [if_pos (by simp [show goalP (.i 3) = false by decide +kernel])] at this
  simpa [List.append_assoc] using this
end Gs
-- plain
namespace Gs
open PySem PySem.Spec PyProof.Rows L2 TL SrtK
abbrev s_law : Stmt := PySem.Challenge.pw_goalstead_k21_sizes_as_read.main.body.getD 103 (.Pass ⟨0, 0, 0, 0⟩)
theorem sc_law : FnScope ["script", "pool", "word", "thing", "door", "made", "line", "due", "bad", "ahead", "found"] ["script"] (defScope s_law) := ⟨rfl, rfl, rfl, by decide +kernel, rfl, by decide +kernel, by decide +kernel⟩
theorem exm_sub21 {K : PySem.W.Frag} {A S : Addr} {b : Bool} (h1 : PySem.W.subIn K (.ref S) (.type "BaseException") = some true) (h2 : PySem.W.isClsIn K S = true) (h3 : PySem.W.typeIn K (.ref S) = some (.type "type")) (h4 : PySem.W.subIn K (.ref A) (.ref S) = some b) : PySem.W.exmOne K (.ref A) (.ref S) = some b := by
  have h2' : (PySem.W.clsIn K S).isSome = true := h2
  unfold PySem.W.exmOne
  simp only [h1, BEq.rfl, if_true]
  unfold PySem.W.kitCls
  simp only [h3, h4, h2', BEq.rfl, Bool.and_self, if_true]
theorem mul21 {z : Str} {n : Int} (hz : z.length ≤ 1000) (h0 : 0 ≤ n) (h2 : n ≤ 2) : MulOk z n ∧ tl (Txt.mul z n) = (List.replicate n.toNat (tl z)).flatten := by
  have e0 : z.length = 0 → tl z = [] := fun e => List.eq_nil_of_length_eq_zero (by rw [tl_lenP]; exact e)
  rcases (show n = 0 ∨ n = 1 ∨ n = 2 by omega) with rfl | rfl | rfl
  · refine ⟨⟨by decide, fun h => absurd (by decide) h, fun h => absurd (by decide) h⟩, ?_⟩
    unfold Txt.mul
    rw [if_pos (by decide)]
    rfl
  · refine ⟨⟨by decide, fun _ h => by simp at h, fun _ h => by simp at h⟩, ?_⟩
    unfold Txt.mul
    rw [if_neg (by decide), if_pos (by simp)]
    show tl z = tl z ++ []
    rw [List.append_nil]
  · refine ⟨⟨by decide, fun _ _ => by omega, fun _ _ => decide_eq_false (by rw [sizeLine_eq]; show ¬ z.length * 2 > _; omega)⟩, ?_⟩
    unfold Txt.mul
    rw [if_neg (by decide)]
    by_cases c : z.length = 0
    · rw [if_pos (by rw [c]; rfl), e0 c]
      rfl
    · rw [if_neg (by simp [c])]
      show ((#[] ++ z.cps) ++ z.cps).toList = z.cps.toList ++ (z.cps.toList ++ [])
      simp
theorem x_mul21 {H : Hp} {Q : VK} {z : Str} {n : Int} (hz : z.length ≤ 1000) (h0 : 0 ≤ n) (h2 : n ≤ 2) (q : ∀ y, tl y = (List.replicate n.toNat (tl z)).flatten → y.length ≤ 2 * z.length → Q (.str y) H) : rStrMul (.str z) (.int n) H Q := x_mul (mul21 hz h0 h2).1 (q _ (mul21 hz h0 h2).2 (by
  rw [← tl_lenP, (mul21 hz h0 h2).2, List.length_flatten, List.map_replicate, List.sum_replicate_nat, tl_lenP]
  exact Nat.mul_le_mul_right _ (by omega)))
theorem x_rep21 {K : PySem.W.Frag} {H : Hp} {Q : VK} {r : Addr} {x : V} {k : Int} (s : SqT K H r [x]) (h0 : 0 ≤ k) (h2 : k ≤ 2) (q : ∀ r' H', Same H H' → SqT K H' r' (List.replicate k.toNat x) → Q (.ref r') H') : rRepA K (.ref r) (.int k) H Q := by
  refine ⟨r, k, [x], rfl, rfl, s, by simp, h0, by omega, by simp, fun e => ?_, fun _ p np => ?_⟩
  · subst e
    exact q _ _ (fun _ _ e => e) s
  · refine q p _ (same_upd np) ?_
    have e : (List.replicate k.toNat [x]).flatten = List.replicate k.toNat x := by simp
    rw [e]
    exact .of upd_same
theorem same_kx21 {A B C : Hp} {p l : Addr} (s : Same A B) (np : A p = none) (nl : A l = none) (k : Kx p l B C) : Same A C := fun c o e => k c o (s c o e) (ne_of_none e np) (ne_of_none e nl)
theorem pool_kx21 {H H' : Hp} {p l p1 l1 : Addr} {c : Int} (Q : PoolAt H p1 l1 c) (k : Kx p l H H') (h1 : p1 ≠ p ∧ p1 ≠ l) (h2 : l1 ≠ p ∧ l1 ≠ l) : PoolAt H' p1 l1 c := by
  obtain ⟨a, n, s, ns, e1, e2, r⟩ := Q.ex
  exact ⟨a, n, s, ns, k _ _ e1 h1.1 h1.2, k _ _ e2 h2.1 h2.2, r⟩
theorem It.mono21 {t : List Nat} {p : Pt} {n k : Nat} (h : It t p n) (hk : n ≤ k) : It t p k := ⟨h.cut, h.go, h.sz, h.dp, h.pz.mono hk⟩
theorem pts_two21 {K : PySem.W.Frag} {H : Hp} {k : Nat} {x y : V} {u v : Pt} (h : PtAt K H k x u) (g : PtAt K H k y v) : PtsAt K H k [x, y] [u, v] := .append (vs := [x]) (ps := [u]) (.one h) (.one g)
theorem tvs_rep21 {K : PySem.W.Frag} {H : Hp} {k n : Nat} {w : Str} {x : V} {m : Pt} (h : TvAt K H (k + 1) x (tvP m)) : TvsAt K H (k + 1) (List.replicate n (.str w) ++ [x]) (tvL (List.replicate n (.s w) ++ [m])) := by
  induction n with
  | zero => exact tvs_cons h tvs_nil
  | succ n ih => exact tvs_s ih
/-- the thing of the law as it is set at its door -/
structure Md21 (w : Str) (door : Int) (u m : Pt) (t : List Nat) : Prop where
  it : It t m 187
  gp : goalP m = true
  one : door = 0 ∨ door = 1 ∨ door = 3 ∨ door = 4 → m = u ∧ t = formT (ownL ++ []) 9 u
def EndS (K : PySem.W.Frag) (G : Hp) (door : Int) (z due : Str) (x : V) : Prop := z.length ≤ 30000 ∧ ∃ o, Fin21 door (tl z) o ∧ ((o = .shape ∧ due = ("shape" : Str)) ∨ (o = .size ∧ due = ("size" : Str)) ∨ ∃ t, o = .told t ∧ due = ("told" : Str) ∧ TvAt K G 24 x t)
theorem EndS.of {K : PySem.W.Frag} {G : Hp} {door : Int} {z : Str} {x : V} {m : Pt} {t : Tv} (hl : z.length ≤ 30000) (f : Fin21 door (tl z) (if bigB m = true then .size else .told t)) (h : TvAt K G 24 x t) : EndS K G door z (dueB m) x := by
  refine ⟨hl, _, f, ?_⟩
  unfold dueB
  by_cases c : bigB m = true
  · rw [if_pos c, if_pos c]
    exact .inr (.inl ⟨rfl, rfl⟩)
  · rw [if_neg c, if_neg c]
    exact .inr (.inr ⟨_, rfl, rfl, h⟩)
theorem EndS.shape {K : PySem.W.Frag} {G : Hp} {door : Int} {z : Str} {x : V} (hl : z.length ≤ 30000) (f : Fin21 door (tl z) .shape) : EndS K G door z "shape" x := ⟨hl, _, f, .inl ⟨rfl, rfl⟩⟩
theorem EndS.same {K : PySem.W.Frag} {G G' : Hp} {door : Int} {z due : Str} {x : V} (h : EndS K G door z due x) (s : Same G G') : EndS K G' door z due x := by
  obtain ⟨hl, o, f, h⟩ := h
  exact ⟨hl, o, f, h.imp id fun h => h.imp id fun ⟨t, e1, e2, h⟩ => ⟨t, e1, e2, h.same s⟩⟩
theorem eq_len21 {w : Str} (hw : FreeW [] w) {u : Pt} (h : P21 w u) (hs : szT u ≤ 62) : (formT (ownL ++ []) 9 u).length ≤ 5000 := by
  have := formT_len (R := ownL ++ []) 9 u (okT_imp (fun _ h => NmOk.len h) (fun _ h => NmOk.len h) (p21_nm hw u h))
  omega
section
variable {P : Program} {w : World} {K : PySem.W.Frag} {mg : Str → Option Value} {base : Heap} {f BS BZ : Addr} {fd : FuncData}
def HasPool (P : Program) (w : World) (K : PySem.W.Frag) (mg : Str → Option Value) (base : Heap) : Prop := Has P w K mg base 1 "_law_pool" ["script", "k"] (spPool K)
theorem ok_law (F : Fun K "law" "law" s_law f fd) (T : Txt mg) (C_law_pool : HasPool P w K mg base) (C_law_name : HasName P w K mg base) (C_law_free : HasFree P w K mg base) (C_law_take : HasTake P w K mg base) (C_law_flat : HasFlat21 4 P w K mg base) (C_law_chain : HasChain21 P w K mg base) (C_law_text : HasText21 13 P w K mg base) (C_law_weight : HasWt 16 P w K mg base) (C_law_told : HasTold21 P w K mg base) (C_law_alike : HasAlike 24 P w K mg base) :
    FnOk P w K mg base CX0 175 f fd ["script"] (spLaw K) := by
  refine F.ok sc_law (fun vs H Q E h => ?_) (fun cdv A outer s H vs Q E hr h => ?_)
  · obtain ⟨a, ns, rfl, _⟩ := h
    rfl
  obtain ⟨a, ns, rfl, hS, hlen, q⟩ := h
  refine ⟨_, (pss_cons (ps_set (i := 1) sc_law.nd rfl (Or.inl rfl) (pe_callH C_law_pool hr (pa_cons (pv 0) (pa_cons pe_int pa_nil))))
    (pss_cons (ps_set (i := 2) sc_law.nd rfl (Or.inl rfl) (pe_callH C_law_free hr (pa_cons (pe_callH C_law_name hr (pa_cons (pv 1) (pa_cons pe_int pa_nil))) (pa_cons (pe_lst pa_nil) pa_nil))))
    (pss_cons (ps_set (i := 3) sc_law.nd rfl (Or.inl rfl) (pe_callH C_law_flat hr (pa_cons (pe_op op_add pe_int (pe_callH C_law_take hr (pa_cons (pv 1) (pa_cons pe_int pa_nil)))) (pa_cons (pv 2) (pa_cons pe_str pa_nil)))))
    (Evl.pss_cut (ps_if (pt_cmpR op_eq (pe_callH C_law_take hr (pa_cons (pv 1) (pa_cons pe_int pa_nil))) pe_int (nomark _))
      (pss_one (ps_set (i := 3) sc_law.nd rfl (Or.inl rfl) (pe_callH C_law_chain hr (pa_cons (pe_callH C_law_pool hr (pa_cons (pv 0) (pa_cons pe_int pa_nil))) (pa_cons (pe_op op_add pe_int (pe_callH C_law_take hr (pa_cons (pv 1) (pa_cons pe_int pa_nil)))) (pa_cons (pv 2) pa_nil))))))
      pss_nil)
    (pss_cons (ps_set (i := 4) sc_law.nd rfl (Or.inl rfl) (pe_callH C_law_take hr (pa_cons (pv 1) (pa_cons pe_int pa_nil))))
    (pss_cons (ps_set (i := 5) sc_law.nd rfl (Or.inl rfl) (pv 3))
    (pss_cons (ps_set (i := 6) sc_law.nd rfl (Or.inl rfl) (pe_callH C_law_text hr (pa_cons (pv 3) pa_nil)))
    (Evl.pss_cut (ps_if (PW.pt (pw_or (pt_cmpR op_eq (pv 4) pe_int (nomark _)) (pw_or1 (pt_cmpR op_gt (pv 4) pe_int (nomark _)))))
      (pss_cons (ps_set (i := 5) sc_law.nd rfl (Or.inl rfl) (pe_tup (pa_cons pe_str (pa_cons pe_str (pa_cons (pv 3) pa_nil)))))
    (pss_one (ps_set (i := 6) sc_law.nd rfl (Or.inl rfl) (pe_op op_add_str pe_str (pv 6)))))
      pss_nil)
    (pss_cons (ps_set (i := 7) sc_law.nd rfl (Or.inl rfl) pe_str)
    (Evl.pss_cut (ps_if (PW.pt (pw_or (pt_cmpR op_gt (pe_ix (ix_tupK (K := K)) (pe_callH C_law_weight hr (pa_cons (pv 5) pa_nil)) pe_int (fun _ _ => rfl)) pe_int (nomark _)) (pw_or1 (pt_cmpR op_gt (pe_ix (ix_tupK (K := K)) (pe_callH C_law_weight hr (pa_cons (pv 5) pa_nil)) pe_int (fun _ _ => rfl)) pe_int (nomark _)))))
      (pss_one (ps_set (i := 7) sc_law.nd rfl (Or.inl rfl) pe_str))
      pss_nil)
    (pss_cons (ps_set (i := 8) sc_law.nd rfl (Or.inl rfl) (pe_callH C_law_take hr (pa_cons (pv 1) (pa_cons pe_int pa_nil))))
    (Evl.pss_cut (ps_if (PW.pt (pw_and (pt_cmpR op_eq (pv 4) pe_int (nomark _)) (pw_and1 (pt_cmpR op_lt (pv 8) pe_int (nomark _)))))
      (pss_cons (ps_set (i := 6) sc_law.nd rfl (Or.inl rfl) (pe_op op_add_str pe_str (pv 6)))
    (pss_one (ps_set (i := 7) sc_law.nd rfl (Or.inl rfl) pe_str)))
      pss_nil)
    (Evl.pss_cut (ps_if (pt_cmpR op_eq (pv 4) pe_int (nomark _))
      (pss_cons (ps_set (i := 5) sc_law.nd rfl (Or.inl rfl) (pe_tup (pa_cons pe_str (pa_cons (pv 3) (pa_cons (pe_tup pa_nil) pa_nil)))))
    (pss_one (ps_if (pt_cmpR op_lt (pv 8) pe_int (nomark _))
      (pss_cons (ps_set (i := 6) sc_law.nd rfl (Or.inl rfl) (pe_op op_add_str (pe_op op_add_str (pe_op op_add_str (pv 6) pe_str) (pv 2)) pe_str))
    (pss_one (ps_set (i := 7) sc_law.nd rfl (Or.inl rfl) pe_str)))
      pss_nil)))
      pss_nil)
    (Evl.pss_cut (ps_if (pt_cmpR op_gt (pv 4) pe_int (nomark _))
      (pss_cons (ps_set (i := 9) sc_law.nd rfl (Or.inl rfl) (pe_callH C_law_take hr (pa_cons (pv 1) (pa_cons pe_int pa_nil))))
    (pss_cons (ps_set (i := 6) sc_law.nd rfl (Or.inl rfl) (pe_op op_add_str (pe_op op_add_str (pe_op op_add_str (pe_op op_add_str (pe_op op_add_str (pv 2) pe_str) (pe_op op_strMul (pe_op op_add_str (pv 2) pe_str) (pv 9))) (pe_op op_strMul pe_str (pe_callTy call_int1 (by rfl) T.z_int (by decide +kernel) (pa_cons (pe_cmpR op_eq (pv 8) pe_int (nomark _)) pa_nil)))) (pv 6)) (pe_op op_strMul pe_str (pe_callTy call_int1 (by rfl) T.z_int (by decide +kernel) (pa_cons (pe_cmpR op_eq (pv 8) pe_int (nomark _)) pa_nil)))))
    (pss_cons (ps_set (i := 5) sc_law.nd rfl (Or.inl rfl) (pe_tup (pa_cons pe_str (pa_cons (pv 2) (pa_cons (pe_op op_catA (pe_op op_repA (pe_tup (pa_cons (pv 2) pa_nil)) (pv 9)) (pe_tup (pa_cons (pv 5) pa_nil))) pa_nil)))))
    (pss_one (ps_if (pt_cmpR op_lt (pv 8) pe_int (nomark _))
      (pss_one (ps_set (i := 7) sc_law.nd rfl (Or.inl rfl) pe_str))
      pss_nil)))))
      pss_nil)
    (pss_cons (ps_set (i := 10) sc_law.nd rfl (Or.inl rfl) (pe_callH C_law_told hr (pa_cons (pv 4) (pa_cons (pv 6) pa_nil))))
    (pss_cons (ps_if (PW.pt (pw_or (pt_cmpR op_ne (pe_globI rfl T.c_SIZE) pe_int (nomark _)) (pw_or1 (pt_cmpR op_ne (pe_globI rfl T.c_DEEP) pe_int (nomark _)))))
      (pss_one (ps_ret pe_bl))
      pss_nil)
    (pss_cons (ps_if (pt_cmpR op_ne (pv 7) pe_str (nomark _))
      (pss_one (ps_ret (pe_and (pe_cmpR op_eq (pe_ix (ix_listK (K := K)) (pv 10) pe_int (fun _ _ => rfl)) (pv 7) (nomark _)) (pe_one (pe_callH C_law_alike hr (pa_cons (pe_ix (ix_listK (K := K)) (pv 10) pe_int (fun _ _ => rfl)) (pa_cons pe_int pa_nil)))))))
      pss_nil)
    (pss_one (ps_ret (pe_and (pe_cmpR op_eq (pe_ix (ix_listK (K := K)) (pv 10) pe_int (fun _ _ => rfl)) pe_str (nomark _)) (pe_one (pe_callH C_law_alike hr (pa_cons (pe_ix (ix_listK (K := K)) (pv 10) pe_int (fun _ _ => rfl)) (pa_cons (pv 5) pa_nil)))))))))))))))))))))))), ?_⟩
  walk_at "sx"
  refine ⟨a, ns, 0, rfl, hS, hlen, by decide, by decide, fun p l H1 np nl s1 P1 => ?_⟩
  walk_at "sx"
  refine ⟨p, l, 0, 0, rfl, P1, by decide, by decide, by decide, fun z0 H2 nz P2 k2 => ?_⟩
  walk_at "sx"
  rename_i b nb
  refine ⟨z0, b, [], [], rfl, nz, upd_same, .nil, .nil, fun wd H3 s3 hw => ?_⟩
  have P3 := (P2.upd nb).same s3
  have k3 : Kx p l H1 H3 := (k2.trans (.of (same_upd nb))).trans (.of s3)
  walk_at "sx"
  refine ⟨p, l, _, 6, rfl, P3, by decide, by decide, by decide, fun n H4 n0 n6 P4 k4 => ?_⟩
  walk_at "sx"
  refine ⟨(57 + n).toNat, wd, by rw [Int.toNat_of_nonneg (by omega)]; rfl, by omega, by show _ ≤ 85; omega, hw, fun x u H5 s5 px p21 hsz htup => ?_⟩
  have P5 := P4.same s5
  have sH5 : Same H H5 := (same_kx21 s1 np nl (k3.trans k4)).trans s5
  have dp4 := px.dp
  have ht := htup (by omega)
  clear k4 k3 k2 s5 P4 s3 P3 P2 P1 s1
  walk_at "sx"
  refine x_cut (M := fun σ' G => ∃ (x : V) (u : Pt), σ' = [some (.ref a), some (.ref p), some (.str wd), some x, none, none, none, none, none, none, none] ∧ PtAt K G 13 x u ∧ P21 wd u ∧ szT u ≤ 62 ∧ (∃ nm ps, u = .t nm ps) ∧ PoolAt G p l 30) ?_ ?_
  · walk_at "sx"
    refine ⟨p, l, _, 2, rfl, P5, by decide, by decide, by decide, fun r H6 r0 r2 P6 k6 => ?_⟩
    have px6 := px.kx k6 P5
    walk_at "sx"
    refine x_ite (fun c => ?_) (fun c => ?_)
    · walk_at "sx"
      refine ⟨a, ns, 1, rfl, (same_kx21 sH5 np nl k6).seq hS, hlen, by decide, by decide, fun p1 l1 H7 np1 nl1 s7 Q1 => ?_⟩
      have P7 := P6.same s7
      walk_at "sx"
      refine ⟨p, l, _, 5, rfl, P7, by decide, by decide, by decide, fun e H8 e0 e5 P8 k8 => ?_⟩
      have f1 := P6.fresh np1
      have f2 := P6.fresh nl1
      walk_at "sx"
      refine ⟨p1, l1, 0, (9 + e).toNat, wd, by rw [Int.toNat_of_nonneg (by omega)]; rfl, pool_kx21 Q1 k8 f1 f2, by omega, by omega, by omega, hw, fun x' u' H9 px' p21' hsz' hdp' ht' k9 => ?_⟩
      exact ⟨x', u', rfl, px', p21', by omega, ht', (pool_kx21 P8 k9 ⟨Ne.symm f1.1, Ne.symm f2.1⟩ ⟨Ne.symm f1.2, Ne.symm f2.2⟩).mono (by decide)⟩
    · walk_at "sx"
      exact ⟨x, u, rfl, px6.up (by decide), p21, by omega, ht, P6.mono (by decide)⟩
  clear P5 ht dp4 htup hsz p21 px sH5 x u n0 n6 n nz hS hlen
  rintro σ' G ⟨x, u, rfl, px, p21, hsz, ⟨nm, ps, ht⟩, PG⟩
  have lu := eq_len21 hw p21 hsz
  have gu : goalP u = true := rel_goal21 (by rw [ht] at p21 ⊢; exact p21_rel hw p21)
  have ru : relP u = true := by rw [ht] at p21 ⊢; exact p21_rel hw p21
  have pz := it_thing hw p21 (by omega) px.dp
  have pe := it_eq hw p21 (by omega) px.dp
  walk_at "sx"
  refine ⟨p, l, _, 8, rfl, PG, by decide, by decide, by decide, fun door G1 d0 d8 P1 k1 => ?_⟩
  have px1 := px.kx k1 PG
  walk_at "sx"
  refine ⟨x, u, wd, rfl, px1, p21, hw, by omega, fun z G2 s2 ez => ?_⟩
  have px2 := px1.same s2
  have P2 := P1.same s2
  have lz : z.length ≤ 5000 := by rw [← tl_lenP, ez]; exact lu
  clear px1 P1 k1 PG px s2 G1
  walk_at "sx"
  refine x_cut (M := fun σ' G => ∃ (mx : V) (m : Pt) (y : Str), σ' = [some (.ref a), some (.ref p), some (.str wd), some x, some (.int door), some mx, some (.str y), none, none, none, none] ∧ PtAt K G 13 x u ∧ PtAt K G 14 mx m ∧ Md21 wd door u m (tl y) ∧ y.length ≤ 6000 ∧ (door = 3 → mx = x) ∧ PoolAt G p l 31) ?_ ?_
  · have l4 : ("X = " : Str).length = 4 := by decide +kernel
    walk_at "sx"
    refine x_ite (fun c => ?_) (fun c => ?_)
    · have hd : door = 2 := V.int.inj c
      walk_at "sx"
      rename_i t nt
      refine x_addS (sz (by rw [l4]; omega)) ?_
      walk_at "sx"
      exact ⟨.ref t, eqP u, ("X = " : Str) ++ z, rfl, px2.same (same_upd nt), .tup (.of upd_same) (pts_two21 (pt_s (k := 12) "X") (px2.same (same_upd nt))), ⟨by
        rw [tl_append, ez, show tl ("X = " : Str) = [88, 32, 61, 32] by decide +kernel]
        exact pe.mono21 (by omega), eq_goal hw p21, fun h => by omega⟩, by rw [len_app, l4]; omega, fun h => by omega, (P2.upd nt).mono (by decide)⟩
    walk_at "sx"
    refine x_ite (fun c2 => ?_) (fun c2 => ?_)
    · have hd : 4 < door := c2
      walk_at "sx"
      rename_i t nt
      refine x_addS (sz (by rw [l4]; omega)) ?_
      walk_at "sx"
      exact ⟨.ref t, eqP u, ("X = " : Str) ++ z, rfl, px2.same (same_upd nt), .tup (.of upd_same) (pts_two21 (pt_s (k := 12) "X") (px2.same (same_upd nt))), ⟨by
        rw [tl_append, ez, show tl ("X = " : Str) = [88, 32, 61, 32] by decide +kernel]
        exact pe.mono21 (by omega), eq_goal hw p21, fun h => by omega⟩, by rw [len_app, l4]; omega, fun h => by omega, (P2.upd nt).mono (by decide)⟩
    · walk_at "sx"
      have hd : ¬ 4 < door := c2
      have hn : ¬ door = 2 := fun e => c (by rw [e])
      exact ⟨x, u, z, rfl, px2, px2.up (by decide), ⟨by rw [ez]; exact pz.mono21 (by omega), gu, fun _ => ⟨rfl, ez⟩⟩, by omega, fun _ => rfl, P2.mono (by decide)⟩
  rintro σ' G ⟨mx, m, y, rfl, px, pm, M, ly, e3, PG⟩
  walk_at "sx"
  refine x_cut (M := fun σ' G' => σ' = [some (.ref a), some (.ref p), some (.str wd), some x, some (.int door), some mx, some (.str y), some (.str (dueB m)), none, none, none] ∧ Same G G') ?_ ?_
  · walk_at "sx"
    refine ⟨mx, m, rfl, pm.up (by decide), M.it.go.nm, fun v G1 s1 tv1 => ?_⟩
    obtain ⟨t1, rfl, st1⟩ := two_inv tv1
    walk_at "sx"
    have szc : bigB m = true → dueB m = ("size" : Str) := fun h => by
      unfold dueB
      rw [if_pos h]
    refine x_ite (fun c => ?_) (fun c => ?_)
    · have c' : (60 : Int) < (szT m : Int) := c
      walk_at "sx"
      rw [szc (bigB_iff.mpr (.inl (by omega)))]
      exact ⟨rfl, s1⟩
    walk_at "sx"
    refine ⟨mx, m, rfl, (pm.up (by decide)).same s1, M.it.go.nm, fun v2 G2 s2 tv2 => ?_⟩
    obtain ⟨t2, rfl, st2⟩ := two_inv tv2
    walk_at "sx"
    refine x_ite (fun c2 => ?_) (fun c2 => ?_)
    · have c' : (12 : Int) < (dpT m : Int) := c2
      walk_at "sx"
      rw [szc (bigB_iff.mpr (.inr (by omega)))]
      exact ⟨rfl, s1.trans s2⟩
    · have c1' : ¬ (60 : Int) < (szT m : Int) := c
      have c2' : ¬ (12 : Int) < (dpT m : Int) := c2
      walk_at "sx"
      have : dueB m = ("told" : Str) := by
        unfold dueB
        refine if_neg fun h => ?_
        rcases bigB_iff.mp h with h | h <;> omega
      rw [this]
      exact ⟨rfl, s1.trans s2⟩
  rintro σ' G' ⟨rfl, sG⟩
  have P0 := PG.same sG
  have px0 := px.same sG
  have pm0 := pm.same sG
  clear PG px pm sG G
  walk_at "sx"
  refine ⟨p, l, _, 6, rfl, P0, by decide, by decide, by decide, fun bad G b0 b6 P1 k1 => ?_⟩
  have px := px0.kx k1 P0
  have pm := pm0.kx k1 P0
  clear px0 pm0 k1 P0 G'
  walk_at "sx"
  refine x_cut (M := fun σ' G' => ∃ (y' due' : Str), σ' = [some (.ref a), some (.ref p), some (.str wd), some x, some (.int door), some mx, some (.str y'), some (.str due'), some (.int bad), none, none] ∧ Same G G' ∧ ((door = 0 ∧ EndS K G door y' due' mx) ∨ (door ≠ 0 ∧ y' = y ∧ due' = dueB m))) ?_ ?_
  · walk_at "sx"
    refine x_ite (fun c => ?_) (fun c => ?_)
    · have h0 : door = 0 := V.int.inj c
      obtain ⟨rfl, em⟩ := M.one (.inl h0)
      walk_at "sx"
      refine x_ite (fun c2 => ?_) (fun c2 => ?_)
      · walk_at "sx"
        refine x_addS (sz (by rw [show ("X = " : Str).length = 4 by decide +kernel]; omega)) ?_
        walk_at "sx"
        refine ⟨_, _, rfl, fun _ _ e => e, .inl ⟨h0, .shape (by rw [len_app, show ("X = " : Str).length = 4 by decide +kernel]; omega) ?_⟩⟩
        rw [h0, tl_append, show tl ("X = " : Str) = [88, 32, 61, 32] by decide +kernel, em]
        exact fin_kept (pe.mono21 (k := 187) (by omega)) (eq_kept m) (by decide)
      · walk_at "sx"
        refine ⟨_, _, rfl, fun _ _ e => e, .inl ⟨h0, .of (t := tvP m) (by omega) ?_ ((pm.tv (by omega)).upN (by decide))⟩⟩
        rw [h0]
        exact fin_read M.it (p21_nk hw m p21) (by decide)
    · have h0 : ¬ door = 0 := fun e => c (by rw [e])
      walk_at "sx"
      exact ⟨_, _, rfl, fun _ _ e => e, .inr ⟨h0, rfl, rfl⟩⟩
  rintro σ' G' ⟨y', due', rfl, sG, E1⟩
  have P2 := P1.same sG
  have px2 := px.same sG
  have pm2 := pm.same sG
  replace E1 : (door = 0 ∧ EndS K G' door y' due' mx) ∨ (door ≠ 0 ∧ y' = y ∧ due' = dueB m) := E1.imp (fun h => ⟨h.1, h.2.same sG⟩) id
  have la : (" <- " : Str).length = 4 := by decide +kernel
  have lc : (", 3" : Str).length = 3 := by decide +kernel
  have lw : wd.length ≤ 12 := NmOk.len ⟨0, hw.1⟩
  have l2 : (", " : Str).length = 2 := by decide +kernel
  have l3 : ("3, " : Str).length = 3 := by decide +kernel
  have ta : tl (" <- " : Str) = [32, 60, 45, 32] := by decide +kernel
  have tc : tl (", 3" : Str) = [44, 32, 51] := by decide +kernel
  clear px pm P1 sG G
  walk_at "sx"
  refine x_cut (M := fun σ' G => ∃ (mx' : V) (y'' due'' : Str), σ' = [some (.ref a), some (.ref p), some (.str wd), some x, some (.int door), some mx', some (.str y''), some (.str due''), some (.int bad), none, none] ∧ Same G' G ∧ (((door = 0 ∨ door = 3) ∧ EndS K G door y'' due'' mx') ∨ (door ≠ 0 ∧ door ≠ 3 ∧ mx' = mx ∧ y'' = y ∧ due'' = dueB m))) ?_ ?_
  · walk_at "sx"
    refine x_ite (fun c => ?_) (fun c => ?_)
    · have h3 : door = 3 := V.int.inj c
      obtain ⟨rfl, em⟩ := M.one (.inr (.inr (.inl h3)))
      have emx := e3 h3
      obtain ⟨h0, rfl, rfl⟩ : door ≠ 0 ∧ y' = y ∧ due' = dueB m := by
        rcases E1 with ⟨h, _⟩ | h
        · omega
        · exact h
      walk_at "sx"
      rename_i t1 n1 t2 n2
      have tvc : ∀ {H' : Hp}, Same G' H' → SqT K H' t1 [] → SqT K H' t2 [.str "clause", x, .ref t1] → TvAt K H' 24 (.ref t2) (clauseT m []) := fun s h1 h2 => (tv_row (k := 20) h2 (tvs_s (tvs_cons (((px2.same s).tv (by omega)).upN (by decide)) (tvs_cons ((tv_row (k := 0) h1 tvs_nil (by decide)).upN (by decide)) tvs_nil))) (show 3 ≤ 1000 by decide)).upN (by decide)
      refine x_ite (fun c2 => ?_) (fun c2 => ?_)
      · walk_at "sx"
        refine x_addS (sz (by rw [la]; omega)) ?_
        walk_at "sx"
        refine x_addS (sz (by rw [len_app, la]; omega)) ?_
        walk_at "sx"
        refine x_addS (sz (by rw [len_app, len_app, la, lc]; omega)) ?_
        walk_at "sx"
        refine ⟨_, _, _, rfl, (same_upd n1).trans (same_upd n2), .inl ⟨.inr h3, .shape (by rw [len_app, len_app, len_app, la, lc]; omega) ?_⟩⟩
        have := fin_door3 hw M.it ru (by decide)
        rw [h3, tl_append, tl_append, tl_append, ta, tc]
        simpa [List.append_assoc] using this
      · walk_at "sx"
        refine ⟨_, _, _, rfl, (same_upd n1).trans (same_upd n2), .inl ⟨.inr h3, .of (t := clauseT m []) (by omega) ?_ (tvc ((same_upd n1).trans (same_upd n2)) (sqT_new n2 (.of upd_same)) (.of upd_same))⟩⟩
        have := fin_head (door := door) (by omega) M.it ru (by decide)
        unfold due21 at this
        rw [if_neg (by simp)] at this
        simpa using this
    · have h3 : ¬ door = 3 := fun e => c (by rw [e])
      walk_at "sx"
      refine ⟨_, _, _, rfl, fun _ _ e => e, ?_⟩
      rcases E1 with ⟨h, e⟩ | ⟨h, e1, e2⟩
      · exact .inl ⟨.inl h, e⟩
      · exact .inr ⟨h, h3, rfl, e1, e2⟩
  rintro σ' G ⟨mx', y'', due'', rfl, sG, E2⟩
  have P3 := P2.same sG
  have px := px2.same sG
  have pm := pm2.same sG
  clear px2 pm2 P2 sG E1 G'
  walk_at "sx"
  refine x_cut (M := fun σ' G' => ∃ (mz : V) (yz dz : Str) (az : Option V), σ' = [some (.ref a), some (.ref p), some (.str wd), some x, some (.int door), some mz, some (.str yz), some (.str dz), some (.int bad), az, none] ∧ EndS K G' door yz dz mz) ?_ ?_
  · walk_at "sx"
    refine x_ite (fun c => ?_) (fun c => ?_)
    · have h4 : 3 < door := c
      obtain ⟨h0, h3, rfl, rfl, rfl⟩ : door ≠ 0 ∧ door ≠ 3 ∧ mx' = mx ∧ y'' = y ∧ due'' = dueB m := by
        rcases E2 with ⟨h, _⟩ | h
        · omega
        · exact h
      walk_at "sx"
      refine ⟨p, l, _, 3, rfl, P3, by decide, by decide, by decide, fun ah G' a0 a3 P4 k4 => ?_⟩
      have px4 := px.kx k4 P3
      have pm4 := pm.kx k4 P3
      walk_at "sx"
      refine x_addS (sz (by rw [la]; omega)) ?_
      walk_at "sx"
      refine x_addS (sz (by rw [l2]; omega)) ?_
      walk_at "sx"
      refine x_mul21 (by rw [len_app, l2]; omega) a0 (by omega) fun yr er lr => ?_
      rw [len_app, l2] at lr
      walk_at "sx"
      refine x_addS (sz (by rw [len_app, la]; omega)) ?_
      walk_at "sx"
      refine x_mul21 (by rw [l3]; omega) (by split <;> omega) (by split <;> omega) fun ys es ls => ?_
      rw [l3] at ls
      walk_at "sx"
      refine x_addS (sz (by rw [len_app, len_app, la]; omega)) ?_
      walk_at "sx"
      refine x_addS (sz (by rw [len_app, len_app, len_app, la]; omega)) ?_
      walk_at "sx"
      refine x_mul21 (by rw [lc]; omega) (by split <;> omega) (by split <;> omega) fun ye ee le => ?_
      rw [lc] at le
      walk_at "sx"
      refine x_addS (sz (by rw [len_app, len_app, len_app, len_app, la]; omega)) ?_
      walk_at "sx"
      rename_i t1 n1
      refine x_rep21 (.of upd_same) a0 (by omega) fun r5 H5 s5 sr5 => ?_
      walk_at "sx"
      rename_i t2 n2
      refine x_catA (xs := List.replicate ah.toNat (V.str wd)) (ys := [mx']) (sqT_new n2 sr5) (.of upd_same) (sz (by rw [List.length_replicate]; show _ + 1 ≤ _; omega)) fun r6 H6 s6 sr6 => ?_
      walk_at "sx"
      rename_i t4 n4
      have sA := ((((same_upd (o := .tup [.str wd]) n1).trans s5).trans (same_upd (o := .tup [mx']) n2)).trans s6).trans (same_upd (o := .tup [.str "clause", .str wd, .ref r6]) n4)
      have tvm := (((pm4.same sA).tv (by have := M.it.sz; omega)).upN (show 15 ≤ 20 + 1 by decide))
      have tvA := (tv_row (k := 21) (.of upd_same) (tvs_s (tvs_s (tvs_cons (tv_row (k := 20) (sqT_new n4 sr6) (tvs_rep21 (n := ah.toNat) (w := wd) tvm) (by rw [List.length_append, List.length_replicate]; show _ + 1 ≤ _; omega)) tvs_nil))) (show 3 ≤ 1000 by decide)).upN (show 23 ≤ 24 by decide)
      have es' : tl ys = if bad = 0 then [51, 44, 32] else [] := by
        rw [es]
        by_cases hb : bad = 0
        · rw [if_pos hb, if_pos (decide_eq_true (by rw [hb]))]
          decide +kernel
        · rw [if_neg hb, if_neg (by rw [decide_eq_false (fun e => hb (V.int.inj e))]; decide)]
          rfl
      have ee' : tl ye = if bad = 1 then [44, 32, 51] else [] := by
        rw [ee]
        by_cases hb : bad = 1
        · rw [if_pos hb, if_pos (decide_eq_true (by rw [hb]))]
          decide +kernel
        · rw [if_neg hb, if_neg (by rw [decide_eq_false (fun e => hb (V.int.inj e))]; decide)]
          rfl
      rw [tl_append, show tl (", " : Str) = [44, 32] by decide +kernel] at er
      have fin := fin_many hw (door := door) (by omega) M.it M.gp (by decide) (a := ah.toNat) (by omega) bad
      have et : tl (wd ++ (" <- " : Str) ++ yr ++ ys ++ y'' ++ ye) = tl wd ++ (32 :: 60 :: 45 :: 32 :: ((List.replicate ah.toNat (tl wd ++ [44, 32])).flatten ++ ((if bad = 0 then [51, 44, 32] else []) ++ (tl y'' ++ if bad = 1 then [44, 32, 51] else [])))) := by
        rw [tl_append, tl_append, tl_append, tl_append, tl_append, ta, er, es', ee']
        simp only [List.append_assoc, List.cons_append, List.nil_append]
      rw [← et] at fin
      have ly : (wd ++ (" <- " : Str) ++ yr ++ ys ++ y'' ++ ye).length ≤ 30000 := by
        rw [len_app, len_app, len_app, len_app, len_app, la]
        omega
      refine x_ite (fun c2 => ?_) (fun c2 => ?_)
      · have hb : bad < 2 := c2
        walk_at "sx"
        rw [if_pos (show bad = 0 ∨ bad = 1 by omega)] at fin
        exact ⟨_, _, _, _, rfl, .shape ly fin⟩
      · have hb : ¬ bad < 2 := c2
        walk_at "sx"
        rw [if_neg (show ¬ (bad = 0 ∨ bad = 1) by omega)] at fin
        exact ⟨_, _, _, _, rfl, .of ly fin tvA⟩
    · have h4 : ¬ 3 < door := c
      walk_at "sx"
      refine ⟨_, _, _, _, rfl, ?_⟩
      rcases E2 with ⟨_, e⟩ | ⟨h0, h3, rfl, rfl, rfl⟩
      · exact e
      · exact .of (t := tvP m) (by omega) (fin_goal (by omega) M.it M.gp (by decide)) ((pm.tv (by have := M.it.sz; omega)).upN (by decide))
  rintro σ' G' ⟨mz, yz, dz, az, rfl, hlz, o, fin, alt⟩
  obtain ⟨zs, hcut, hbits, hlz2, hop, R⟩ := fin.ex
  walk_at "sx"
  have zero : ∀ {G1 : Hp}, TvAt K G1 24 (.int 0) (.i 0) := fun {G1} => rfl
  refine ⟨door, yz, zs, o, rfl, d0, by omega, hcut, hbits, hlz2, hop, R, fun e D G1 s1 eD => ?_, fun e D G1 s1 eD => ?_, fun t e xx D G1 s1 tx eD => ?_⟩
  · have hdz : dz = ("shape" : Str) := by
      rcases alt with ⟨_, h⟩ | ⟨h, _⟩ | ⟨_, h, _⟩
      · exact h
      · rw [h] at e; cases e
      · rw [h] at e; cases e
    subst hdz
    walk_at "sx"
    refine ⟨_, _, .i 0, rfl, zero, zero, fun G2 _ => ?_⟩
    walk_at "sx"
    exact q _
  · have hdz : dz = ("size" : Str) := by
      rcases alt with ⟨h, _⟩ | ⟨_, h⟩ | ⟨_, h, _⟩
      · rw [h] at e; cases e
      · exact h
      · rw [h] at e; cases e
    subst hdz
    walk_at "sx"
    refine ⟨_, _, .i 0, rfl, zero, zero, fun G2 _ => ?_⟩
    walk_at "sx"
    exact q _
  · obtain ⟨hdz, htv⟩ : dz = ("told" : Str) ∧ TvAt K G' 24 mz t := by
      rcases alt with ⟨h, _⟩ | ⟨h, _⟩ | ⟨t', h, h1, h2⟩
      · rw [h] at e; cases e
      · rw [h] at e; cases e
      · rw [h] at e
        cases e
        exact ⟨h1, h2⟩
    subst hdz
    walk_at "sx"
    refine ⟨_, _, t, rfl, tx, htv.same s1, fun G2 _ => ?_⟩
    walk_at "sx"
    exact q _
end
end Gs
namespace Gs
open PySem PySem.Spec PyProof.Rows L2 TL
set_option maxHeartbeats 0 in
theorem all_mk {l : PySem.W.OpenLaw} {w : World} {K : PySem.W.Frag} {h : Heap} {mg : Str → Option Value} {fa f0 f1 f2 f3 f4 f5 f6 f7 f8 f9 f10 f11 f12 f13 f14 f15 f16 f17 f18 f19 f20 f21 f22 f23 f24 f25 f26 f27 f28 f29 f30 f31 f32 f33 f34 f35 f36 f37 f38 f39 f40 f41 f42 f43 f44 f45 f46 f47 f48 f49 f50 f51 f52 f53 f54 f55 f56 f57 f58 : Addr} (X : K.In h) (G : h.Ns mainGlobals mg) (hfa : mg "law" = some (.ref fa))
    {B_GoalError : Addr} (m_GoalError : PySem.W.nsIn K mainGlobals "GoalError" = some (some (.ref B_GoalError))) (sp_GoalError : PySem.W.specialIn K (.ref B_GoalError) "__getattribute__" = some (some (.builtin "type.__getattribute__"))) (rd_GoalError : PySem.W.readsIn K B_GoalError (.type "type") = true) (fc_GoalError : PySem.W.findCls K (.ref B_GoalError) (.type "type") "__init__" = some (.val (.builtin "ValueError.__init__")))
    {od0 an0 : Option Addr} {sl0 : Array (Option Value)} {oc0 kV0 dc0 pm0 cd0 ct0 : Value}
    (a0 : PySem.W.nsIn K mainGlobals "is_word" = some (some (.ref f0))) (l0 : K.lookup f0 = some ⟨oc0, od0, .func (PySem.W.fnOf "is_word" "is_word" (defArgs s_is_word) (defBody s_is_word) (defScope s_is_word) .none kV0 dc0 pm0 an0 cd0 ct0), sl0⟩) (c0 : PySem.W.codeIn K cd0 "is_word" = true) (k0 : PySem.W.keepIn K (.ref f0) = true)
    {od1 an1 : Option Addr} {sl1 : Array (Option Value)} {oc1 kV1 dc1 pm1 cd1 ct1 : Value}
    (a1 : PySem.W.nsIn K mainGlobals "is_unknown" = some (some (.ref f1))) (l1 : K.lookup f1 = some ⟨oc1, od1, .func (PySem.W.fnOf "is_unknown" "is_unknown" (defArgs s_is_unknown) (defBody s_is_unknown) (defScope s_is_unknown) .none kV1 dc1 pm1 an1 cd1 ct1), sl1⟩) (c1 : PySem.W.codeIn K cd1 "is_unknown" = true) (k1 : PySem.W.keepIn K (.ref f1) = true)
    {od2 an2 : Option Addr} {sl2 : Array (Option Value)} {oc2 kV2 dc2 pm2 cd2 ct2 : Value}
    (a2 : PySem.W.nsIn K mainGlobals "is_mark" = some (some (.ref f2))) (l2 : K.lookup f2 = some ⟨oc2, od2, .func (PySem.W.fnOf "is_mark" "is_mark" (defArgs s_is_mark) (defBody s_is_mark) (defScope s_is_mark) .none kV2 dc2 pm2 an2 cd2 ct2), sl2⟩) (c2 : PySem.W.codeIn K cd2 "is_mark" = true) (k2 : PySem.W.keepIn K (.ref f2) = true)
    {od3 an3 : Option Addr} {sl3 : Array (Option Value)} {oc3 kV3 dc3 pm3 cd3 ct3 : Value}
    (a3 : PySem.W.nsIn K mainGlobals "is_kept" = some (some (.ref f3))) (l3 : K.lookup f3 = some ⟨oc3, od3, .func (PySem.W.fnOf "is_kept" "is_kept" (defArgs s_is_kept) (defBody s_is_kept) (defScope s_is_kept) .none kV3 dc3 pm3 an3 cd3 ct3), sl3⟩) (c3 : PySem.W.codeIn K cd3 "is_kept" = true) (k3 : PySem.W.keepIn K (.ref f3) = true)
    {od4 an4 : Option Addr} {sl4 : Array (Option Value)} {oc4 kV4 dc4 pm4 cd4 ct4 : Value}
    (a4 : PySem.W.nsIn K mainGlobals "is_name" = some (some (.ref f4))) (l4 : K.lookup f4 = some ⟨oc4, od4, .func (PySem.W.fnOf "is_name" "is_name" (defArgs s_is_name) (defBody s_is_name) (defScope s_is_name) .none kV4 dc4 pm4 an4 cd4 ct4), sl4⟩) (c4 : PySem.W.codeIn K cd4 "is_name" = true) (k4 : PySem.W.keepIn K (.ref f4) = true)
    {od5 an5 : Option Addr} {sl5 : Array (Option Value)} {oc5 kV5 dc5 pm5 cd5 ct5 : Value}
    (a5 : PySem.W.nsIn K mainGlobals "own" = some (some (.ref f5))) (l5 : K.lookup f5 = some ⟨oc5, od5, .func (PySem.W.fnOf "own" "own" (defArgs s_own) (defBody s_own) (defScope s_own) .none kV5 dc5 pm5 an5 cd5 ct5), sl5⟩) (c5 : PySem.W.codeIn K cd5 "own" = true) (k5 : PySem.W.keepIn K (.ref f5) = true)
    {od6 an6 : Option Addr} {sl6 : Array (Option Value)} {oc6 kV6 dc6 pm6 cd6 ct6 : Value}
    (a6 : PySem.W.nsIn K mainGlobals "_run" = some (some (.ref f6))) (l6 : K.lookup f6 = some ⟨oc6, od6, .func (PySem.W.fnOf "_run" "_run" (defArgs s_run) (defBody s_run) (defScope s_run) .none kV6 dc6 pm6 an6 cd6 ct6), sl6⟩) (c6 : PySem.W.codeIn K cd6 "_run" = true) (k6 : PySem.W.keepIn K (.ref f6) = true)
    {od7 an7 : Option Addr} {sl7 : Array (Option Value)} {oc7 kV7 dc7 pm7 cd7 ct7 : Value}
    (a7 : PySem.W.nsIn K mainGlobals "_end_of_piece" = some (some (.ref f7))) (l7 : K.lookup f7 = some ⟨oc7, od7, .func (PySem.W.fnOf "_end_of_piece" "_end_of_piece" (defArgs s_end_of_piece) (defBody s_end_of_piece) (defScope s_end_of_piece) .none kV7 dc7 pm7 an7 cd7 ct7), sl7⟩) (c7 : PySem.W.codeIn K cd7 "_end_of_piece" = true) (k7 : PySem.W.keepIn K (.ref f7) = true)
    {od8 an8 : Option Addr} {sl8 : Array (Option Value)} {oc8 kV8 dc8 pm8 cd8 ct8 : Value}
    (a8 : PySem.W.nsIn K mainGlobals "_is_piece" = some (some (.ref f8))) (l8 : K.lookup f8 = some ⟨oc8, od8, .func (PySem.W.fnOf "_is_piece" "_is_piece" (defArgs s_is_piece) (defBody s_is_piece) (defScope s_is_piece) .none kV8 dc8 pm8 an8 cd8 ct8), sl8⟩) (c8 : PySem.W.codeIn K cd8 "_is_piece" = true) (k8 : PySem.W.keepIn K (.ref f8) = true)
    {od9 an9 : Option Addr} {sl9 : Array (Option Value)} {oc9 kV9 dc9 pm9 cd9 ct9 : Value}
    (a9 : PySem.W.nsIn K mainGlobals "_most_open" = some (some (.ref f9))) (l9 : K.lookup f9 = some ⟨oc9, od9, .func (PySem.W.fnOf "_most_open" "_most_open" (defArgs s_most_open) (defBody s_most_open) (defScope s_most_open) .none kV9 dc9 pm9 an9 cd9 ct9), sl9⟩) (c9 : PySem.W.codeIn K cd9 "_most_open" = true) (k9 : PySem.W.keepIn K (.ref f9) = true)
    {od10 an10 : Option Addr} {sl10 : Array (Option Value)} {oc10 dc10 pm10 cd10 ct10 : Value} {D10 : Addr} {uk10 : Value}
    (a10 : PySem.W.nsIn K mainGlobals "pieces_of" = some (some (.ref f10))) (l10 : K.lookup f10 = some ⟨oc10, od10, .func (PySem.W.fnOf "pieces_of" "pieces_of" (defArgs s_pieces_of) (defBody s_pieces_of) (defScope s_pieces_of) .none (.ref D10) dc10 pm10 an10 cd10 ct10), sl10⟩) (c10 : PySem.W.codeIn K cd10 "pieces_of" = true) (k10 : PySem.W.keepIn K (.ref f10) = true)
    (q10 : PySem.W.nsIn K D10 "most" = some (some uk10)) (r10 : RelV (.int 200) uk10)
    {od11 an11 : Option Addr} {sl11 : Array (Option Value)} {oc11 kV11 dc11 pm11 cd11 ct11 : Value}
    (a11 : PySem.W.nsIn K mainGlobals "read_pieces" = some (some (.ref f11))) (l11 : K.lookup f11 = some ⟨oc11, od11, .func (PySem.W.fnOf "read_pieces" "read_pieces" (defArgs s_read_pieces) (defBody s_read_pieces) (defScope s_read_pieces) .none kV11 dc11 pm11 an11 cd11 ct11), sl11⟩) (c11 : PySem.W.codeIn K cd11 "read_pieces" = true) (k11 : PySem.W.keepIn K (.ref f11) = true)
    {od12 an12 : Option Addr} {sl12 : Array (Option Value)} {oc12 kV12 dc12 pm12 cd12 ct12 : Value}
    (a12 : PySem.W.nsIn K mainGlobals "size_of" = some (some (.ref f12))) (l12 : K.lookup f12 = some ⟨oc12, od12, .func (PySem.W.fnOf "size_of" "size_of" (defArgs s_size_of) (defBody s_size_of) (defScope s_size_of) .none kV12 dc12 pm12 an12 cd12 ct12), sl12⟩) (c12 : PySem.W.codeIn K cd12 "size_of" = true) (k12 : PySem.W.keepIn K (.ref f12) = true)
    {od13 an13 : Option Addr} {sl13 : Array (Option Value)} {oc13 kV13 dc13 pm13 cd13 ct13 : Value}
    (a13 : PySem.W.nsIn K mainGlobals "depth_of" = some (some (.ref f13))) (l13 : K.lookup f13 = some ⟨oc13, od13, .func (PySem.W.fnOf "depth_of" "depth_of" (defArgs s_depth_of) (defBody s_depth_of) (defScope s_depth_of) .none kV13 dc13 pm13 an13 cd13 ct13), sl13⟩) (c13 : PySem.W.codeIn K cd13 "depth_of" = true) (k13 : PySem.W.keepIn K (.ref f13) = true)
    {od14 an14 : Option Addr} {sl14 : Array (Option Value)} {oc14 kV14 dc14 pm14 cd14 ct14 : Value}
    (a14 : PySem.W.nsIn K mainGlobals "is_great" = some (some (.ref f14))) (l14 : K.lookup f14 = some ⟨oc14, od14, .func (PySem.W.fnOf "is_great" "is_great" (defArgs s_is_great) (defBody s_is_great) (defScope s_is_great) .none kV14 dc14 pm14 an14 cd14 ct14), sl14⟩) (c14 : PySem.W.codeIn K cd14 "is_great" = true) (k14 : PySem.W.keepIn K (.ref f14) = true)
    {od15 an15 : Option Addr} {sl15 : Array (Option Value)} {oc15 kV15 dc15 pm15 cd15 ct15 : Value}
    (a15 : PySem.W.nsIn K mainGlobals "is_pattern" = some (some (.ref f15))) (l15 : K.lookup f15 = some ⟨oc15, od15, .func (PySem.W.fnOf "is_pattern" "is_pattern" (defArgs s_is_pattern) (defBody s_is_pattern) (defScope s_is_pattern) .none kV15 dc15 pm15 an15 cd15 ct15), sl15⟩) (c15 : PySem.W.codeIn K cd15 "is_pattern" = true) (k15 : PySem.W.keepIn K (.ref f15) = true)
    {od16 an16 : Option Addr} {sl16 : Array (Option Value)} {oc16 kV16 dc16 pm16 cd16 ct16 : Value}
    (a16 : PySem.W.nsIn K mainGlobals "unknowns_of" = some (some (.ref f16))) (l16 : K.lookup f16 = some ⟨oc16, od16, .func (PySem.W.fnOf "unknowns_of" "unknowns_of" (defArgs s_unknowns_of) (defBody s_unknowns_of) (defScope s_unknowns_of) .none kV16 dc16 pm16 an16 cd16 ct16), sl16⟩) (c16 : PySem.W.codeIn K cd16 "unknowns_of" = true) (k16 : PySem.W.keepIn K (.ref f16) = true)
    {od17 an17 : Option Addr} {sl17 : Array (Option Value)} {oc17 kV17 dc17 pm17 cd17 ct17 : Value}
    (a17 : PySem.W.nsIn K mainGlobals "_is_named" = some (some (.ref f17))) (l17 : K.lookup f17 = some ⟨oc17, od17, .func (PySem.W.fnOf "_is_named" "_is_named" (defArgs s_is_named) (defBody s_is_named) (defScope s_is_named) .none kV17 dc17 pm17 an17 cd17 ct17), sl17⟩) (c17 : PySem.W.codeIn K cd17 "_is_named" = true) (k17 : PySem.W.keepIn K (.ref f17) = true)
    {od18 an18 : Option Addr} {sl18 : Array (Option Value)} {oc18 kV18 dc18 pm18 cd18 ct18 : Value}
    (a18 : PySem.W.nsIn K mainGlobals "is_sum" = some (some (.ref f18))) (l18 : K.lookup f18 = some ⟨oc18, od18, .func (PySem.W.fnOf "is_sum" "is_sum" (defArgs s_is_sum) (defBody s_is_sum) (defScope s_is_sum) .none kV18 dc18 pm18 an18 cd18 ct18), sl18⟩) (c18 : PySem.W.codeIn K cd18 "is_sum" = true) (k18 : PySem.W.keepIn K (.ref f18) = true)
    {od19 an19 : Option Addr} {sl19 : Array (Option Value)} {oc19 kV19 dc19 pm19 cd19 ct19 : Value}
    (a19 : PySem.W.nsIn K mainGlobals "parted_by_and" = some (some (.ref f19))) (l19 : K.lookup f19 = some ⟨oc19, od19, .func (PySem.W.fnOf "parted_by_and" "parted_by_and" (defArgs s_parted_by_and) (defBody s_parted_by_and) (defScope s_parted_by_and) .none kV19 dc19 pm19 an19 cd19 ct19), sl19⟩) (c19 : PySem.W.codeIn K cd19 "parted_by_and" = true) (k19 : PySem.W.keepIn K (.ref f19) = true)
    {od20 an20 : Option Addr} {sl20 : Array (Option Value)} {oc20 kV20 dc20 pm20 cd20 ct20 : Value}
    (a20 : PySem.W.nsIn K mainGlobals "is_relation" = some (some (.ref f20))) (l20 : K.lookup f20 = some ⟨oc20, od20, .func (PySem.W.fnOf "is_relation" "is_relation" (defArgs s_is_relation) (defBody s_is_relation) (defScope s_is_relation) .none kV20 dc20 pm20 an20 cd20 ct20), sl20⟩) (c20 : PySem.W.codeIn K cd20 "is_relation" = true) (k20 : PySem.W.keepIn K (.ref f20) = true)
    {od21 an21 : Option Addr} {sl21 : Array (Option Value)} {oc21 kV21 dc21 pm21 cd21 ct21 : Value}
    (a21 : PySem.W.nsIn K mainGlobals "is_not" = some (some (.ref f21))) (l21 : K.lookup f21 = some ⟨oc21, od21, .func (PySem.W.fnOf "is_not" "is_not" (defArgs s_is_not) (defBody s_is_not) (defScope s_is_not) .none kV21 dc21 pm21 an21 cd21 ct21), sl21⟩) (c21 : PySem.W.codeIn K cd21 "is_not" = true) (k21 : PySem.W.keepIn K (.ref f21) = true)
    {od22 an22 : Option Addr} {sl22 : Array (Option Value)} {oc22 kV22 dc22 pm22 cd22 ct22 : Value}
    (a22 : PySem.W.nsIn K mainGlobals "is_likeness" = some (some (.ref f22))) (l22 : K.lookup f22 = some ⟨oc22, od22, .func (PySem.W.fnOf "is_likeness" "is_likeness" (defArgs s_is_likeness) (defBody s_is_likeness) (defScope s_is_likeness) .none kV22 dc22 pm22 an22 cd22 ct22), sl22⟩) (c22 : PySem.W.codeIn K cd22 "is_likeness" = true) (k22 : PySem.W.keepIn K (.ref f22) = true)
    {od23 an23 : Option Addr} {sl23 : Array (Option Value)} {oc23 kV23 dc23 pm23 cd23 ct23 : Value}
    (a23 : PySem.W.nsIn K mainGlobals "is_reckoning" = some (some (.ref f23))) (l23 : K.lookup f23 = some ⟨oc23, od23, .func (PySem.W.fnOf "is_reckoning" "is_reckoning" (defArgs s_is_reckoning) (defBody s_is_reckoning) (defScope s_is_reckoning) .none kV23 dc23 pm23 an23 cd23 ct23), sl23⟩) (c23 : PySem.W.codeIn K cd23 "is_reckoning" = true) (k23 : PySem.W.keepIn K (.ref f23) = true)
    {od24 an24 : Option Addr} {sl24 : Array (Option Value)} {oc24 kV24 dc24 pm24 cd24 ct24 : Value}
    (a24 : PySem.W.nsIn K mainGlobals "is_test" = some (some (.ref f24))) (l24 : K.lookup f24 = some ⟨oc24, od24, .func (PySem.W.fnOf "is_test" "is_test" (defArgs s_is_test) (defBody s_is_test) (defScope s_is_test) .none kV24 dc24 pm24 an24 cd24 ct24), sl24⟩) (c24 : PySem.W.codeIn K cd24 "is_test" = true) (k24 : PySem.W.keepIn K (.ref f24) = true)
    {od25 an25 : Option Addr} {sl25 : Array (Option Value)} {oc25 kV25 dc25 pm25 cd25 ct25 : Value}
    (a25 : PySem.W.nsIn K mainGlobals "_is_range" = some (some (.ref f25))) (l25 : K.lookup f25 = some ⟨oc25, od25, .func (PySem.W.fnOf "_is_range" "_is_range" (defArgs s_is_range) (defBody s_is_range) (defScope s_is_range) .none kV25 dc25 pm25 an25 cd25 ct25), sl25⟩) (c25 : PySem.W.codeIn K cd25 "_is_range" = true) (k25 : PySem.W.keepIn K (.ref f25) = true)
    {od26 an26 : Option Addr} {sl26 : Array (Option Value)} {oc26 kV26 dc26 pm26 cd26 ct26 : Value}
    (a26 : PySem.W.nsIn K mainGlobals "_are_tests" = some (some (.ref f26))) (l26 : K.lookup f26 = some ⟨oc26, od26, .func (PySem.W.fnOf "_are_tests" "_are_tests" (defArgs s_are_tests) (defBody s_are_tests) (defScope s_are_tests) .none kV26 dc26 pm26 an26 cd26 ct26), sl26⟩) (c26 : PySem.W.codeIn K cd26 "_are_tests" = true) (k26 : PySem.W.keepIn K (.ref f26) = true)
    {od27 an27 : Option Addr} {sl27 : Array (Option Value)} {oc27 kV27 dc27 pm27 cd27 ct27 : Value}
    (a27 : PySem.W.nsIn K mainGlobals "_is_box" = some (some (.ref f27))) (l27 : K.lookup f27 = some ⟨oc27, od27, .func (PySem.W.fnOf "_is_box" "_is_box" (defArgs s_is_box) (defBody s_is_box) (defScope s_is_box) .none kV27 dc27 pm27 an27 cd27 ct27), sl27⟩) (c27 : PySem.W.codeIn K cd27 "_is_box" = true) (k27 : PySem.W.keepIn K (.ref f27) = true)
    {od28 an28 : Option Addr} {sl28 : Array (Option Value)} {oc28 kV28 dc28 pm28 cd28 ct28 : Value}
    (a28 : PySem.W.nsIn K mainGlobals "is_field" = some (some (.ref f28))) (l28 : K.lookup f28 = some ⟨oc28, od28, .func (PySem.W.fnOf "is_field" "is_field" (defArgs s_is_field) (defBody s_is_field) (defScope s_is_field) .none kV28 dc28 pm28 an28 cd28 ct28), sl28⟩) (c28 : PySem.W.codeIn K cd28 "is_field" = true) (k28 : PySem.W.keepIn K (.ref f28) = true)
    {od29 an29 : Option Addr} {sl29 : Array (Option Value)} {oc29 kV29 dc29 pm29 cd29 ct29 : Value}
    (a29 : PySem.W.nsIn K mainGlobals "is_goal" = some (some (.ref f29))) (l29 : K.lookup f29 = some ⟨oc29, od29, .func (PySem.W.fnOf "is_goal" "is_goal" (defArgs s_is_goal) (defBody s_is_goal) (defScope s_is_goal) .none kV29 dc29 pm29 an29 cd29 ct29), sl29⟩) (c29 : PySem.W.codeIn K cd29 "is_goal" = true) (k29 : PySem.W.keepIn K (.ref f29) = true)
    {od30 an30 : Option Addr} {sl30 : Array (Option Value)} {oc30 kV30 dc30 pm30 cd30 ct30 : Value}
    (a30 : PySem.W.nsIn K mainGlobals "_table_of" = some (some (.ref f30))) (l30 : K.lookup f30 = some ⟨oc30, od30, .func (PySem.W.fnOf "_table_of" "_table_of" (defArgs s_table_of) (defBody s_table_of) (defScope s_table_of) .none kV30 dc30 pm30 an30 cd30 ct30), sl30⟩) (c30 : PySem.W.codeIn K cd30 "_table_of" = true) (k30 : PySem.W.keepIn K (.ref f30) = true)
    {od31 an31 : Option Addr} {sl31 : Array (Option Value)} {oc31 kV31 dc31 pm31 cd31 ct31 : Value}
    (a31 : PySem.W.nsIn K mainGlobals "_measure" = some (some (.ref f31))) (l31 : K.lookup f31 = some ⟨oc31, od31, .func (PySem.W.fnOf "_measure" "_measure" (defArgs s_measure) (defBody s_measure) (defScope s_measure) .none kV31 dc31 pm31 an31 cd31 ct31), sl31⟩) (c31 : PySem.W.codeIn K cd31 "_measure" = true) (k31 : PySem.W.keepIn K (.ref f31) = true)
    {od32 an32 : Option Addr} {sl32 : Array (Option Value)} {oc32 kV32 dc32 pm32 cd32 ct32 : Value}
    (a32 : PySem.W.nsIn K mainGlobals "_goal_of" = some (some (.ref f32))) (l32 : K.lookup f32 = some ⟨oc32, od32, .func (PySem.W.fnOf "_goal_of" "_goal_of" (defArgs s_goal_of) (defBody s_goal_of) (defScope s_goal_of) .none kV32 dc32 pm32 an32 cd32 ct32), sl32⟩) (c32 : PySem.W.codeIn K cd32 "_goal_of" = true) (k32 : PySem.W.keepIn K (.ref f32) = true)
    {od33 an33 : Option Addr} {sl33 : Array (Option Value)} {oc33 kV33 dc33 pm33 cd33 ct33 : Value}
    (a33 : PySem.W.nsIn K mainGlobals "_op_row" = some (some (.ref f33))) (l33 : K.lookup f33 = some ⟨oc33, od33, .func (PySem.W.fnOf "_op_row" "_op_row" (defArgs s_op_row) (defBody s_op_row) (defScope s_op_row) .none kV33 dc33 pm33 an33 cd33 ct33), sl33⟩) (c33 : PySem.W.codeIn K cd33 "_op_row" = true) (k33 : PySem.W.keepIn K (.ref f33) = true)
    {od34 an34 : Option Addr} {sl34 : Array (Option Value)} {oc34 kV34 dc34 pm34 cd34 ct34 : Value}
    (a34 : PySem.W.nsIn K mainGlobals "_mode_of" = some (some (.ref f34))) (l34 : K.lookup f34 = some ⟨oc34, od34, .func (PySem.W.fnOf "_mode_of" "_mode_of" (defArgs s_mode_of) (defBody s_mode_of) (defScope s_mode_of) .none kV34 dc34 pm34 an34 cd34 ct34), sl34⟩) (c34 : PySem.W.codeIn K cd34 "_mode_of" = true) (k34 : PySem.W.keepIn K (.ref f34) = true)
    {od35 an35 : Option Addr} {sl35 : Array (Option Value)} {oc35 kV35 dc35 pm35 cd35 ct35 : Value}
    (a35 : PySem.W.nsIn K mainGlobals "_mode_row" = some (some (.ref f35))) (l35 : K.lookup f35 = some ⟨oc35, od35, .func (PySem.W.fnOf "_mode_row" "_mode_row" (defArgs s_mode_row) (defBody s_mode_row) (defScope s_mode_row) .none kV35 dc35 pm35 an35 cd35 ct35), sl35⟩) (c35 : PySem.W.codeIn K cd35 "_mode_row" = true) (k35 : PySem.W.keepIn K (.ref f35) = true)
    {od36 an36 : Option Addr} {sl36 : Array (Option Value)} {oc36 kV36 dc36 pm36 cd36 ct36 : Value}
    (a36 : PySem.W.nsIn K mainGlobals "_table_row" = some (some (.ref f36))) (l36 : K.lookup f36 = some ⟨oc36, od36, .func (PySem.W.fnOf "_table_row" "_table_row" (defArgs s_table_row) (defBody s_table_row) (defScope s_table_row) .none kV36 dc36 pm36 an36 cd36 ct36), sl36⟩) (c36 : PySem.W.codeIn K cd36 "_table_row" = true) (k36 : PySem.W.keepIn K (.ref f36) = true)
    {od37 an37 : Option Addr} {sl37 : Array (Option Value)} {oc37 kV37 dc37 pm37 cd37 ct37 : Value}
    (a37 : PySem.W.nsIn K mainGlobals "_parted_by_commas" = some (some (.ref f37))) (l37 : K.lookup f37 = some ⟨oc37, od37, .func (PySem.W.fnOf "_parted_by_commas" "_parted_by_commas" (defArgs s_parted_by_commas) (defBody s_parted_by_commas) (defScope s_parted_by_commas) .none kV37 dc37 pm37 an37 cd37 ct37), sl37⟩) (c37 : PySem.W.codeIn K cd37 "_parted_by_commas" = true) (k37 : PySem.W.keepIn K (.ref f37) = true)
    {od38 an38 : Option Addr} {sl38 : Array (Option Value)} {oc38 kV38 dc38 pm38 cd38 ct38 : Value}
    (a38 : PySem.W.nsIn K mainGlobals "_clause_row" = some (some (.ref f38))) (l38 : K.lookup f38 = some ⟨oc38, od38, .func (PySem.W.fnOf "_clause_row" "_clause_row" (defArgs s_clause_row) (defBody s_clause_row) (defScope s_clause_row) .none kV38 dc38 pm38 an38 cd38 ct38), sl38⟩) (c38 : PySem.W.codeIn K cd38 "_clause_row" = true) (k38 : PySem.W.keepIn K (.ref f38) = true)
    {od39 an39 : Option Addr} {sl39 : Array (Option Value)} {oc39 dc39 pm39 cd39 ct39 : Value} {D39 : Addr} {uk39 : Value}
    (a39 : PySem.W.nsIn K mainGlobals "read_line" = some (some (.ref f39))) (l39 : K.lookup f39 = some ⟨oc39, od39, .func (PySem.W.fnOf "read_line" "read_line" (defArgs s_read_line) (defBody s_read_line) (defScope s_read_line) .none (.ref D39) dc39 pm39 an39 cd39 ct39), sl39⟩) (c39 : PySem.W.codeIn K cd39 "read_line" = true) (k39 : PySem.W.keepIn K (.ref f39) = true)
    (q39 : PySem.W.nsIn K D39 "most" = some (some uk39)) (r39 : RelV (.int 200) uk39)
    {od40 an40 : Option Addr} {sl40 : Array (Option Value)} {oc40 kV40 dc40 pm40 cd40 ct40 : Value}
    (a40 : PySem.W.nsIn K mainGlobals "first_piece" = some (some (.ref f40))) (l40 : K.lookup f40 = some ⟨oc40, od40, .func (PySem.W.fnOf "first_piece" "first_piece" (defArgs s_first_piece) (defBody s_first_piece) (defScope s_first_piece) .none kV40 dc40 pm40 an40 cd40 ct40), sl40⟩) (c40 : PySem.W.codeIn K cd40 "first_piece" = true) (k40 : PySem.W.keepIn K (.ref f40) = true)
    {od41 an41 : Option Addr} {sl41 : Array (Option Value)} {oc41 kV41 dc41 pm41 cd41 ct41 : Value}
    (a41 : PySem.W.nsIn K mainGlobals "_row_at" = some (some (.ref f41))) (l41 : K.lookup f41 = some ⟨oc41, od41, .func (PySem.W.fnOf "_row_at" "_row_at" (defArgs s_row_at) (defBody s_row_at) (defScope s_row_at) .none kV41 dc41 pm41 an41 cd41 ct41), sl41⟩) (c41 : PySem.W.codeIn K cd41 "_row_at" = true) (k41 : PySem.W.keepIn K (.ref f41) = true)
    {od42 an42 : Option Addr} {sl42 : Array (Option Value)} {oc42 dc42 pm42 cd42 ct42 : Value} {D42 : Addr} {uk42 : Value}
    (a42 : PySem.W.nsIn K mainGlobals "read_text" = some (some (.ref f42))) (l42 : K.lookup f42 = some ⟨oc42, od42, .func (PySem.W.fnOf "read_text" "read_text" (defArgs s_read_text) (defBody s_read_text) (defScope s_read_text) .none (.ref D42) dc42 pm42 an42 cd42 ct42), sl42⟩) (c42 : PySem.W.codeIn K cd42 "read_text" = true) (k42 : PySem.W.keepIn K (.ref f42) = true)
    (q42 : PySem.W.nsIn K D42 "most" = some (some uk42)) (r42 : RelV (.int 200) uk42)
    {od43 an43 : Option Addr} {sl43 : Array (Option Value)} {oc43 dc43 pm43 cd43 ct43 : Value} {D43 : Addr} {uk43 : Value}
    (a43 : PySem.W.nsIn K mainGlobals "read_term" = some (some (.ref f43))) (l43 : K.lookup f43 = some ⟨oc43, od43, .func (PySem.W.fnOf "read_term" "read_term" (defArgs s_read_term) (defBody s_read_term) (defScope s_read_term) .none (.ref D43) dc43 pm43 an43 cd43 ct43), sl43⟩) (c43 : PySem.W.codeIn K cd43 "read_term" = true) (k43 : PySem.W.keepIn K (.ref f43) = true)
    (q43 : PySem.W.nsIn K D43 "most" = some (some uk43)) (r43 : RelV (.int 200) uk43)
    {od44 an44 : Option Addr} {sl44 : Array (Option Value)} {oc44 dc44 pm44 cd44 ct44 : Value} {D44 : Addr} {uk44 : Value}
    (a44 : PySem.W.nsIn K mainGlobals "read_goal" = some (some (.ref f44))) (l44 : K.lookup f44 = some ⟨oc44, od44, .func (PySem.W.fnOf "read_goal" "read_goal" (defArgs s_read_goal) (defBody s_read_goal) (defScope s_read_goal) .none (.ref D44) dc44 pm44 an44 cd44 ct44), sl44⟩) (c44 : PySem.W.codeIn K cd44 "read_goal" = true) (k44 : PySem.W.keepIn K (.ref f44) = true)
    (q44 : PySem.W.nsIn K D44 "most" = some (some uk44)) (r44 : RelV (.int 200) uk44)
    {od45 an45 : Option Addr} {sl45 : Array (Option Value)} {oc45 kV45 dc45 pm45 cd45 ct45 : Value}
    (a45 : PySem.W.nsIn K mainGlobals "_law_pool" = some (some (.ref f45))) (l45 : K.lookup f45 = some ⟨oc45, od45, .func (PySem.W.fnOf "_law_pool" "_law_pool" (defArgs s_law_pool) (defBody s_law_pool) (defScope s_law_pool) .none kV45 dc45 pm45 an45 cd45 ct45), sl45⟩) (c45 : PySem.W.codeIn K cd45 "_law_pool" = true) (k45 : PySem.W.keepIn K (.ref f45) = true)
    {od46 an46 : Option Addr} {sl46 : Array (Option Value)} {oc46 kV46 dc46 pm46 cd46 ct46 : Value}
    (a46 : PySem.W.nsIn K mainGlobals "_law_mixed" = some (some (.ref f46))) (l46 : K.lookup f46 = some ⟨oc46, od46, .func (PySem.W.fnOf "_law_mixed" "_law_mixed" (defArgs s_law_mixed) (defBody s_law_mixed) (defScope s_law_mixed) .none kV46 dc46 pm46 an46 cd46 ct46), sl46⟩) (c46 : PySem.W.codeIn K cd46 "_law_mixed" = true) (k46 : PySem.W.keepIn K (.ref f46) = true)
    {od47 an47 : Option Addr} {sl47 : Array (Option Value)} {oc47 kV47 dc47 pm47 cd47 ct47 : Value}
    (a47 : PySem.W.nsIn K mainGlobals "_law_take" = some (some (.ref f47))) (l47 : K.lookup f47 = some ⟨oc47, od47, .func (PySem.W.fnOf "_law_take" "_law_take" (defArgs s_law_take) (defBody s_law_take) (defScope s_law_take) .none kV47 dc47 pm47 an47 cd47 ct47), sl47⟩) (c47 : PySem.W.codeIn K cd47 "_law_take" = true) (k47 : PySem.W.keepIn K (.ref f47) = true)
    {od48 an48 : Option Addr} {sl48 : Array (Option Value)} {oc48 kV48 dc48 pm48 cd48 ct48 : Value}
    (a48 : PySem.W.nsIn K mainGlobals "_law_figure" = some (some (.ref f48))) (l48 : K.lookup f48 = some ⟨oc48, od48, .func (PySem.W.fnOf "_law_figure" "_law_figure" (defArgs s_law_figure) (defBody s_law_figure) (defScope s_law_figure) .none kV48 dc48 pm48 an48 cd48 ct48), sl48⟩) (c48 : PySem.W.codeIn K cd48 "_law_figure" = true) (k48 : PySem.W.keepIn K (.ref f48) = true)
    {od49 an49 : Option Addr} {sl49 : Array (Option Value)} {oc49 kV49 dc49 pm49 cd49 ct49 : Value}
    (a49 : PySem.W.nsIn K mainGlobals "_law_name" = some (some (.ref f49))) (l49 : K.lookup f49 = some ⟨oc49, od49, .func (PySem.W.fnOf "_law_name" "_law_name" (defArgs s_law_name) (defBody s_law_name) (defScope s_law_name) .none kV49 dc49 pm49 an49 cd49 ct49), sl49⟩) (c49 : PySem.W.codeIn K cd49 "_law_name" = true) (k49 : PySem.W.keepIn K (.ref f49) = true)
    {od50 an50 : Option Addr} {sl50 : Array (Option Value)} {oc50 kV50 dc50 pm50 cd50 ct50 : Value}
    (a50 : PySem.W.nsIn K mainGlobals "_law_kept" = some (some (.ref f50))) (l50 : K.lookup f50 = some ⟨oc50, od50, .func (PySem.W.fnOf "_law_kept" "_law_kept" (defArgs s_law_kept) (defBody s_law_kept) (defScope s_law_kept) .none kV50 dc50 pm50 an50 cd50 ct50), sl50⟩) (c50 : PySem.W.codeIn K cd50 "_law_kept" = true) (k50 : PySem.W.keepIn K (.ref f50) = true)
    {od51 an51 : Option Addr} {sl51 : Array (Option Value)} {oc51 kV51 dc51 pm51 cd51 ct51 : Value}
    (a51 : PySem.W.nsIn K mainGlobals "_law_free" = some (some (.ref f51))) (l51 : K.lookup f51 = some ⟨oc51, od51, .func (PySem.W.fnOf "_law_free" "_law_free" (defArgs s_law_free) (defBody s_law_free) (defScope s_law_free) .none kV51 dc51 pm51 an51 cd51 ct51), sl51⟩) (c51 : PySem.W.codeIn K cd51 "_law_free" = true) (k51 : PySem.W.keepIn K (.ref f51) = true)
    {od52 an52 : Option Addr} {sl52 : Array (Option Value)} {oc52 kV52 dc52 pm52 cd52 ct52 : Value}
    (a52 : PySem.W.nsIn K mainGlobals "_law_weight" = some (some (.ref f52))) (l52 : K.lookup f52 = some ⟨oc52, od52, .func (PySem.W.fnOf "_law_weight" "_law_weight" (defArgs s_law_weight) (defBody s_law_weight) (defScope s_law_weight) .none kV52 dc52 pm52 an52 cd52 ct52), sl52⟩) (c52 : PySem.W.codeIn K cd52 "_law_weight" = true) (k52 : PySem.W.keepIn K (.ref f52) = true)
    {od53 an53 : Option Addr} {sl53 : Array (Option Value)} {oc53 kV53 dc53 pm53 cd53 ct53 : Value}
    (a53 : PySem.W.nsIn K mainGlobals "_law_alike" = some (some (.ref f53))) (l53 : K.lookup f53 = some ⟨oc53, od53, .func (PySem.W.fnOf "_law_alike" "_law_alike" (defArgs s_law_alike) (defBody s_law_alike) (defScope s_law_alike) .none kV53 dc53 pm53 an53 cd53 ct53), sl53⟩) (c53 : PySem.W.codeIn K cd53 "_law_alike" = true) (k53 : PySem.W.keepIn K (.ref f53) = true)
    {od54 an54 : Option Addr} {sl54 : Array (Option Value)} {oc54 kV54 dc54 pm54 cd54 ct54 : Value}
    (a54 : PySem.W.nsIn K mainGlobals "_law_flat" = some (some (.ref f54))) (l54 : K.lookup f54 = some ⟨oc54, od54, .func (PySem.W.fnOf "_law_flat" "_law_flat" (defArgs s_law_flat) (defBody s_law_flat) (defScope s_law_flat) .none kV54 dc54 pm54 an54 cd54 ct54), sl54⟩) (c54 : PySem.W.codeIn K cd54 "_law_flat" = true) (k54 : PySem.W.keepIn K (.ref f54) = true)
    {od55 an55 : Option Addr} {sl55 : Array (Option Value)} {oc55 kV55 dc55 pm55 cd55 ct55 : Value}
    (a55 : PySem.W.nsIn K mainGlobals "_law_chain" = some (some (.ref f55))) (l55 : K.lookup f55 = some ⟨oc55, od55, .func (PySem.W.fnOf "_law_chain" "_law_chain" (defArgs s_law_chain) (defBody s_law_chain) (defScope s_law_chain) .none kV55 dc55 pm55 an55 cd55 ct55), sl55⟩) (c55 : PySem.W.codeIn K cd55 "_law_chain" = true) (k55 : PySem.W.keepIn K (.ref f55) = true)
    {od56 an56 : Option Addr} {sl56 : Array (Option Value)} {oc56 kV56 dc56 pm56 cd56 ct56 : Value}
    (a56 : PySem.W.nsIn K mainGlobals "_law_text" = some (some (.ref f56))) (l56 : K.lookup f56 = some ⟨oc56, od56, .func (PySem.W.fnOf "_law_text" "_law_text" (defArgs s_law_text) (defBody s_law_text) (defScope s_law_text) .none kV56 dc56 pm56 an56 cd56 ct56), sl56⟩) (c56 : PySem.W.codeIn K cd56 "_law_text" = true) (k56 : PySem.W.keepIn K (.ref f56) = true)
    {od57 an57 : Option Addr} {sl57 : Array (Option Value)} {oc57 kV57 dc57 pm57 cd57 ct57 : Value}
    (a57 : PySem.W.nsIn K mainGlobals "_law_told" = some (some (.ref f57))) (l57 : K.lookup f57 = some ⟨oc57, od57, .func (PySem.W.fnOf "_law_told" "_law_told" (defArgs s_law_told) (defBody s_law_told) (defScope s_law_told) .none kV57 dc57 pm57 an57 cd57 ct57), sl57⟩) (c57 : PySem.W.codeIn K cd57 "_law_told" = true) (k57 : PySem.W.keepIn K (.ref f57) = true)
    {od58 an58 : Option Addr} {sl58 : Array (Option Value)} {oc58 kV58 dc58 pm58 cd58 ct58 : Value}
    (a58 : PySem.W.nsIn K mainGlobals "law" = some (some (.ref f58))) (l58 : K.lookup f58 = some ⟨oc58, od58, .func (PySem.W.fnOf "law" "law" (defArgs s_law) (defBody s_law) (defScope s_law) .none kV58 dc58 pm58 an58 cd58 ct58), sl58⟩) (c58 : PySem.W.codeIn K cd58 "law" = true) (k58 : PySem.W.keepIn K (.ref f58) = true)
    (z_all : PySem.W.nsIn K mainGlobals "all" = some none)
    (z_bool : PySem.W.nsIn K mainGlobals "bool" = some none)
    (z_enumerate : PySem.W.nsIn K mainGlobals "enumerate" = some none)
    (z_int : PySem.W.nsIn K mainGlobals "int" = some none)
    (z_isinstance : PySem.W.nsIn K mainGlobals "isinstance" = some none)
    (z_len : PySem.W.nsIn K mainGlobals "len" = some none)
    (z_list : PySem.W.nsIn K mainGlobals "list" = some none)
    (z_max : PySem.W.nsIn K mainGlobals "max" = some none)
    (z_min : PySem.W.nsIn K mainGlobals "min" = some none)
    (z_range : PySem.W.nsIn K mainGlobals "range" = some none)
    (z_set : PySem.W.nsIn K mainGlobals "set" = some none)
    (z_str : PySem.W.nsIn K mainGlobals "str" = some none)
    (z_sum : PySem.W.nsIn K mainGlobals "sum" = some none)
    (z_tuple : PySem.W.nsIn K mainGlobals "tuple" = some none)
    {t_BRACKETS : Tok} (g_BRACKETS : PySem.W.nsIn K mainGlobals "BRACKETS" = some (some (.int 12 t_BRACKETS)))
    {t_CAPITALS : Tok} (g_CAPITALS : PySem.W.nsIn K mainGlobals "CAPITALS" = some (some (.str "ABCDEFGHIJKLMNOPQRSTUVWXYZ" t_CAPITALS)))
    {t_DEEP : Tok} (g_DEEP : PySem.W.nsIn K mainGlobals "DEEP" = some (some (.int 12 t_DEEP)))
    {t_DIGITS : Tok} (g_DIGITS : PySem.W.nsIn K mainGlobals "DIGITS" = some (some (.str "0123456789" t_DIGITS)))
    {t_FIGURES : Tok} (g_FIGURES : PySem.W.nsIn K mainGlobals "FIGURES" = some (some (.int 60 t_FIGURES)))
    {t_GOALS : Tok} (g_GOALS : PySem.W.nsIn K mainGlobals "GOALS" = some (some (.int 6 t_GOALS)))
    {p_KEPT : Addr} {t_KEPT_0 : Tok} {t_KEPT_1 : Tok} {t_KEPT_2 : Tok} {t_KEPT_3 : Tok} {t_KEPT_4 : Tok} {t_KEPT_5 : Tok} {t_KEPT_6 : Tok} {t_KEPT_7 : Tok} {t_KEPT_8 : Tok} {t_KEPT_9 : Tok} {t_KEPT_10 : Tok} {t_KEPT_11 : Tok} {t_KEPT_12 : Tok} {t_KEPT_13 : Tok} {t_KEPT_14 : Tok} {o_KEPT : Option Addr} {n_KEPT : Nat} {s_KEPT : Array (Option Value)} (l_KEPT : K.lookup p_KEPT = some ⟨.type "tuple", o_KEPT, .seq #[.str "op" t_KEPT_0, .str "mode" t_KEPT_1, .str "table" t_KEPT_2, .str "not" t_KEPT_3, .str "is" t_KEPT_4, .str "in" t_KEPT_5, .str "such" t_KEPT_6, .str "and" t_KEPT_7, .str "=" t_KEPT_8, .str "<" t_KEPT_9, .str "=<" t_KEPT_10, .str "==" t_KEPT_11, .str "=/=" t_KEPT_12, .str ".." t_KEPT_13, .str "<-" t_KEPT_14] n_KEPT, s_KEPT⟩) (g_KEPT : PySem.W.nsIn K mainGlobals "KEPT" = some (some (.ref p_KEPT)))
    {t_LEVELS : Tok} (g_LEVELS : PySem.W.nsIn K mainGlobals "LEVELS" = some (some (.int 9 t_LEVELS)))
    {p_LEVEL_PIECES : Addr} {t_LEVEL_PIECES_0 : Tok} {t_LEVEL_PIECES_1 : Tok} {t_LEVEL_PIECES_2 : Tok} {t_LEVEL_PIECES_3 : Tok} {t_LEVEL_PIECES_4 : Tok} {t_LEVEL_PIECES_5 : Tok} {t_LEVEL_PIECES_6 : Tok} {t_LEVEL_PIECES_7 : Tok} {t_LEVEL_PIECES_8 : Tok} {o_LEVEL_PIECES : Option Addr} {n_LEVEL_PIECES : Nat} {s_LEVEL_PIECES : Array (Option Value)} (l_LEVEL_PIECES : K.lookup p_LEVEL_PIECES = some ⟨.type "tuple", o_LEVEL_PIECES, .seq #[.str "1" t_LEVEL_PIECES_0, .str "2" t_LEVEL_PIECES_1, .str "3" t_LEVEL_PIECES_2, .str "4" t_LEVEL_PIECES_3, .str "5" t_LEVEL_PIECES_4, .str "6" t_LEVEL_PIECES_5, .str "7" t_LEVEL_PIECES_6, .str "8" t_LEVEL_PIECES_7, .str "9" t_LEVEL_PIECES_8] n_LEVEL_PIECES, s_LEVEL_PIECES⟩) (g_LEVEL_PIECES : PySem.W.nsIn K mainGlobals "LEVEL_PIECES" = some (some (.ref p_LEVEL_PIECES)))
    {t_MARKS : Tok} (g_MARKS : PySem.W.nsIn K mainGlobals "MARKS" = some (some (.str "+-*/<>=&!?^@#:|.$" t_MARKS)))
    {t_MARK_SIGNS : Tok} (g_MARK_SIGNS : PySem.W.nsIn K mainGlobals "MARK_SIGNS" = some (some (.int 3 t_MARK_SIGNS)))
    {t_OPERATORS : Tok} (g_OPERATORS : PySem.W.nsIn K mainGlobals "OPERATORS" = some (some (.int 12 t_OPERATORS)))
    {p_OWN : Addr} {p_OWN_15 : Addr} {p_OWN_14 : Addr} {p_OWN_13 : Addr} {p_OWN_12 : Addr} {p_OWN_11 : Addr} {p_OWN_10 : Addr} {p_OWN_9 : Addr} {p_OWN_8 : Addr} {p_OWN_7 : Addr} {p_OWN_6 : Addr} {p_OWN_5 : Addr} {p_OWN_4 : Addr} {p_OWN_3 : Addr} {p_OWN_2 : Addr} {p_OWN_1 : Addr} {p_OWN_0 : Addr} {t_OWN_0_0 : Tok} {t_OWN_0_1 : Tok} {t_OWN_0_2 : Tok} {o_OWN_0 : Option Addr} {n_OWN_0 : Nat} {s_OWN_0 : Array (Option Value)} (l_OWN_0 : K.lookup p_OWN_0 = some ⟨.type "tuple", o_OWN_0, .seq #[.int 9 t_OWN_0_0, .str "none" t_OWN_0_1, .str "such" t_OWN_0_2] n_OWN_0, s_OWN_0⟩) {t_OWN_1_0 : Tok} {t_OWN_1_1 : Tok} {t_OWN_1_2 : Tok} {o_OWN_1 : Option Addr} {n_OWN_1 : Nat} {s_OWN_1 : Array (Option Value)} (l_OWN_1 : K.lookup p_OWN_1 = some ⟨.type "tuple", o_OWN_1, .seq #[.int 8 t_OWN_1_0, .str "right" t_OWN_1_1, .str "and" t_OWN_1_2] n_OWN_1, s_OWN_1⟩) {t_OWN_2_0 : Tok} {t_OWN_2_1 : Tok} {t_OWN_2_2 : Tok} {o_OWN_2 : Option Addr} {n_OWN_2 : Nat} {s_OWN_2 : Array (Option Value)} (l_OWN_2 : K.lookup p_OWN_2 = some ⟨.type "tuple", o_OWN_2, .seq #[.int 7 t_OWN_2_0, .str "none" t_OWN_2_1, .str "in" t_OWN_2_2] n_OWN_2, s_OWN_2⟩) {t_OWN_3_0 : Tok} {t_OWN_3_1 : Tok} {t_OWN_3_2 : Tok} {o_OWN_3 : Option Addr} {n_OWN_3 : Nat} {s_OWN_3 : Array (Option Value)} (l_OWN_3 : K.lookup p_OWN_3 = some ⟨.type "tuple", o_OWN_3, .seq #[.int 7 t_OWN_3_0, .str "ahead" t_OWN_3_1, .str "not" t_OWN_3_2] n_OWN_3, s_OWN_3⟩) {t_OWN_4_0 : Tok} {t_OWN_4_1 : Tok} {t_OWN_4_2 : Tok} {o_OWN_4 : Option Addr} {n_OWN_4 : Nat} {s_OWN_4 : Array (Option Value)} (l_OWN_4 : K.lookup p_OWN_4 = some ⟨.type "tuple", o_OWN_4, .seq #[.int 6 t_OWN_4_0, .str "none" t_OWN_4_1, .str "=" t_OWN_4_2] n_OWN_4, s_OWN_4⟩) {t_OWN_5_0 : Tok} {t_OWN_5_1 : Tok} {t_OWN_5_2 : Tok} {o_OWN_5 : Option Addr} {n_OWN_5 : Nat} {s_OWN_5 : Array (Option Value)} (l_OWN_5 : K.lookup p_OWN_5 = some ⟨.type "tuple", o_OWN_5, .seq #[.int 6 t_OWN_5_0, .str "none" t_OWN_5_1, .str "is" t_OWN_5_2] n_OWN_5, s_OWN_5⟩) {t_OWN_6_0 : Tok} {t_OWN_6_1 : Tok} {t_OWN_6_2 : Tok} {o_OWN_6 : Option Addr} {n_OWN_6 : Nat} {s_OWN_6 : Array (Option Value)} (l_OWN_6 : K.lookup p_OWN_6 = some ⟨.type "tuple", o_OWN_6, .seq #[.int 6 t_OWN_6_0, .str "none" t_OWN_6_1, .str "<" t_OWN_6_2] n_OWN_6, s_OWN_6⟩) {t_OWN_7_0 : Tok} {t_OWN_7_1 : Tok} {t_OWN_7_2 : Tok} {o_OWN_7 : Option Addr} {n_OWN_7 : Nat} {s_OWN_7 : Array (Option Value)} (l_OWN_7 : K.lookup p_OWN_7 = some ⟨.type "tuple", o_OWN_7, .seq #[.int 6 t_OWN_7_0, .str "none" t_OWN_7_1, .str "=<" t_OWN_7_2] n_OWN_7, s_OWN_7⟩) {t_OWN_8_0 : Tok} {t_OWN_8_1 : Tok} {t_OWN_8_2 : Tok} {o_OWN_8 : Option Addr} {n_OWN_8 : Nat} {s_OWN_8 : Array (Option Value)} (l_OWN_8 : K.lookup p_OWN_8 = some ⟨.type "tuple", o_OWN_8, .seq #[.int 6 t_OWN_8_0, .str "none" t_OWN_8_1, .str "==" t_OWN_8_2] n_OWN_8, s_OWN_8⟩) {t_OWN_9_0 : Tok} {t_OWN_9_1 : Tok} {t_OWN_9_2 : Tok} {o_OWN_9 : Option Addr} {n_OWN_9 : Nat} {s_OWN_9 : Array (Option Value)} (l_OWN_9 : K.lookup p_OWN_9 = some ⟨.type "tuple", o_OWN_9, .seq #[.int 6 t_OWN_9_0, .str "none" t_OWN_9_1, .str "=/=" t_OWN_9_2] n_OWN_9, s_OWN_9⟩) {t_OWN_10_0 : Tok} {t_OWN_10_1 : Tok} {t_OWN_10_2 : Tok} {o_OWN_10 : Option Addr} {n_OWN_10 : Nat} {s_OWN_10 : Array (Option Value)} (l_OWN_10 : K.lookup p_OWN_10 = some ⟨.type "tuple", o_OWN_10, .seq #[.int 6 t_OWN_10_0, .str "none" t_OWN_10_1, .str ".." t_OWN_10_2] n_OWN_10, s_OWN_10⟩) {t_OWN_11_0 : Tok} {t_OWN_11_1 : Tok} {t_OWN_11_2 : Tok} {o_OWN_11 : Option Addr} {n_OWN_11 : Nat} {s_OWN_11 : Array (Option Value)} (l_OWN_11 : K.lookup p_OWN_11 = some ⟨.type "tuple", o_OWN_11, .seq #[.int 4 t_OWN_11_0, .str "left" t_OWN_11_1, .str "+" t_OWN_11_2] n_OWN_11, s_OWN_11⟩) {t_OWN_12_0 : Tok} {t_OWN_12_1 : Tok} {t_OWN_12_2 : Tok} {o_OWN_12 : Option Addr} {n_OWN_12 : Nat} {s_OWN_12 : Array (Option Value)} (l_OWN_12 : K.lookup p_OWN_12 = some ⟨.type "tuple", o_OWN_12, .seq #[.int 4 t_OWN_12_0, .str "left" t_OWN_12_1, .str "-" t_OWN_12_2] n_OWN_12, s_OWN_12⟩) {t_OWN_13_0 : Tok} {t_OWN_13_1 : Tok} {t_OWN_13_2 : Tok} {o_OWN_13 : Option Addr} {n_OWN_13 : Nat} {s_OWN_13 : Array (Option Value)} (l_OWN_13 : K.lookup p_OWN_13 = some ⟨.type "tuple", o_OWN_13, .seq #[.int 3 t_OWN_13_0, .str "left" t_OWN_13_1, .str "*" t_OWN_13_2] n_OWN_13, s_OWN_13⟩) {t_OWN_14_0 : Tok} {t_OWN_14_1 : Tok} {t_OWN_14_2 : Tok} {o_OWN_14 : Option Addr} {n_OWN_14 : Nat} {s_OWN_14 : Array (Option Value)} (l_OWN_14 : K.lookup p_OWN_14 = some ⟨.type "tuple", o_OWN_14, .seq #[.int 3 t_OWN_14_0, .str "left" t_OWN_14_1, .str "//" t_OWN_14_2] n_OWN_14, s_OWN_14⟩) {t_OWN_15_0 : Tok} {t_OWN_15_1 : Tok} {t_OWN_15_2 : Tok} {o_OWN_15 : Option Addr} {n_OWN_15 : Nat} {s_OWN_15 : Array (Option Value)} (l_OWN_15 : K.lookup p_OWN_15 = some ⟨.type "tuple", o_OWN_15, .seq #[.int 3 t_OWN_15_0, .str "left" t_OWN_15_1, .str "mod" t_OWN_15_2] n_OWN_15, s_OWN_15⟩) {o_OWN : Option Addr} {n_OWN : Nat} {s_OWN : Array (Option Value)} (l_OWN : K.lookup p_OWN = some ⟨.type "tuple", o_OWN, .seq #[.ref p_OWN_0, .ref p_OWN_1, .ref p_OWN_2, .ref p_OWN_3, .ref p_OWN_4, .ref p_OWN_5, .ref p_OWN_6, .ref p_OWN_7, .ref p_OWN_8, .ref p_OWN_9, .ref p_OWN_10, .ref p_OWN_11, .ref p_OWN_12, .ref p_OWN_13, .ref p_OWN_14, .ref p_OWN_15] n_OWN, s_OWN⟩) (g_OWN : PySem.W.nsIn K mainGlobals "OWN" = some (some (.ref p_OWN)))
    {t_PARTS : Tok} (g_PARTS : PySem.W.nsIn K mainGlobals "PARTS" = some (some (.int 4 t_PARTS)))
    {t_PIECES : Tok} (g_PIECES : PySem.W.nsIn K mainGlobals "PIECES" = some (some (.int 200 t_PIECES)))
    {p_PLACES_PIECES : Addr} {t_PLACES_PIECES_0 : Tok} {t_PLACES_PIECES_1 : Tok} {t_PLACES_PIECES_2 : Tok} {t_PLACES_PIECES_3 : Tok} {t_PLACES_PIECES_4 : Tok} {o_PLACES_PIECES : Option Addr} {n_PLACES_PIECES : Nat} {s_PLACES_PIECES : Array (Option Value)} (l_PLACES_PIECES : K.lookup p_PLACES_PIECES = some ⟨.type "tuple", o_PLACES_PIECES, .seq #[.str "0" t_PLACES_PIECES_0, .str "1" t_PLACES_PIECES_1, .str "2" t_PLACES_PIECES_2, .str "3" t_PLACES_PIECES_3, .str "4" t_PLACES_PIECES_4] n_PLACES_PIECES, s_PLACES_PIECES⟩) (g_PLACES_PIECES : PySem.W.nsIn K mainGlobals "PLACES_PIECES" = some (some (.ref p_PLACES_PIECES)))
    {t_RANGES : Tok} (g_RANGES : PySem.W.nsIn K mainGlobals "RANGES" = some (some (.int 3 t_RANGES)))
    {p_SIDES : Addr} {t_SIDES_0 : Tok} {t_SIDES_1 : Tok} {t_SIDES_2 : Tok} {t_SIDES_3 : Tok} {o_SIDES : Option Addr} {n_SIDES : Nat} {s_SIDES : Array (Option Value)} (l_SIDES : K.lookup p_SIDES = some ⟨.type "tuple", o_SIDES, .seq #[.str "left" t_SIDES_0, .str "right" t_SIDES_1, .str "none" t_SIDES_2, .str "ahead" t_SIDES_3] n_SIDES, s_SIDES⟩) (g_SIDES : PySem.W.nsIn K mainGlobals "SIDES" = some (some (.ref p_SIDES)))
    {t_SIZE : Tok} (g_SIZE : PySem.W.nsIn K mainGlobals "SIZE" = some (some (.int 60 t_SIZE)))
    {t_SMALLS : Tok} (g_SMALLS : PySem.W.nsIn K mainGlobals "SMALLS" = some (some (.str "abcdefghijklmnopqrstuvwxyz" t_SMALLS)))
    {p_SUM_SIGNS : Addr} {t_SUM_SIGNS_0 : Tok} {t_SUM_SIGNS_1 : Tok} {t_SUM_SIGNS_2 : Tok} {t_SUM_SIGNS_3 : Tok} {t_SUM_SIGNS_4 : Tok} {o_SUM_SIGNS : Option Addr} {n_SUM_SIGNS : Nat} {s_SUM_SIGNS : Array (Option Value)} (l_SUM_SIGNS : K.lookup p_SUM_SIGNS = some ⟨.type "tuple", o_SUM_SIGNS, .seq #[.str "+" t_SUM_SIGNS_0, .str "-" t_SUM_SIGNS_1, .str "*" t_SUM_SIGNS_2, .str "//" t_SUM_SIGNS_3, .str "mod" t_SUM_SIGNS_4] n_SUM_SIGNS, s_SUM_SIGNS⟩) (g_SUM_SIGNS : PySem.W.nsIn K mainGlobals "SUM_SIGNS" = some (some (.ref p_SUM_SIGNS)))
    {t_TESTS : Tok} (g_TESTS : PySem.W.nsIn K mainGlobals "TESTS" = some (some (.int 4 t_TESTS)))
    {p_TEST_SIGNS : Addr} {t_TEST_SIGNS_0 : Tok} {t_TEST_SIGNS_1 : Tok} {t_TEST_SIGNS_2 : Tok} {t_TEST_SIGNS_3 : Tok} {o_TEST_SIGNS : Option Addr} {n_TEST_SIGNS : Nat} {s_TEST_SIGNS : Array (Option Value)} (l_TEST_SIGNS : K.lookup p_TEST_SIGNS = some ⟨.type "tuple", o_TEST_SIGNS, .seq #[.str "<" t_TEST_SIGNS_0, .str "=<" t_TEST_SIGNS_1, .str "==" t_TEST_SIGNS_2, .str "=/=" t_TEST_SIGNS_3] n_TEST_SIGNS, s_TEST_SIGNS⟩) (g_TEST_SIGNS : PySem.W.nsIn K mainGlobals "TEST_SIGNS" = some (some (.ref p_TEST_SIGNS)))
    {t_WORD_SIGNS : Tok} (g_WORD_SIGNS : PySem.W.nsIn K mainGlobals "WORD_SIGNS" = some (some (.int 12 t_WORD_SIGNS)))
    {C_BadShape N_BadShape I_BadShape : Addr} {nm_BadShape q_BadShape : Str} {bs_BadShape : List Value} {sn_BadShape : List Str} {sub_BadShape : List Value} {ab_BadShape : Bool} {col_BadShape : Option Bool} {dd_BadShape : Option Addr} {k0_BadShape k1_BadShape k2_BadShape k3_BadShape k5_BadShape : Option Value}
    (m_BadShape : PySem.W.nsIn K mainGlobals "BadShape" = some (some (.ref C_BadShape)))
    (x_BadShape : K.lookup C_BadShape = some (excClassObj nm_BadShape q_BadShape C_BadShape N_BadShape bs_BadShape [.ref B_GoalError, .type "ValueError", .type "Exception", .type "BaseException", .type "object"] true sn_BadShape sub_BadShape ab_BadShape col_BadShape dd_BadShape k0_BadShape k1_BadShape k2_BadShape k3_BadShape k5_BadShape "ValueError.__new__"))
    (sa_BadShape : PySem.W.findIn K (.ref C_BadShape) "__setattr__" = some (some (.builtin "object.__setattr__"))) (ga_BadShape : PySem.W.findIn K (.ref C_BadShape) "__getattribute__" = some (some (.builtin "BaseException.__getattribute__"))) (gg_BadShape : PySem.W.findIn K (.ref C_BadShape) "__getattr__" = some none) (nf_BadShape : PySem.W.findIn K (.ref C_BadShape) "line" = some none)
    (ex_BadShape : PySem.W.subIn K (.ref C_BadShape) (.type "BaseException") = some true) (ty_BadShape : PySem.W.typeIn K (.ref C_BadShape) = some (.type "type")) (kc_BadShape : PySem.W.keepIn K (.ref C_BadShape) = true) (hd_BadShape : PySem.W.hasDictIn K C_BadShape = true) (ic_BadShape : PySem.W.isClsIn K C_BadShape = true) (ss_BadShape : PySem.W.subIn K (.ref C_BadShape) (.ref C_BadShape) = some true)
    (i_BadShape : PySem.W.findIn K (.ref C_BadShape) "__init__" = some (some (.ref I_BadShape))) (ti_BadShape : PySem.W.typeIn K (.ref I_BadShape) = some (.type "function"))
    {od_BadShape an_BadShape : Option Addr} {sl_BadShape : Array (Option Value)} {oc_BadShape kV_BadShape dc_BadShape pm_BadShape cd_BadShape ct_BadShape : Value}
    (l_BadShape : K.lookup I_BadShape = some ⟨oc_BadShape, od_BadShape, .func (PySem.W.fnOf "__init__" "BadShape.__init__" (defArgs s_BadShape) (defBody s_BadShape) (defScope s_BadShape) .none kV_BadShape dc_BadShape pm_BadShape an_BadShape cd_BadShape ct_BadShape), sl_BadShape⟩) (c_BadShape : PySem.W.codeIn K cd_BadShape "BadShape.__init__" = true) (k_BadShape : PySem.W.keepIn K (.ref I_BadShape) = true)
    {C_BadSize N_BadSize I_BadSize : Addr} {nm_BadSize q_BadSize : Str} {bs_BadSize : List Value} {sn_BadSize : List Str} {sub_BadSize : List Value} {ab_BadSize : Bool} {col_BadSize : Option Bool} {dd_BadSize : Option Addr} {k0_BadSize k1_BadSize k2_BadSize k3_BadSize k5_BadSize : Option Value}
    (m_BadSize : PySem.W.nsIn K mainGlobals "BadSize" = some (some (.ref C_BadSize)))
    (x_BadSize : K.lookup C_BadSize = some (excClassObj nm_BadSize q_BadSize C_BadSize N_BadSize bs_BadSize [.ref B_GoalError, .type "ValueError", .type "Exception", .type "BaseException", .type "object"] true sn_BadSize sub_BadSize ab_BadSize col_BadSize dd_BadSize k0_BadSize k1_BadSize k2_BadSize k3_BadSize k5_BadSize "ValueError.__new__"))
    (sa_BadSize : PySem.W.findIn K (.ref C_BadSize) "__setattr__" = some (some (.builtin "object.__setattr__"))) (ga_BadSize : PySem.W.findIn K (.ref C_BadSize) "__getattribute__" = some (some (.builtin "BaseException.__getattribute__"))) (gg_BadSize : PySem.W.findIn K (.ref C_BadSize) "__getattr__" = some none) (nf_BadSize : PySem.W.findIn K (.ref C_BadSize) "line" = some none)
    (ex_BadSize : PySem.W.subIn K (.ref C_BadSize) (.type "BaseException") = some true) (ty_BadSize : PySem.W.typeIn K (.ref C_BadSize) = some (.type "type")) (kc_BadSize : PySem.W.keepIn K (.ref C_BadSize) = true) (hd_BadSize : PySem.W.hasDictIn K C_BadSize = true) (ic_BadSize : PySem.W.isClsIn K C_BadSize = true) (ss_BadSize : PySem.W.subIn K (.ref C_BadSize) (.ref C_BadSize) = some true)
    (i_BadSize : PySem.W.findIn K (.ref C_BadSize) "__init__" = some (some (.ref I_BadSize))) (ti_BadSize : PySem.W.typeIn K (.ref I_BadSize) = some (.type "function"))
    {od_BadSize an_BadSize : Option Addr} {sl_BadSize : Array (Option Value)} {oc_BadSize kV_BadSize dc_BadSize pm_BadSize cd_BadSize ct_BadSize : Value}
    (l_BadSize : K.lookup I_BadSize = some ⟨oc_BadSize, od_BadSize, .func (PySem.W.fnOf "__init__" "BadSize.__init__" (defArgs s_BadSize) (defBody s_BadSize) (defScope s_BadSize) .none kV_BadSize dc_BadSize pm_BadSize an_BadSize cd_BadSize ct_BadSize), sl_BadSize⟩) (c_BadSize : PySem.W.codeIn K cd_BadSize "BadSize.__init__" = true) (k_BadSize : PySem.W.keepIn K (.ref I_BadSize) = true)
    {C_ : Addr} (m_C_ : PySem.W.nsIn K mainGlobals "OperatorTable" = some (some (.ref C_))) (t_pgC_ : PySem.W.plainGet K C_ Str.empty = true) (t_hdC_ : PySem.W.hasDictIn K C_ = true) (t_poC_ : PySem.W.plainOver K C_ = true) (t_saC_ : PySem.W.findIn K (.ref C_) "__setattr__" = some (some (.builtin "object.__setattr__"))) (t_mkC_ : PySem.W.makesIn K C_ = true) (t_kcC_ : PySem.W.keepIn K (.ref C_) = true) (t_n_betweenC_ : PySem.W.findIn K (.ref C_) "between" = some none) (t_n_aheadC_ : PySem.W.findIn K (.ref C_) "ahead" = some none)
    {g_C_init : Addr} {od_C_init an_C_init : Option Addr} {sl_C_init : Array (Option Value)} {oc_C_init kV_C_init dc_C_init pm_C_init cd_C_init ct_C_init : Value} (u_C_init : PySem.W.findIn K (.ref C_) "__init__" = some (some (.ref g_C_init))) (i_C_init : PySem.W.isFn K (.ref g_C_init) = true) (l_C_init : K.lookup g_C_init = some ⟨oc_C_init, od_C_init, .func (PySem.W.fnOf "__init__" "OperatorTable.__init__" (defArgs s_OperatorTable_init) (defBody s_OperatorTable_init) (defScope s_OperatorTable_init) .none kV_C_init dc_C_init pm_C_init an_C_init cd_C_init ct_C_init), sl_C_init⟩) (c_C_init : PySem.W.codeIn K cd_C_init "OperatorTable.__init__" = true) (k_C_init : PySem.W.keepIn K (.ref g_C_init) = true)
    {g_C_has : Addr} {od_C_has an_C_has : Option Addr} {sl_C_has : Array (Option Value)} {oc_C_has kV_C_has dc_C_has pm_C_has cd_C_has ct_C_has : Value} (u_C_has : PySem.W.findIn K (.ref C_) "has" = some (some (.ref g_C_has))) (i_C_has : PySem.W.isFn K (.ref g_C_has) = true) (l_C_has : K.lookup g_C_has = some ⟨oc_C_has, od_C_has, .func (PySem.W.fnOf "has" "OperatorTable.has" (defArgs s_OperatorTable_has) (defBody s_OperatorTable_has) (defScope s_OperatorTable_has) .none kV_C_has dc_C_has pm_C_has an_C_has cd_C_has ct_C_has), sl_C_has⟩) (c_C_has : PySem.W.codeIn K cd_C_has "OperatorTable.has" = true) (k_C_has : PySem.W.keepIn K (.ref g_C_has) = true)
    {g_C_left_bound : Addr} {od_C_left_bound an_C_left_bound : Option Addr} {sl_C_left_bound : Array (Option Value)} {oc_C_left_bound kV_C_left_bound dc_C_left_bound pm_C_left_bound cd_C_left_bound ct_C_left_bound : Value} (u_C_left_bound : PySem.W.findIn K (.ref C_) "left_bound" = some (some (.ref g_C_left_bound))) (i_C_left_bound : PySem.W.isFn K (.ref g_C_left_bound) = true) (l_C_left_bound : K.lookup g_C_left_bound = some ⟨oc_C_left_bound, od_C_left_bound, .func (PySem.W.fnOf "left_bound" "OperatorTable.left_bound" (defArgs s_OperatorTable_left_bound) (defBody s_OperatorTable_left_bound) (defScope s_OperatorTable_left_bound) .none kV_C_left_bound dc_C_left_bound pm_C_left_bound an_C_left_bound cd_C_left_bound ct_C_left_bound), sl_C_left_bound⟩) (c_C_left_bound : PySem.W.codeIn K cd_C_left_bound "OperatorTable.left_bound" = true) (k_C_left_bound : PySem.W.keepIn K (.ref g_C_left_bound) = true)
    {g_C_right_bound : Addr} {od_C_right_bound an_C_right_bound : Option Addr} {sl_C_right_bound : Array (Option Value)} {oc_C_right_bound kV_C_right_bound dc_C_right_bound pm_C_right_bound cd_C_right_bound ct_C_right_bound : Value} (u_C_right_bound : PySem.W.findIn K (.ref C_) "right_bound" = some (some (.ref g_C_right_bound))) (i_C_right_bound : PySem.W.isFn K (.ref g_C_right_bound) = true) (l_C_right_bound : K.lookup g_C_right_bound = some ⟨oc_C_right_bound, od_C_right_bound, .func (PySem.W.fnOf "right_bound" "OperatorTable.right_bound" (defArgs s_OperatorTable_right_bound) (defBody s_OperatorTable_right_bound) (defScope s_OperatorTable_right_bound) .none kV_C_right_bound dc_C_right_bound pm_C_right_bound an_C_right_bound cd_C_right_bound ct_C_right_bound), sl_C_right_bound⟩) (c_C_right_bound : PySem.W.codeIn K cd_C_right_bound "OperatorTable.right_bound" = true) (k_C_right_bound : PySem.W.keepIn K (.ref g_C_right_bound) = true)
    {g_C_ahead_bound : Addr} {od_C_ahead_bound an_C_ahead_bound : Option Addr} {sl_C_ahead_bound : Array (Option Value)} {oc_C_ahead_bound kV_C_ahead_bound dc_C_ahead_bound pm_C_ahead_bound cd_C_ahead_bound ct_C_ahead_bound : Value} (u_C_ahead_bound : PySem.W.findIn K (.ref C_) "ahead_bound" = some (some (.ref g_C_ahead_bound))) (i_C_ahead_bound : PySem.W.isFn K (.ref g_C_ahead_bound) = true) (l_C_ahead_bound : K.lookup g_C_ahead_bound = some ⟨oc_C_ahead_bound, od_C_ahead_bound, .func (PySem.W.fnOf "ahead_bound" "OperatorTable.ahead_bound" (defArgs s_OperatorTable_ahead_bound) (defBody s_OperatorTable_ahead_bound) (defScope s_OperatorTable_ahead_bound) .none kV_C_ahead_bound dc_C_ahead_bound pm_C_ahead_bound an_C_ahead_bound cd_C_ahead_bound ct_C_ahead_bound), sl_C_ahead_bound⟩) (c_C_ahead_bound : PySem.W.codeIn K cd_C_ahead_bound "OperatorTable.ahead_bound" = true) (k_C_ahead_bound : PySem.W.keepIn K (.ref g_C_ahead_bound) = true)
    {D_ : Addr} (m_D_ : PySem.W.nsIn K mainGlobals "Reading" = some (some (.ref D_))) (t_pgD_ : PySem.W.plainGet K D_ Str.empty = true) (t_hdD_ : PySem.W.hasDictIn K D_ = true) (t_poD_ : PySem.W.plainOver K D_ = true) (t_saD_ : PySem.W.findIn K (.ref D_) "__setattr__" = some (some (.builtin "object.__setattr__"))) (t_mkD_ : PySem.W.makesIn K D_ = true) (t_kcD_ : PySem.W.keepIn K (.ref D_) = true) (t_n_piecesD_ : PySem.W.findIn K (.ref D_) "pieces" = some none) (t_n_tableD_ : PySem.W.findIn K (.ref D_) "table" = some none) (t_n_atD_ : PySem.W.findIn K (.ref D_) "at" = some none)
    {g_D_init : Addr} {od_D_init an_D_init : Option Addr} {sl_D_init : Array (Option Value)} {oc_D_init kV_D_init dc_D_init pm_D_init cd_D_init ct_D_init : Value} (u_D_init : PySem.W.findIn K (.ref D_) "__init__" = some (some (.ref g_D_init))) (i_D_init : PySem.W.isFn K (.ref g_D_init) = true) (l_D_init : K.lookup g_D_init = some ⟨oc_D_init, od_D_init, .func (PySem.W.fnOf "__init__" "Reading.__init__" (defArgs s_Reading_init) (defBody s_Reading_init) (defScope s_Reading_init) .none kV_D_init dc_D_init pm_D_init an_D_init cd_D_init ct_D_init), sl_D_init⟩) (c_D_init : PySem.W.codeIn K cd_D_init "Reading.__init__" = true) (k_D_init : PySem.W.keepIn K (.ref g_D_init) = true)
    {g_D_whole : Addr} {od_D_whole an_D_whole : Option Addr} {sl_D_whole : Array (Option Value)} {oc_D_whole kV_D_whole dc_D_whole pm_D_whole cd_D_whole ct_D_whole : Value} (u_D_whole : PySem.W.findIn K (.ref D_) "whole" = some (some (.ref g_D_whole))) (i_D_whole : PySem.W.isFn K (.ref g_D_whole) = true) (l_D_whole : K.lookup g_D_whole = some ⟨oc_D_whole, od_D_whole, .func (PySem.W.fnOf "whole" "Reading.whole" (defArgs s_Reading_whole) (defBody s_Reading_whole) (defScope s_Reading_whole) .none kV_D_whole dc_D_whole pm_D_whole an_D_whole cd_D_whole ct_D_whole), sl_D_whole⟩) (c_D_whole : PySem.W.codeIn K cd_D_whole "Reading.whole" = true) (k_D_whole : PySem.W.keepIn K (.ref g_D_whole) = true)
    {g_D_part : Addr} {od_D_part an_D_part : Option Addr} {sl_D_part : Array (Option Value)} {oc_D_part kV_D_part dc_D_part pm_D_part cd_D_part ct_D_part : Value} (u_D_part : PySem.W.findIn K (.ref D_) "part" = some (some (.ref g_D_part))) (i_D_part : PySem.W.isFn K (.ref g_D_part) = true) (l_D_part : K.lookup g_D_part = some ⟨oc_D_part, od_D_part, .func (PySem.W.fnOf "part" "Reading.part" (defArgs s_Reading_part) (defBody s_Reading_part) (defScope s_Reading_part) .none kV_D_part dc_D_part pm_D_part an_D_part cd_D_part ct_D_part), sl_D_part⟩) (c_D_part : PySem.W.codeIn K cd_D_part "Reading.part" = true) (k_D_part : PySem.W.keepIn K (.ref g_D_part) = true)
    {g_D_goes_on : Addr} {od_D_goes_on an_D_goes_on : Option Addr} {sl_D_goes_on : Array (Option Value)} {oc_D_goes_on kV_D_goes_on dc_D_goes_on pm_D_goes_on cd_D_goes_on ct_D_goes_on : Value} (u_D_goes_on : PySem.W.findIn K (.ref D_) "goes_on" = some (some (.ref g_D_goes_on))) (i_D_goes_on : PySem.W.isFn K (.ref g_D_goes_on) = true) (l_D_goes_on : K.lookup g_D_goes_on = some ⟨oc_D_goes_on, od_D_goes_on, .func (PySem.W.fnOf "goes_on" "Reading.goes_on" (defArgs s_Reading_goes_on) (defBody s_Reading_goes_on) (defScope s_Reading_goes_on) .none kV_D_goes_on dc_D_goes_on pm_D_goes_on an_D_goes_on cd_D_goes_on ct_D_goes_on), sl_D_goes_on⟩) (c_D_goes_on : PySem.W.codeIn K cd_D_goes_on "Reading.goes_on" = true) (k_D_goes_on : PySem.W.keepIn K (.ref g_D_goes_on) = true)
    {g_D_first_part : Addr} {od_D_first_part an_D_first_part : Option Addr} {sl_D_first_part : Array (Option Value)} {oc_D_first_part kV_D_first_part dc_D_first_part pm_D_first_part cd_D_first_part ct_D_first_part : Value} (u_D_first_part : PySem.W.findIn K (.ref D_) "first_part" = some (some (.ref g_D_first_part))) (i_D_first_part : PySem.W.isFn K (.ref g_D_first_part) = true) (l_D_first_part : K.lookup g_D_first_part = some ⟨oc_D_first_part, od_D_first_part, .func (PySem.W.fnOf "first_part" "Reading.first_part" (defArgs s_Reading_first_part) (defBody s_Reading_first_part) (defScope s_Reading_first_part) .none kV_D_first_part dc_D_first_part pm_D_first_part an_D_first_part cd_D_first_part ct_D_first_part), sl_D_first_part⟩) (c_D_first_part : PySem.W.codeIn K cd_D_first_part "Reading.first_part" = true) (k_D_first_part : PySem.W.keepIn K (.ref g_D_first_part) = true)
    {g_D_plain_part : Addr} {od_D_plain_part an_D_plain_part : Option Addr} {sl_D_plain_part : Array (Option Value)} {oc_D_plain_part kV_D_plain_part dc_D_plain_part pm_D_plain_part cd_D_plain_part ct_D_plain_part : Value} (u_D_plain_part : PySem.W.findIn K (.ref D_) "plain_part" = some (some (.ref g_D_plain_part))) (i_D_plain_part : PySem.W.isFn K (.ref g_D_plain_part) = true) (l_D_plain_part : K.lookup g_D_plain_part = some ⟨oc_D_plain_part, od_D_plain_part, .func (PySem.W.fnOf "plain_part" "Reading.plain_part" (defArgs s_Reading_plain_part) (defBody s_Reading_plain_part) (defScope s_Reading_plain_part) .none kV_D_plain_part dc_D_plain_part pm_D_plain_part an_D_plain_part cd_D_plain_part ct_D_plain_part), sl_D_plain_part⟩) (c_D_plain_part : PySem.W.codeIn K cd_D_plain_part "Reading.plain_part" = true) (k_D_plain_part : PySem.W.keepIn K (.ref g_D_plain_part) = true)
    {g_D_parts_in_brackets : Addr} {od_D_parts_in_brackets an_D_parts_in_brackets : Option Addr} {sl_D_parts_in_brackets : Array (Option Value)} {oc_D_parts_in_brackets kV_D_parts_in_brackets dc_D_parts_in_brackets pm_D_parts_in_brackets cd_D_parts_in_brackets ct_D_parts_in_brackets : Value} (u_D_parts_in_brackets : PySem.W.findIn K (.ref D_) "parts_in_brackets" = some (some (.ref g_D_parts_in_brackets))) (i_D_parts_in_brackets : PySem.W.isFn K (.ref g_D_parts_in_brackets) = true) (l_D_parts_in_brackets : K.lookup g_D_parts_in_brackets = some ⟨oc_D_parts_in_brackets, od_D_parts_in_brackets, .func (PySem.W.fnOf "parts_in_brackets" "Reading.parts_in_brackets" (defArgs s_Reading_parts_in_brackets) (defBody s_Reading_parts_in_brackets) (defScope s_Reading_parts_in_brackets) .none kV_D_parts_in_brackets dc_D_parts_in_brackets pm_D_parts_in_brackets an_D_parts_in_brackets cd_D_parts_in_brackets ct_D_parts_in_brackets), sl_D_parts_in_brackets⟩) (c_D_parts_in_brackets : PySem.W.codeIn K cd_D_parts_in_brackets "Reading.parts_in_brackets" = true) (k_D_parts_in_brackets : PySem.W.keepIn K (.ref g_D_parts_in_brackets) = true)
    {g_D_is_next : Addr} {od_D_is_next an_D_is_next : Option Addr} {sl_D_is_next : Array (Option Value)} {oc_D_is_next kV_D_is_next dc_D_is_next pm_D_is_next cd_D_is_next ct_D_is_next : Value} (u_D_is_next : PySem.W.findIn K (.ref D_) "is_next" = some (some (.ref g_D_is_next))) (i_D_is_next : PySem.W.isFn K (.ref g_D_is_next) = true) (l_D_is_next : K.lookup g_D_is_next = some ⟨oc_D_is_next, od_D_is_next, .func (PySem.W.fnOf "is_next" "Reading.is_next" (defArgs s_Reading_is_next) (defBody s_Reading_is_next) (defScope s_Reading_is_next) .none kV_D_is_next dc_D_is_next pm_D_is_next an_D_is_next cd_D_is_next ct_D_is_next), sl_D_is_next⟩) (c_D_is_next : PySem.W.codeIn K cd_D_is_next "Reading.is_next" = true) (k_D_is_next : PySem.W.keepIn K (.ref g_D_is_next) = true)
    {g_D_take : Addr} {od_D_take an_D_take : Option Addr} {sl_D_take : Array (Option Value)} {oc_D_take kV_D_take dc_D_take pm_D_take cd_D_take ct_D_take : Value} (u_D_take : PySem.W.findIn K (.ref D_) "take" = some (some (.ref g_D_take))) (i_D_take : PySem.W.isFn K (.ref g_D_take) = true) (l_D_take : K.lookup g_D_take = some ⟨oc_D_take, od_D_take, .func (PySem.W.fnOf "take" "Reading.take" (defArgs s_Reading_take) (defBody s_Reading_take) (defScope s_Reading_take) .none kV_D_take dc_D_take pm_D_take an_D_take cd_D_take ct_D_take), sl_D_take⟩) (c_D_take : PySem.W.codeIn K cd_D_take "Reading.take" = true) (k_D_take : PySem.W.keepIn K (.ref g_D_take) = true)
    (n_hasD : PySem.W.findIn K (.ref D_) "has" = some none)
    {d_PS : Addr} {h_PS1 h_PS2 : Int} {t_PS1 t_PS2 t_PS3 t_PS4 : Tok} {n_PS : Nat} (g_PS : PySem.W.nsIn K mainGlobals "PLACE_SIGNS" = some (some (.ref d_PS))) (l_PS : K.lookup d_PS = some ⟨.type "dict", none, .dict #[⟨h_PS1, .str "in" t_PS1, .str "+" t_PS2⟩, ⟨h_PS2, .str "out" t_PS3, .str "-" t_PS4⟩] n_PS, #[]⟩) (kl_PS : PySem.W.KeysLit w.params [⟨h_PS1, .str "in" t_PS1, .str "+" t_PS2⟩, ⟨h_PS2, .str "out" t_PS3, .str "-" t_PS4⟩]) (lo_PS : (d_PS == sysModules) = false)
    {BP_ : Addr} (m_BP : PySem.W.nsIn K mainGlobals "BadPiece" = some (some (.ref BP_))) (eb_BP : PySem.W.subIn K (.ref BP_) (.type "BaseException") = some true) (ic_BP : PySem.W.isClsIn K BP_ = true) (ty_BP : PySem.W.typeIn K (.ref BP_) = some (.type "type")) (ss_zp : PySem.W.subIn K (.ref C_BadSize) (.ref BP_) = some false) (ss_sp : PySem.W.subIn K (.ref C_BadShape) (.ref BP_) = some false) (ss_sz : PySem.W.subIn K (.ref C_BadShape) (.ref C_BadSize) = some false) :
    ∃ fd : FuncData, (∀ (s : Shared) (v : Value), BindsTo s fd ⟨[v], []⟩ [("script", v)]) ∧ ∀ base : Heap, K.In base → base.Ns mainGlobals mg → FnOk l.prog w K mg base CX0 175 fa fd ["script"] (spLaw K) := by
  have e := hfa.symm.trans (PySem.W.mg_of X G a58)
  cases e
  have T : Txt mg := ⟨PySem.W.mg_none_of X G z_all, PySem.W.mg_none_of X G z_bool, PySem.W.mg_none_of X G z_enumerate, PySem.W.mg_none_of X G z_int, PySem.W.mg_none_of X G z_isinstance, PySem.W.mg_none_of X G z_len, PySem.W.mg_none_of X G z_list, PySem.W.mg_none_of X G z_max, PySem.W.mg_none_of X G z_min, PySem.W.mg_none_of X G z_range, PySem.W.mg_none_of X G z_set, PySem.W.mg_none_of X G z_str, PySem.W.mg_none_of X G z_sum, PySem.W.mg_none_of X G z_tuple, ⟨_, PySem.W.mg_of X G g_BRACKETS⟩, ⟨_, PySem.W.mg_of X G g_CAPITALS⟩, ⟨_, PySem.W.mg_of X G g_DEEP⟩, ⟨_, PySem.W.mg_of X G g_DIGITS⟩, ⟨_, PySem.W.mg_of X G g_FIGURES⟩, ⟨_, PySem.W.mg_of X G g_GOALS⟩, ⟨_, PySem.W.mg_of X G g_LEVELS⟩, ⟨_, PySem.W.mg_of X G g_MARKS⟩, ⟨_, PySem.W.mg_of X G g_MARK_SIGNS⟩, ⟨_, PySem.W.mg_of X G g_OPERATORS⟩, ⟨_, PySem.W.mg_of X G g_PARTS⟩, ⟨_, PySem.W.mg_of X G g_PIECES⟩, ⟨_, PySem.W.mg_of X G g_RANGES⟩, ⟨_, PySem.W.mg_of X G g_SIZE⟩, ⟨_, PySem.W.mg_of X G g_SMALLS⟩, ⟨_, PySem.W.mg_of X G g_TESTS⟩, ⟨_, PySem.W.mg_of X G g_WORD_SIGNS⟩⟩
  have TR : TxR K mg := by
    have V0 : ∀ H, SqT K H p_KEPT (keptL.map V.str) := fun H => .inr ⟨_, _, _, l_KEPT, rfl, rfl, sz (Nat.le_of_ble_eq_true rfl), by repeat (first | exact .nil | refine .cons ⟨_, rfl⟩ ?_)⟩
    refine ⟨⟨_, PySem.W.mg_of X G g_KEPT, V0⟩, ⟨_, [.ref p_OWN_0, .ref p_OWN_1, .ref p_OWN_2, .ref p_OWN_3, .ref p_OWN_4, .ref p_OWN_5, .ref p_OWN_6, .ref p_OWN_7, .ref p_OWN_8, .ref p_OWN_9, .ref p_OWN_10, .ref p_OWN_11, .ref p_OWN_12, .ref p_OWN_13, .ref p_OWN_14, .ref p_OWN_15], PySem.W.mg_of X G g_OWN, fun H => .inr ⟨_, _, _, l_OWN, rfl, rfl, sz (Nat.le_of_ble_eq_true rfl), by repeat (first | exact .nil | refine .cons rfl ?_)⟩, fun H => ?_⟩⟩
    exact .cons (.inr ⟨_, _, _, l_OWN_0, rfl, rfl, sz (Nat.le_of_ble_eq_true rfl), by repeat (first | exact .nil | refine .cons ⟨_, rfl⟩ ?_)⟩) <| .cons (.inr ⟨_, _, _, l_OWN_1, rfl, rfl, sz (Nat.le_of_ble_eq_true rfl), by repeat (first | exact .nil | refine .cons ⟨_, rfl⟩ ?_)⟩) <| .cons (.inr ⟨_, _, _, l_OWN_2, rfl, rfl, sz (Nat.le_of_ble_eq_true rfl), by repeat (first | exact .nil | refine .cons ⟨_, rfl⟩ ?_)⟩) <| .cons (.inr ⟨_, _, _, l_OWN_3, rfl, rfl, sz (Nat.le_of_ble_eq_true rfl), by repeat (first | exact .nil | refine .cons ⟨_, rfl⟩ ?_)⟩) <| .cons (.inr ⟨_, _, _, l_OWN_4, rfl, rfl, sz (Nat.le_of_ble_eq_true rfl), by repeat (first | exact .nil | refine .cons ⟨_, rfl⟩ ?_)⟩) <| .cons (.inr ⟨_, _, _, l_OWN_5, rfl, rfl, sz (Nat.le_of_ble_eq_true rfl), by repeat (first | exact .nil | refine .cons ⟨_, rfl⟩ ?_)⟩) <| .cons (.inr ⟨_, _, _, l_OWN_6, rfl, rfl, sz (Nat.le_of_ble_eq_true rfl), by repeat (first | exact .nil | refine .cons ⟨_, rfl⟩ ?_)⟩) <| .cons (.inr ⟨_, _, _, l_OWN_7, rfl, rfl, sz (Nat.le_of_ble_eq_true rfl), by repeat (first | exact .nil | refine .cons ⟨_, rfl⟩ ?_)⟩) <| .cons (.inr ⟨_, _, _, l_OWN_8, rfl, rfl, sz (Nat.le_of_ble_eq_true rfl), by repeat (first | exact .nil | refine .cons ⟨_, rfl⟩ ?_)⟩) <| .cons (.inr ⟨_, _, _, l_OWN_9, rfl, rfl, sz (Nat.le_of_ble_eq_true rfl), by repeat (first | exact .nil | refine .cons ⟨_, rfl⟩ ?_)⟩) <| .cons (.inr ⟨_, _, _, l_OWN_10, rfl, rfl, sz (Nat.le_of_ble_eq_true rfl), by repeat (first | exact .nil | refine .cons ⟨_, rfl⟩ ?_)⟩) <| .cons (.inr ⟨_, _, _, l_OWN_11, rfl, rfl, sz (Nat.le_of_ble_eq_true rfl), by repeat (first | exact .nil | refine .cons ⟨_, rfl⟩ ?_)⟩) <| .cons (.inr ⟨_, _, _, l_OWN_12, rfl, rfl, sz (Nat.le_of_ble_eq_true rfl), by repeat (first | exact .nil | refine .cons ⟨_, rfl⟩ ?_)⟩) <| .cons (.inr ⟨_, _, _, l_OWN_13, rfl, rfl, sz (Nat.le_of_ble_eq_true rfl), by repeat (first | exact .nil | refine .cons ⟨_, rfl⟩ ?_)⟩) <| .cons (.inr ⟨_, _, _, l_OWN_14, rfl, rfl, sz (Nat.le_of_ble_eq_true rfl), by repeat (first | exact .nil | refine .cons ⟨_, rfl⟩ ?_)⟩) <| .cons (.inr ⟨_, _, _, l_OWN_15, rfl, rfl, sz (Nat.le_of_ble_eq_true rfl), by repeat (first | exact .nil | refine .cons ⟨_, rfl⟩ ?_)⟩) <| .nil
  have TG : TxG K mg := ⟨⟨_, PySem.W.mg_of X G g_TEST_SIGNS, fun H => .inr ⟨_, _, _, l_TEST_SIGNS, rfl, rfl, sz (Nat.le_of_ble_eq_true rfl), by repeat (first | exact .nil | refine .cons ⟨_, rfl⟩ ?_)⟩⟩, ⟨_, PySem.W.mg_of X G g_SUM_SIGNS, fun H => .inr ⟨_, _, _, l_SUM_SIGNS, rfl, rfl, sz (Nat.le_of_ble_eq_true rfl), by repeat (first | exact .nil | refine .cons ⟨_, rfl⟩ ?_)⟩⟩⟩
  have TL_ : TxL K w mg := ⟨⟨_, PySem.W.mg_of X G g_LEVEL_PIECES, fun H => .inr ⟨_, _, _, l_LEVEL_PIECES, rfl, rfl, sz (Nat.le_of_ble_eq_true rfl), by repeat (first | exact .nil | refine .cons ⟨_, rfl⟩ ?_)⟩⟩, ⟨_, PySem.W.mg_of X G g_SIDES, fun H => .inr ⟨_, _, _, l_SIDES, rfl, rfl, sz (Nat.le_of_ble_eq_true rfl), by repeat (first | exact .nil | refine .cons ⟨_, rfl⟩ ?_)⟩⟩, ⟨_, PySem.W.mg_of X G g_PLACES_PIECES, fun H => .inr ⟨_, _, _, l_PLACES_PIECES, rfl, rfl, sz (Nat.le_of_ble_eq_true rfl), by repeat (first | exact .nil | refine .cons ⟨_, rfl⟩ ?_)⟩⟩, ⟨_, _, _, PySem.W.mg_of X G g_PS, ⟨l_PS, kl_PS, lo_PS⟩, (txl_kd l_PS).1, (txl_kd l_PS).2.1, (txl_kd l_PS).2.2⟩⟩
  have F0 := fun_mk (st := s_is_word) l0 c0 k0
  have b0 := F0.binds (ps := ["part"]) fun _ _ _ _ _ _ us hl => match us, hl with | [_], _ => rfl
  have F1 := fun_mk (st := s_is_unknown) l1 c1 k1
  have b1 := F1.binds (ps := ["part"]) fun _ _ _ _ _ _ us hl => match us, hl with | [_], _ => rfl
  have F2 := fun_mk (st := s_is_mark) l2 c2 k2
  have b2 := F2.binds (ps := ["part"]) fun _ _ _ _ _ _ us hl => match us, hl with | [_], _ => rfl
  have F3 := fun_mk (st := s_is_kept) l3 c3 k3
  have b3 := F3.binds (ps := ["part"]) fun _ _ _ _ _ _ us hl => match us, hl with | [_], _ => rfl
  have F4 := fun_mk (st := s_is_name) l4 c4 k4
  have b4 := F4.binds (ps := ["part"]) fun _ _ _ _ _ _ us hl => match us, hl with | [_], _ => rfl
  have F5 := fun_mk (st := s_own) l5 c5 k5
  have b5 := F5.binds (ps := []) fun _ _ _ _ _ _ us hl => match us, hl with | [], _ => rfl
  have F6 := fun_mk (st := s_run) l6 c6 k6
  have b6 := F6.binds (ps := ["line", "at", "signs"]) fun _ _ _ _ _ _ us hl => match us, hl with | [_, _, _], _ => rfl
  have F7 := fun_mk (st := s_end_of_piece) l7 c7 k7
  have b7 := F7.binds (ps := ["line", "at"]) fun _ _ _ _ _ _ us hl => match us, hl with | [_, _], _ => rfl
  have F8 := fun_mk (st := s_is_piece) l8 c8 k8
  have b8 := F8.binds (ps := ["text"]) fun _ _ _ _ _ _ us hl => match us, hl with | [_], _ => rfl
  have F9 := fun_mk (st := s_most_open) l9 c9 k9
  have b9 := F9.binds (ps := ["pieces"]) fun _ _ _ _ _ _ us hl => match us, hl with | [_], _ => rfl
  have F10 : FunD K "pieces_of" "pieces_of" (defArgs s_pieces_of) (defBody s_pieces_of) (defScope s_pieces_of) [] [("most", .int 200)] f10 _ := ⟨⟨_, _, _, _, _, _, _, _, _, _, rfl, l10, c10, .inl ⟨rfl, rfl⟩, .inr ⟨D10, rfl, fun q hq => by
    rw [List.mem_singleton.mp hq]
    exact ⟨uk10, q10, r10⟩⟩⟩, k10⟩
  have b10 := F10.binds0 (ps := ["line", "most"]) 1 (by simp) rfl fun D doc pm an cdv ct us ks h1 h2 => by
    match us, ks, h1, h2 with
    | [_], [_], _, _ => exact ⟨_, _, _, _, _, _, rfl, rfl, rfl⟩
  have B10 := FunD_kbindsN (ps := ["line", "most"]) F10 1 ["most"] fun kV doc pm an cdv ct us ws h1 h2 => by
    match us, ws, h1, h2 with
    | [_], [_], _, _ => rfl
  have F11 := fun_mk (st := s_read_pieces) l11 c11 k11
  have b11 := F11.binds (ps := ["pieces", "table"]) fun _ _ _ _ _ _ us hl => match us, hl with | [_, _], _ => rfl
  have F12 := fun_mk (st := s_size_of) l12 c12 k12
  have b12 := F12.binds (ps := ["pattern"]) fun _ _ _ _ _ _ us hl => match us, hl with | [_], _ => rfl
  have F13 := fun_mk (st := s_depth_of) l13 c13 k13
  have b13 := F13.binds (ps := ["pattern"]) fun _ _ _ _ _ _ us hl => match us, hl with | [_], _ => rfl
  have F14 := fun_mk (st := s_is_great) l14 c14 k14
  have b14 := F14.binds (ps := ["pattern"]) fun _ _ _ _ _ _ us hl => match us, hl with | [_], _ => rfl
  have F15 := fun_mk (st := s_is_pattern) l15 c15 k15
  have b15 := F15.binds (ps := ["reading"]) fun _ _ _ _ _ _ us hl => match us, hl with | [_], _ => rfl
  have F16 := fun_mk (st := s_unknowns_of) l16 c16 k16
  have b16 := F16.binds (ps := ["pattern"]) fun _ _ _ _ _ _ us hl => match us, hl with | [_], _ => rfl
  have F17 := fun_mk (st := s_is_named) l17 c17 k17
  have b17 := F17.binds (ps := ["reading", "names", "many"]) fun _ _ _ _ _ _ us hl => match us, hl with | [_, _, _], _ => rfl
  have F18 := fun_mk (st := s_is_sum) l18 c18 k18
  have b18 := F18.binds (ps := ["reading"]) fun _ _ _ _ _ _ us hl => match us, hl with | [_], _ => rfl
  have F19 := fun_mk (st := s_parted_by_and) l19 c19 k19
  have b19 := F19.binds (ps := ["reading"]) fun _ _ _ _ _ _ us hl => match us, hl with | [_], _ => rfl
  have F20 := fun_mk (st := s_is_relation) l20 c20 k20
  have b20 := F20.binds (ps := ["reading"]) fun _ _ _ _ _ _ us hl => match us, hl with | [_], _ => rfl
  have F21 := fun_mk (st := s_is_not) l21 c21 k21
  have b21 := F21.binds (ps := ["reading"]) fun _ _ _ _ _ _ us hl => match us, hl with | [_], _ => rfl
  have F22 := fun_mk (st := s_is_likeness) l22 c22 k22
  have b22 := F22.binds (ps := ["reading"]) fun _ _ _ _ _ _ us hl => match us, hl with | [_], _ => rfl
  have F23 := fun_mk (st := s_is_reckoning) l23 c23 k23
  have b23 := F23.binds (ps := ["reading"]) fun _ _ _ _ _ _ us hl => match us, hl with | [_], _ => rfl
  have F24 := fun_mk (st := s_is_test) l24 c24 k24
  have b24 := F24.binds (ps := ["reading"]) fun _ _ _ _ _ _ us hl => match us, hl with | [_], _ => rfl
  have F25 := fun_mk (st := s_is_range) l25 c25 k25
  have b25 := F25.binds (ps := ["reading"]) fun _ _ _ _ _ _ us hl => match us, hl with | [_], _ => rfl
  have F26 := fun_mk (st := s_are_tests) l26 c26 k26
  have b26 := F26.binds (ps := ["reading"]) fun _ _ _ _ _ _ us hl => match us, hl with | [_], _ => rfl
  have F27 := fun_mk (st := s_is_box) l27 c27 k27
  have b27 := F27.binds (ps := ["reading"]) fun _ _ _ _ _ _ us hl => match us, hl with | [_], _ => rfl
  have F28 := fun_mk (st := s_is_field) l28 c28 k28
  have b28 := F28.binds (ps := ["reading"]) fun _ _ _ _ _ _ us hl => match us, hl with | [_], _ => rfl
  have F29 := fun_mk (st := s_is_goal) l29 c29 k29
  have b29 := F29.binds (ps := ["reading"]) fun _ _ _ _ _ _ us hl => match us, hl with | [_], _ => rfl
  have F30 := fun_mk (st := s_table_of) l30 c30 k30
  have b30 := F30.binds (ps := ["operators"]) fun _ _ _ _ _ _ us hl => match us, hl with | [_], _ => rfl
  have F31 := fun_mk (st := s_measure) l31 c31 k31
  have b31 := F31.binds (ps := ["reading"]) fun _ _ _ _ _ _ us hl => match us, hl with | [_], _ => rfl
  have F32 := fun_mk (st := s_goal_of) l32 c32 k32
  have b32 := F32.binds (ps := ["pieces", "table"]) fun _ _ _ _ _ _ us hl => match us, hl with | [_, _], _ => rfl
  have F33 := fun_mk (st := s_op_row) l33 c33 k33
  have b33 := F33.binds (ps := ["pieces"]) fun _ _ _ _ _ _ us hl => match us, hl with | [_], _ => rfl
  have F34 := fun_mk (st := s_mode_of) l34 c34 k34
  have b34 := F34.binds (ps := ["pieces"]) fun _ _ _ _ _ _ us hl => match us, hl with | [_], _ => rfl
  have F35 := fun_mk (st := s_mode_row) l35 c35 k35
  have b35 := F35.binds (ps := ["pieces"]) fun _ _ _ _ _ _ us hl => match us, hl with | [_], _ => rfl
  have F36 := fun_mk (st := s_table_row) l36 c36 k36
  have b36 := F36.binds (ps := ["pieces"]) fun _ _ _ _ _ _ us hl => match us, hl with | [_], _ => rfl
  have F37 := fun_mk (st := s_parted_by_commas) l37 c37 k37
  have b37 := F37.binds (ps := ["pieces"]) fun _ _ _ _ _ _ us hl => match us, hl with | [_], _ => rfl
  have F38 := fun_mk (st := s_clause_row) l38 c38 k38
  have b38 := F38.binds (ps := ["pieces", "table"]) fun _ _ _ _ _ _ us hl => match us, hl with | [_, _], _ => rfl
  have F39 : FunD K "read_line" "read_line" (defArgs s_read_line) (defBody s_read_line) (defScope s_read_line) [] [("most", .int 200)] f39 _ := ⟨⟨_, _, _, _, _, _, _, _, _, _, rfl, l39, c39, .inl ⟨rfl, rfl⟩, .inr ⟨D39, rfl, fun q hq => by
    rw [List.mem_singleton.mp hq]
    exact ⟨uk39, q39, r39⟩⟩⟩, k39⟩
  have b39 := F39.binds0 (ps := ["line", "operators", "most"]) 2 (by simp) rfl fun D doc pm an cdv ct us ks h1 h2 => by
    match us, ks, h1, h2 with
    | [_, _], [_], _, _ => exact ⟨_, _, _, _, _, _, rfl, rfl, rfl⟩
  have B39 := FunD_kbindsN (ps := ["line", "operators", "most"]) F39 2 ["most"] fun kV doc pm an cdv ct us ws h1 h2 => by
    match us, ws, h1, h2 with
    | [_, _], [_], _, _ => rfl
  have F40 := fun_mk (st := s_first_piece) l40 c40 k40
  have b40 := F40.binds (ps := ["line"]) fun _ _ _ _ _ _ us hl => match us, hl with | [_], _ => rfl
  have F41 := fun_mk (st := s_row_at) l41 c41 k41
  have b41 := F41.binds (ps := ["at", "line", "operators", "most"]) fun _ _ _ _ _ _ us hl => match us, hl with | [_, _, _, _], _ => rfl
  have F42 : FunD K "read_text" "read_text" (defArgs s_read_text) (defBody s_read_text) (defScope s_read_text) [] [("most", .int 200)] f42 _ := ⟨⟨_, _, _, _, _, _, _, _, _, _, rfl, l42, c42, .inl ⟨rfl, rfl⟩, .inr ⟨D42, rfl, fun q hq => by
    rw [List.mem_singleton.mp hq]
    exact ⟨uk42, q42, r42⟩⟩⟩, k42⟩
  have b42 := F42.binds0 (ps := ["lines", "most"]) 1 (by simp) rfl fun D doc pm an cdv ct us ks h1 h2 => by
    match us, ks, h1, h2 with
    | [_], [_], _, _ => exact ⟨_, _, _, _, _, _, rfl, rfl, rfl⟩
  have B42 := FunD_kbindsN (ps := ["lines", "most"]) F42 1 ["most"] fun kV doc pm an cdv ct us ws h1 h2 => by
    match us, ws, h1, h2 with
    | [_], [_], _, _ => rfl
  have F43 : FunD K "read_term" "read_term" (defArgs s_read_term) (defBody s_read_term) (defScope s_read_term) [] [("most", .int 200)] f43 _ := ⟨⟨_, _, _, _, _, _, _, _, _, _, rfl, l43, c43, .inl ⟨rfl, rfl⟩, .inr ⟨D43, rfl, fun q hq => by
    rw [List.mem_singleton.mp hq]
    exact ⟨uk43, q43, r43⟩⟩⟩, k43⟩
  have b43 := F43.binds0 (ps := ["line", "operators", "most"]) 2 (by simp) rfl fun D doc pm an cdv ct us ks h1 h2 => by
    match us, ks, h1, h2 with
    | [_, _], [_], _, _ => exact ⟨_, _, _, _, _, _, rfl, rfl, rfl⟩
  have B43 := FunD_kbindsN (ps := ["line", "operators", "most"]) F43 2 ["most"] fun kV doc pm an cdv ct us ws h1 h2 => by
    match us, ws, h1, h2 with
    | [_, _], [_], _, _ => rfl
  have F44 : FunD K "read_goal" "read_goal" (defArgs s_read_goal) (defBody s_read_goal) (defScope s_read_goal) [] [("most", .int 200)] f44 _ := ⟨⟨_, _, _, _, _, _, _, _, _, _, rfl, l44, c44, .inl ⟨rfl, rfl⟩, .inr ⟨D44, rfl, fun q hq => by
    rw [List.mem_singleton.mp hq]
    exact ⟨uk44, q44, r44⟩⟩⟩, k44⟩
  have b44 := F44.binds0 (ps := ["line", "operators", "most"]) 2 (by simp) rfl fun D doc pm an cdv ct us ks h1 h2 => by
    match us, ks, h1, h2 with
    | [_, _], [_], _, _ => exact ⟨_, _, _, _, _, _, rfl, rfl, rfl⟩
  have B44 := FunD_kbindsN (ps := ["line", "operators", "most"]) F44 2 ["most"] fun kV doc pm an cdv ct us ws h1 h2 => by
    match us, ws, h1, h2 with
    | [_, _], [_], _, _ => rfl
  have F45 := fun_mk (st := s_law_pool) l45 c45 k45
  have b45 := F45.binds (ps := ["script", "k"]) fun _ _ _ _ _ _ us hl => match us, hl with | [_, _], _ => rfl
  have F46 := fun_mk (st := s_law_mixed) l46 c46 k46
  have b46 := F46.binds (ps := ["pool", "turn"]) fun _ _ _ _ _ _ us hl => match us, hl with | [_, _], _ => rfl
  have F47 := fun_mk (st := s_law_take) l47 c47 k47
  have b47 := F47.binds (ps := ["pool", "many"]) fun _ _ _ _ _ _ us hl => match us, hl with | [_, _], _ => rfl
  have F48 := fun_mk (st := s_law_figure) l48 c48 k48
  have b48 := F48.binds (ps := ["thing"]) fun _ _ _ _ _ _ us hl => match us, hl with | [_], _ => rfl
  have F49 := fun_mk (st := s_law_name) l49 c49 k49
  have b49 := F49.binds (ps := ["pool", "way"]) fun _ _ _ _ _ _ us hl => match us, hl with | [_, _], _ => rfl
  have F50 := fun_mk (st := s_law_kept) l50 c50 k50
  have b50 := F50.binds (ps := []) fun _ _ _ _ _ _ us hl => match us, hl with | [], _ => rfl
  have F51 := fun_mk (st := s_law_free) l51 c51 k51
  have b51 := F51.binds (ps := ["word", "ops"]) fun _ _ _ _ _ _ us hl => match us, hl with | [_, _], _ => rfl
  have F52 := fun_mk (st := s_law_weight) l52 c52 k52
  have b52 := F52.binds (ps := ["thing"]) fun _ _ _ _ _ _ us hl => match us, hl with | [_], _ => rfl
  have F53 := fun_mk (st := s_law_alike) l53 c53 k53
  have b53 := F53.binds (ps := ["found", "due"]) fun _ _ _ _ _ _ us hl => match us, hl with | [_, _], _ => rfl
  have F54 := fun_mk (st := s_law_flat) l54 c54 k54
  have b54 := F54.binds (ps := ["size", "word", "name"]) fun _ _ _ _ _ _ us hl => match us, hl with | [_, _, _], _ => rfl
  have F55 := fun_mk (st := s_law_chain) l55 c55 k55
  have b55 := F55.binds (ps := ["pool", "deep", "word"]) fun _ _ _ _ _ _ us hl => match us, hl with | [_, _, _], _ => rfl
  have F56 := fun_mk (st := s_law_text) l56 c56 k56
  have b56 := F56.binds (ps := ["thing"]) fun _ _ _ _ _ _ us hl => match us, hl with | [_], _ => rfl
  have F57 := fun_mk (st := s_law_told) l57 c57 k57
  have b57 := F57.binds (ps := ["door", "line"]) fun _ _ _ _ _ _ us hl => match us, hl with | [_, _], _ => rfl
  have F58 := fun_mk (st := s_law) l58 c58 k58
  refine ⟨PySem.W.fnOf "law" "law" (defArgs s_law) (defBody s_law) (defScope s_law) .none kV58 dc58 pm58 an58 cd58 ct58, fun s v => .of_eq rfl, fun base _ _ => ?_⟩
  have TB : BaseC K mg B_GoalError := ⟨PySem.W.mg_of X G m_GoalError, sp_GoalError, rd_GoalError, fc_GoalError⟩
  have OE_BadShape : OexC K C_BadShape := ⟨⟨nm_BadShape, q_BadShape, N_BadShape, bs_BadShape, _, sn_BadShape, sub_BadShape, ab_BadShape, col_BadShape, dd_BadShape, k0_BadShape, k1_BadShape, k2_BadShape, k3_BadShape, k5_BadShape, x_BadShape, rfl⟩, sa_BadShape, ex_BadShape, ty_BadShape, kc_BadShape⟩
  have FI_BadShape := fun_mk (st := s_BadShape) l_BadShape c_BadShape k_BadShape
  have bi_BadShape := FI_BadShape.binds (ps := ["self", "line"]) fun _ _ _ _ _ _ us hl => match us, hl with | [_, _], _ => rfl
  have E_BadShape : HasErr l.prog w K mg base "BadShape" "line" C_BadShape := ⟨OE_BadShape, PySem.W.mg_of X G m_BadShape, ⟨ga_BadShape, gg_BadShape, ex_BadShape, hd_BadShape⟩, nf_BadShape, exm_own ex_BadShape ic_BadShape ty_BadShape ss_BadShape, I_BadShape, _, i_BadShape, ti_BadShape, ok_init_BadShape FI_BadShape TB OE_BadShape nf_BadShape, bi_BadShape⟩
  have OE_BadSize : OexC K C_BadSize := ⟨⟨nm_BadSize, q_BadSize, N_BadSize, bs_BadSize, _, sn_BadSize, sub_BadSize, ab_BadSize, col_BadSize, dd_BadSize, k0_BadSize, k1_BadSize, k2_BadSize, k3_BadSize, k5_BadSize, x_BadSize, rfl⟩, sa_BadSize, ex_BadSize, ty_BadSize, kc_BadSize⟩
  have FI_BadSize := fun_mk (st := s_BadSize) l_BadSize c_BadSize k_BadSize
  have bi_BadSize := FI_BadSize.binds (ps := ["self", "line"]) fun _ _ _ _ _ _ us hl => match us, hl with | [_, _], _ => rfl
  have E_BadSize : HasErr l.prog w K mg base "BadSize" "line" C_BadSize := ⟨OE_BadSize, PySem.W.mg_of X G m_BadSize, ⟨ga_BadSize, gg_BadSize, ex_BadSize, hd_BadSize⟩, nf_BadSize, exm_own ex_BadSize ic_BadSize ty_BadSize ss_BadSize, I_BadSize, _, i_BadSize, ti_BadSize, ok_init_BadSize FI_BadSize TB OE_BadSize nf_BadSize, bi_BadSize⟩
  have TC : TabC K C_ := ⟨⟨t_pgC_, t_hdC_, t_poC_, t_saC_⟩, t_n_betweenC_, t_n_aheadC_⟩
  have RC : ReC K D_ := ⟨⟨t_pgD_, t_hdD_, t_poD_, t_saD_⟩, t_n_piecesD_, t_n_tableD_, t_n_atD_⟩
  have FM_C_init := fun_mk (st := s_OperatorTable_init) l_C_init c_C_init k_C_init
  have BM_C_init := FM_C_init.binds (ps := ["self", "operators"]) fun _ _ _ _ _ _ us hl => match us, hl with | [_, _], _ => rfl
  have FM_C_has := fun_mk (st := s_OperatorTable_has) l_C_has c_C_has k_C_has
  have BM_C_has := FM_C_has.binds (ps := ["self", "name"]) fun _ _ _ _ _ _ us hl => match us, hl with | [_, _], _ => rfl
  have FM_C_left_bound := fun_mk (st := s_OperatorTable_left_bound) l_C_left_bound c_C_left_bound k_C_left_bound
  have BM_C_left_bound := FM_C_left_bound.binds (ps := ["self", "name"]) fun _ _ _ _ _ _ us hl => match us, hl with | [_, _], _ => rfl
  have FM_C_right_bound := fun_mk (st := s_OperatorTable_right_bound) l_C_right_bound c_C_right_bound k_C_right_bound
  have BM_C_right_bound := FM_C_right_bound.binds (ps := ["self", "name"]) fun _ _ _ _ _ _ us hl => match us, hl with | [_, _], _ => rfl
  have FM_C_ahead_bound := fun_mk (st := s_OperatorTable_ahead_bound) l_C_ahead_bound c_C_ahead_bound k_C_ahead_bound
  have BM_C_ahead_bound := FM_C_ahead_bound.binds (ps := ["self", "name"]) fun _ _ _ _ _ _ us hl => match us, hl with | [_, _], _ => rfl
  have FM_D_init := fun_mk (st := s_Reading_init) l_D_init c_D_init k_D_init
  have BM_D_init := FM_D_init.binds (ps := ["self", "pieces", "table"]) fun _ _ _ _ _ _ us hl => match us, hl with | [_, _, _], _ => rfl
  have FM_D_whole := fun_mk (st := s_Reading_whole) l_D_whole c_D_whole k_D_whole
  have BM_D_whole := FM_D_whole.binds (ps := ["self"]) fun _ _ _ _ _ _ us hl => match us, hl with | [_], _ => rfl
  have FM_D_part := fun_mk (st := s_Reading_part) l_D_part c_D_part k_D_part
  have BM_D_part := FM_D_part.binds (ps := ["self", "most"]) fun _ _ _ _ _ _ us hl => match us, hl with | [_, _], _ => rfl
  have FM_D_goes_on := fun_mk (st := s_Reading_goes_on) l_D_goes_on c_D_goes_on k_D_goes_on
  have BM_D_goes_on := FM_D_goes_on.binds (ps := ["self", "level", "most"]) fun _ _ _ _ _ _ us hl => match us, hl with | [_, _, _], _ => rfl
  have FM_D_first_part := fun_mk (st := s_Reading_first_part) l_D_first_part c_D_first_part k_D_first_part
  have BM_D_first_part := FM_D_first_part.binds (ps := ["self", "most"]) fun _ _ _ _ _ _ us hl => match us, hl with | [_, _], _ => rfl
  have FM_D_plain_part := fun_mk (st := s_Reading_plain_part) l_D_plain_part c_D_plain_part k_D_plain_part
  have BM_D_plain_part := FM_D_plain_part.binds (ps := ["self", "piece"]) fun _ _ _ _ _ _ us hl => match us, hl with | [_, _], _ => rfl
  have FM_D_parts_in_brackets := fun_mk (st := s_Reading_parts_in_brackets) l_D_parts_in_brackets c_D_parts_in_brackets k_D_parts_in_brackets
  have BM_D_parts_in_brackets := FM_D_parts_in_brackets.binds (ps := ["self"]) fun _ _ _ _ _ _ us hl => match us, hl with | [_], _ => rfl
  have FM_D_is_next := fun_mk (st := s_Reading_is_next) l_D_is_next c_D_is_next k_D_is_next
  have BM_D_is_next := FM_D_is_next.binds (ps := ["self", "pieces"]) fun _ _ _ _ _ _ us hl => match us, hl with | [_, _], _ => rfl
  have FM_D_take := fun_mk (st := s_Reading_take) l_D_take c_D_take k_D_take
  have BM_D_take := FM_D_take.binds (ps := ["self"]) fun _ _ _ _ _ _ us hl => match us, hl with | [_], _ => rfl
  have M_OperatorTable_left_bound : HasLB C_ l.prog w K mg base := ⟨g_C_left_bound, _, _, [], TC.cl, ⟨u_C_left_bound, i_C_left_bound, k_C_left_bound⟩, ok_left_bound FM_C_left_bound T TC, BM_C_left_bound, .nil⟩
  have M_OperatorTable_right_bound : HasRB C_ l.prog w K mg base := ⟨g_C_right_bound, _, _, [], TC.cl, ⟨u_C_right_bound, i_C_right_bound, k_C_right_bound⟩, ok_right_bound FM_C_right_bound T TC, BM_C_right_bound, .nil⟩
  have M_OperatorTable_ahead_bound : HasAB C_ l.prog w K mg base := ⟨g_C_ahead_bound, _, _, [], TC.cl, ⟨u_C_ahead_bound, i_C_ahead_bound, k_C_ahead_bound⟩, ok_ahead_bound FM_C_ahead_bound T TC, BM_C_ahead_bound, .nil⟩
  have M_OperatorTable_has : HasHas C_ l.prog w K mg base := ⟨g_C_has, _, _, [], TC.cl, ⟨u_C_has, i_C_has, k_C_has⟩, ok_has FM_C_has TC, BM_C_has, .nil⟩
  have MK_OperatorTable : HasTab C_ l.prog w K mg base := ⟨g_C_init, _, _, [], ⟨t_mkC_, u_C_init, i_C_init, t_kcC_⟩, ok_tab_init FM_C_init T TC, PySem.W.mg_of X G m_C_, BM_C_init, .nil⟩
  have hCD : C_ ≠ D_ := fun e => by
    have h1 := u_C_has
    rw [e, n_hasD] at h1
    cases h1
  have M_Reading_take : HasTakeE D_ C_ C_BadShape l.prog w K mg base := ⟨g_D_take, _, _, RC.cl, ⟨u_D_take, i_D_take, k_D_take⟩, ok_takeE FM_D_take T RC hCD E_BadShape, BM_D_take⟩
  have M_Reading_is_next : HasNextR D_ C_ l.prog w K mg base := ⟨g_D_is_next, _, _, [], RC.cl, ⟨u_D_is_next, i_D_is_next, k_D_is_next⟩, ok_is_next FM_D_is_next T RC, BM_D_is_next, .nil⟩
  have M_Reading_goes_on : HasGoes D_ C_ l.prog w K mg base := ⟨g_D_goes_on, _, _, [], RC.cl, ⟨u_D_goes_on, i_D_goes_on, k_D_goes_on⟩, ok_goes_on FM_D_goes_on T RC TC M_Reading_is_next M_OperatorTable_left_bound, BM_D_goes_on, .nil⟩
  have MK_Reading : HasRdInit D_ C_ l.prog w K mg base := ⟨g_D_init, _, _, [], ⟨t_mkD_, u_D_init, i_D_init, t_kcD_⟩, ok_rd_init FM_D_init RC hCD, PySem.W.mg_of X G m_D_, BM_D_init, .nil⟩
  have AP : ErrAp K BP_ C_BadShape C_BadSize := ⟨exm_sub21 eb_BP ic_BP ty_BP ss_zp, exm_sub21 eb_BP ic_BP ty_BP ss_sp, exm_sub21 ex_BadSize ic_BadSize ty_BadSize ss_sz⟩
  have EH_BadSize : HasErrH l.prog w K mg base "BadSize" "line" C_BadSize := ⟨E_BadSize, I_BadSize, _, i_BadSize, ti_BadSize, ok_initH_BadSize FI_BadSize TB OE_BadSize nf_BadSize, bi_BadSize⟩
  have EH_BadShape : HasErrH l.prog w K mg base "BadShape" "line" C_BadShape := ⟨E_BadShape, I_BadShape, _, i_BadShape, ti_BadShape, ok_initH_BadShape FI_BadShape TB OE_BadShape nf_BadShape, bi_BadShape⟩
  have C_is_word : HasIsWord l.prog w K mg base := ⟨f0, _, ok_is_word F0 T, b0, k0, PySem.W.mg_of X G a0⟩
  have C_is_unknown : HasUnknown l.prog w K mg base := ⟨f1, _, ok_is_unknown F1 T, b1, k1, PySem.W.mg_of X G a1⟩
  have C_is_mark : HasIsMark l.prog w K mg base := ⟨f2, _, ok_is_mark F2 T, b2, k2, PySem.W.mg_of X G a2⟩
  have C_is_kept : HasIsKept l.prog w K mg base := ⟨f3, _, ok_is_kept F3 TR, b3, k3, PySem.W.mg_of X G a3⟩
  have C_is_name : HasIsName l.prog w K mg base := ⟨f4, _, ok_is_name F4 C_is_word C_is_mark C_is_kept, b4, k4, PySem.W.mg_of X G a4⟩
  have C_own : HasOwn l.prog w K mg base := ⟨f5, _, ok_own F5 T TR, b5, k5, PySem.W.mg_of X G a5⟩
  have C_run : HasRun l.prog w K mg base := ⟨f6, _, ok_run F6 T, b6, k6, PySem.W.mg_of X G a6⟩
  have C_end_of_piece : HasEnd l.prog w K mg base := ⟨f7, _, ok_end F7 T C_run, b7, k7, PySem.W.mg_of X G a7⟩
  have C_is_piece : HasIsPiece l.prog w K mg base := ⟨f8, _, ok_is_piece F8 T, b8, k8, PySem.W.mg_of X G a8⟩
  have C_most_open : HasMostOpen l.prog w K mg base := ⟨f9, _, ok_most_open F9 T, b9, k9, PySem.W.mg_of X G a9⟩
  have C_pieces_of : HasPiecesE C_BadSize l.prog w K mg base := ⟨f10, _, ok_pieces_ofE F10 T C_run C_end_of_piece C_is_piece C_most_open E_BadSize, b10, B10, k10, PySem.W.mg_of X G a10⟩
  have C_read_pieces : HasReadPE C_ C_BadShape 40 l.prog w K mg base := ⟨f11, _, ok_read_piecesE F11 (⟨g_D_whole, _, _, RC.cl, ⟨u_D_whole, i_D_whole, k_D_whole⟩, ok_wholeE FM_D_whole T RC E_BadShape (parts_allE T RC TC E_BadShape M_Reading_take M_Reading_is_next M_Reading_goes_on M_OperatorTable_right_bound M_OperatorTable_ahead_bound M_OperatorTable_has C_is_unknown C_is_word C_is_kept FM_D_part ⟨u_D_part, i_D_part, k_D_part⟩ BM_D_part FM_D_first_part ⟨u_D_first_part, i_D_first_part, k_D_first_part⟩ BM_D_first_part FM_D_plain_part ⟨u_D_plain_part, i_D_plain_part, k_D_plain_part⟩ BM_D_plain_part FM_D_parts_in_brackets ⟨u_D_parts_in_brackets, i_D_parts_in_brackets, k_D_parts_in_brackets⟩ BM_D_parts_in_brackets 40), BM_D_whole⟩ : HasWholeE D_ C_ C_BadShape 40 l.prog w K mg base) MK_Reading, b11, k11, PySem.W.mg_of X G a11⟩
  have C_size_of : HasSize l.prog w K mg base := ⟨f12, _, ok_size_of F12 T, b12, k12, PySem.W.mg_of X G a12⟩
  have C_depth_of : HasDepthOf l.prog w K mg base := ⟨f13, _, ok_depth_of F13 T, b13, k13, PySem.W.mg_of X G a13⟩
  have C_is_great : HasGreat l.prog w K mg base := ⟨f14, _, ok_is_great F14 T C_size_of C_depth_of, b14, k14, PySem.W.mg_of X G a14⟩
  have C_is_pattern : HasIsPat l.prog w K mg base := ⟨f15, _, ok_is_pattern F15 T C_is_kept, b15, k15, PySem.W.mg_of X G a15⟩
  have C_unknowns_of : (fun P w K mg base => Has P w K mg base 2 "unknowns_of" ["pattern"] (spUnknowns K)) l.prog w K mg base := ⟨f16, _, ok_unknowns_of F16 T C_is_unknown, b16, k16, PySem.W.mg_of X G a16⟩
  have C_is_named : HasNamedG l.prog w K mg base := ⟨f17, _, ok_is_namedG F17 T, b17, k17, PySem.W.mg_of X G a17⟩
  have C_is_sum : HasSumG 20 l.prog w K mg base := ⟨f18, _, ok_is_sumG F18 T TG C_is_named C_is_unknown b18 k18 (PySem.W.mg_of X G a18) 20, b18, k18, PySem.W.mg_of X G a18⟩
  have C_parted_by_and : HasPartsA l.prog w K mg base := ⟨f19, _, ok_partsA F19 T C_is_named, b19, k19, PySem.W.mg_of X G a19⟩
  have C_is_relation : HasLook 3 "is_relation" 20 relP l.prog w K mg base := ⟨f20, _, ok_is_relationG F20 T C_is_pattern (show HasWordG 20 l.prog w K mg base from ⟨f0, _, ok_is_wordG F0 T, b0, k0, PySem.W.mg_of X G a0⟩), b20, k20, PySem.W.mg_of X G a20⟩
  have C_is_not : HasLook 4 "is_not" 20 notP l.prog w K mg base := ⟨f21, _, ok_is_notG F21 T C_is_named C_is_relation, b21, k21, PySem.W.mg_of X G a21⟩
  have C_is_likeness : HasLook 3 "is_likeness" 20 likeP l.prog w K mg base := ⟨f22, _, ok_is_likeG F22 T C_is_named C_is_pattern, b22, k22, PySem.W.mg_of X G a22⟩
  have C_is_reckoning : HasLook 23 "is_reckoning" 20 reckP l.prog w K mg base := ⟨f23, _, ok_is_reckG F23 T C_is_named C_is_pattern C_is_sum, b23, k23, PySem.W.mg_of X G a23⟩
  have C_is_test : HasLook 23 "is_test" 20 testP l.prog w K mg base := ⟨f24, _, ok_is_testG F24 T TG C_is_named C_is_sum, b24, k24, PySem.W.mg_of X G a24⟩
  have C_is_range : HasLook 23 "_is_range" 20 rangeP l.prog w K mg base := ⟨f25, _, ok_is_rangeG F25 T C_is_named C_is_unknown C_is_sum, b25, k25, PySem.W.mg_of X G a25⟩
  have C_are_tests : HasLook 24 "_are_tests" 20 testsP l.prog w K mg base := ⟨f26, _, ok_are_testsG F26 T C_parted_by_and C_is_test, b26, k26, PySem.W.mg_of X G a26⟩
  have C_is_box : HasLook 24 "_is_box" 20 boxP l.prog w K mg base := ⟨f27, _, ok_is_boxG F27 T C_parted_by_and C_is_range C_unknowns_of, b27, k27, PySem.W.mg_of X G a27⟩
  have C_is_field : HasLook 25 "is_field" 20 fieldQ l.prog w K mg base := ⟨f28, _, ok_is_fieldG F28 T C_is_named C_is_box C_are_tests, b28, k28, PySem.W.mg_of X G a28⟩
  have C_is_goal : HasLook 26 "is_goal" 20 goalP l.prog w K mg base := ⟨f29, _, ok_is_goalG F29 T C_is_relation C_is_not C_is_likeness C_is_reckoning C_is_test C_is_field, b29, k29, PySem.W.mg_of X G a29⟩
  have C_table_of : HasTable C_ l.prog w K mg base := ⟨f30, _, ok_table_of F30 T C_own MK_OperatorTable, b30, k30, PySem.W.mg_of X G a30⟩
  have C_measure : HasMeasE C_BadSize l.prog w K mg base := ⟨f31, _, ok_measE F31 C_is_great E_BadSize, b31, k31, PySem.W.mg_of X G a31⟩
  have C_goal_of : HasGoalOfE C_ C_BadShape 40 20 l.prog w K mg base := ⟨f32, _, ok_goal_ofE F32 T E_BadShape C_read_pieces C_is_goal, b32, k32, PySem.W.mg_of X G a32⟩
  have C_op_row : HasOpRow C_BadShape C_BadSize l.prog w K mg base := ⟨f33, _, ok_op_row F33 T TL_ C_is_word C_is_mark E_BadShape, b33, k33, PySem.W.mg_of X G a33⟩
  have C_mode_of : HasModeOf C_BadShape l.prog w K mg base := ⟨f34, _, ok_mode_of F34 T TL_ E_BadShape, b34, k34, PySem.W.mg_of X G a34⟩
  have C_mode_row : HasModeRow C_BadShape C_BadSize l.prog w K mg base := ⟨f35, _, ok_mode_row F35 T C_is_name C_mode_of E_BadShape, b35, k35, PySem.W.mg_of X G a35⟩
  have C_table_row : HasTableRow C_BadShape C_BadSize l.prog w K mg base := ⟨f36, _, ok_table_row F36 T TL_ C_is_name E_BadShape, b36, k36, PySem.W.mg_of X G a36⟩
  have C_parted_by_commas : HasParted16 l.prog w K mg base := ⟨f37, _, ok_parted16 F37 , b37, k37, PySem.W.mg_of X G a37⟩
  have C_clause_row : HasClause16 C_ C_BadShape C_BadSize 40 20 l.prog w K mg base := ⟨f38, _, ok_clause16 (by decide) (by decide) F38 T C_read_pieces C_is_relation C_goal_of C_parted_by_commas C_measure E_BadShape, b38, k38, PySem.W.mg_of X G a38⟩
  have C_read_line : HasReadLine C_BadShape C_BadSize 40 20 l.prog w K mg base := ⟨f39, _, ok_read_line F39 T C_pieces_of C_op_row C_mode_row C_table_row C_clause_row C_table_of, b39, B39, k39, PySem.W.mg_of X G a39⟩
  have C_first_piece : HasFirstPiece l.prog w K mg base := ⟨f40, _, ok_first_piece F40 T C_run C_end_of_piece, b40, k40, PySem.W.mg_of X G a40⟩
  have C_row_at : HasRowAtX C_BadShape C_BadSize l.prog w K mg base := ⟨f41, _, ok_row_atX F41 AP (PySem.W.mg_of X G m_BP) EH_BadSize EH_BadShape C_read_line, b41, k41, PySem.W.mg_of X G a41⟩
  have C_read_text : HasTextX C_BadShape C_BadSize l.prog w K mg base := ⟨f42, _, ok_read_textX F42 T C_first_piece C_row_at, b42, B42, k42, PySem.W.mg_of X G a42⟩
  have C_read_term : HasReadTE C_BadShape C_BadSize 40 l.prog w K mg base := ⟨f43, _, ok_read_termE F43 T E_BadShape (show HasPieces l.prog w K mg base from ⟨f10, _, ok_pieces_of F10 T C_run C_end_of_piece C_is_piece C_most_open, b10, B10, k10, PySem.W.mg_of X G a10⟩) C_read_pieces C_table_of C_is_pattern C_measure, b43, B43, k43, PySem.W.mg_of X G a43⟩
  have C_read_goal : HasReadGE C_BadShape C_BadSize 40 20 l.prog w K mg base := ⟨f44, _, ok_read_goalE F44 T (show HasPieces l.prog w K mg base from ⟨f10, _, ok_pieces_of F10 T C_run C_end_of_piece C_is_piece C_most_open, b10, B10, k10, PySem.W.mg_of X G a10⟩) C_goal_of C_table_of C_measure, b44, B44, k44, PySem.W.mg_of X G a44⟩
  have C_law_pool : HasPool l.prog w K mg base := ⟨f45, _, ok_law_pool F45 T, b45, k45, PySem.W.mg_of X G a45⟩
  have C_law_mixed : HasMixed l.prog w K mg base := ⟨f46, _, ok_law_mixed F46 , b46, k46, PySem.W.mg_of X G a46⟩
  have C_law_take : HasTake l.prog w K mg base := ⟨f47, _, ok_law_take F47 T C_law_mixed, b47, k47, PySem.W.mg_of X G a47⟩
  have C_law_figure : HasFig l.prog w K mg base := ⟨f48, _, ok_law_figure20 F48 T, b48, k48, PySem.W.mg_of X G a48⟩
  have C_law_name : HasName l.prog w K mg base := ⟨f49, _, ok_law_name F49 T C_law_take, b49, k49, PySem.W.mg_of X G a49⟩
  have C_law_kept : HasKept l.prog w K mg base := ⟨f50, _, ok_law_kept F50 , b50, k50, PySem.W.mg_of X G a50⟩
  have C_law_free : HasFree l.prog w K mg base := ⟨f51, _, ok_law_free F51 T C_law_kept, b51, k51, PySem.W.mg_of X G a51⟩
  have C_law_weight : HasWt 16 l.prog w K mg base := ⟨f52, _, ok_law_weight F52 T b52 k52 (PySem.W.mg_of X G a52) 16, b52, k52, PySem.W.mg_of X G a52⟩
  have C_law_alike : HasAlike 24 l.prog w K mg base := ⟨f53, _, ok_law_alike F53 T b53 k53 (PySem.W.mg_of X G a53) 24, b53, k53, PySem.W.mg_of X G a53⟩
  have C_law_flat : HasFlat21 4 l.prog w K mg base := ⟨f54, _, ok_law_flat21 F54 T b54 k54 (PySem.W.mg_of X G a54) 4, b54, k54, PySem.W.mg_of X G a54⟩
  have C_law_chain : HasChain21 l.prog w K mg base := ⟨f55, _, ok_law_chain21 F55 T C_law_take, b55, k55, PySem.W.mg_of X G a55⟩
  have C_law_text : HasText21 13 l.prog w K mg base := ⟨f56, _, ok_law_text21 F56 T C_law_figure b56 k56 (PySem.W.mg_of X G a56) 13, b56, k56, PySem.W.mg_of X G a56⟩
  have C_law_told : HasTold21 l.prog w K mg base := ⟨f57, _, ok_law_told21 F57 AP E_BadSize E_BadShape C_read_term C_read_goal C_read_line C_read_text, b57, k57, PySem.W.mg_of X G a57⟩
  exact ok_law F58 T C_law_pool C_law_name C_law_free C_law_take C_law_flat C_law_chain C_law_text C_law_weight C_law_told C_law_alike
end Gs
open PySem PySem.W PyProof.Rows
set_option maxRecDepth 100000 in
set_option maxHeartbeats 0 in
theorem PySem.Challenge.cw_goalstead_k21_sizes_as_read_holds : PySem.Challenge.rw_goalstead_k21_sizes_as_read.Holds := by
  refine HdK.hd ?_
  k_fill
  refine L2.walk_of (l := PySem.Challenge.rw_goalstead_k21_sizes_as_read) (n := 63) (k := 175) (x := "script") (CX := fun _ => L2.CX0) (sp := fun w => Gs.spLaw _) rfl (by decide) rfl ⟨rfl, by decide, by decide⟩ (fun w h Y => PySem.W.kIn_of Y) ?F (fun _ _ a ns hl _ hS => ⟨a, ns, rfl, hS, hl, fun _ => rfl⟩) (fun _ _ _ _ _ h => h)
  case F =>
    intro w mg fa h KX G hmg
    refine' Gs.all_mk KX G hmg (m_GoalError := ?m_GoalError) (sp_GoalError := ?sp_GoalError) (rd_GoalError := ?rd_GoalError) (fc_GoalError := ?fc_GoalError) (a0 := ?a0) (l0 := ?l0) (c0 := ?c0) (k0 := ?k0) (a1 := ?a1) (l1 := ?l1) (c1 := ?c1) (k1 := ?k1) (a2 := ?a2) (l2 := ?l2) (c2 := ?c2) (k2 := ?k2) (a3 := ?a3) (l3 := ?l3) (c3 := ?c3) (k3 := ?k3) (a4 := ?a4) (l4 := ?l4) (c4 := ?c4) (k4 := ?k4) (a5 := ?a5) (l5 := ?l5) (c5 := ?c5) (k5 := ?k5) (a6 := ?a6) (l6 := ?l6) (c6 := ?c6) (k6 := ?k6) (a7 := ?a7) (l7 := ?l7) (c7 := ?c7) (k7 := ?k7) (a8 := ?a8) (l8 := ?l8) (c8 := ?c8) (k8 := ?k8) (a9 := ?a9) (l9 := ?l9) (c9 := ?c9) (k9 := ?k9) (a10 := ?a10) (l10 := ?l10) (c10 := ?c10) (k10 := ?k10) (q10 := ?q10) (r10 := ?r10) (a11 := ?a11) (l11 := ?l11) (c11 := ?c11) (k11 := ?k11) (a12 := ?a12) (l12 := ?l12) (c12 := ?c12) (k12 := ?k12) (a13 := ?a13) (l13 := ?l13) (c13 := ?c13) (k13 := ?k13) (a14 := ?a14) (l14 := ?l14) (c14 := ?c14) (k14 := ?k14) (a15 := ?a15) (l15 := ?l15) (c15 := ?c15) (k15 := ?k15) (a16 := ?a16) (l16 := ?l16) (c16 := ?c16) (k16 := ?k16) (a17 := ?a17) (l17 := ?l17) (c17 := ?c17) (k17 := ?k17) (a18 := ?a18) (l18 := ?l18) (c18 := ?c18) (k18 := ?k18) (a19 := ?a19) (l19 := ?l19) (c19 := ?c19) (k19 := ?k19) (a20 := ?a20) (l20 := ?l20) (c20 := ?c20) (k20 := ?k20) (a21 := ?a21) (l21 := ?l21) (c21 := ?c21) (k21 := ?k21) (a22 := ?a22) (l22 := ?l22) (c22 := ?c22) (k22 := ?k22) (a23 := ?a23) (l23 := ?l23) (c23 := ?c23) (k23 := ?k23) (a24 := ?a24) (l24 := ?l24) (c24 := ?c24) (k24 := ?k24) (a25 := ?a25) (l25 := ?l25) (c25 := ?c25) (k25 := ?k25) (a26 := ?a26) (l26 := ?l26) (c26 := ?c26) (k26 := ?k26) (a27 := ?a27) (l27 := ?l27) (c27 := ?c27) (k27 := ?k27) (a28 := ?a28) (l28 := ?l28) (c28 := ?c28) (k28 := ?k28) (a29 := ?a29) (l29 := ?l29) (c29 := ?c29) (k29 := ?k29) (a30 := ?a30) (l30 := ?l30) (c30 := ?c30) (k30 := ?k30) (a31 := ?a31) (l31 := ?l31) (c31 := ?c31) (k31 := ?k31) (a32 := ?a32) (l32 := ?l32) (c32 := ?c32) (k32 := ?k32) (a33 := ?a33) (l33 := ?l33) (c33 := ?c33) (k33 := ?k33) (a34 := ?a34) (l34 := ?l34) (c34 := ?c34) (k34 := ?k34) (a35 := ?a35) (l35 := ?l35) (c35 := ?c35) (k35 := ?k35) (a36 := ?a36) (l36 := ?l36) (c36 := ?c36) (k36 := ?k36) (a37 := ?a37) (l37 := ?l37) (c37 := ?c37) (k37 := ?k37) (a38 := ?a38) (l38 := ?l38) (c38 := ?c38) (k38 := ?k38) (a39 := ?a39) (l39 := ?l39) (c39 := ?c39) (k39 := ?k39) (q39 := ?q39) (r39 := ?r39) (a40 := ?a40) (l40 := ?l40) (c40 := ?c40) (k40 := ?k40) (a41 := ?a41) (l41 := ?l41) (c41 := ?c41) (k41 := ?k41) (a42 := ?a42) (l42 := ?l42) (c42 := ?c42) (k42 := ?k42) (q42 := ?q42) (r42 := ?r42) (a43 := ?a43) (l43 := ?l43) (c43 := ?c43) (k43 := ?k43) (q43 := ?q43) (r43 := ?r43) (a44 := ?a44) (l44 := ?l44) (c44 := ?c44) (k44 := ?k44) (q44 := ?q44) (r44 := ?r44) (a45 := ?a45) (l45 := ?l45) (c45 := ?c45) (k45 := ?k45) (a46 := ?a46) (l46 := ?l46) (c46 := ?c46) (k46 := ?k46) (a47 := ?a47) (l47 := ?l47) (c47 := ?c47) (k47 := ?k47) (a48 := ?a48) (l48 := ?l48) (c48 := ?c48) (k48 := ?k48) (a49 := ?a49) (l49 := ?l49) (c49 := ?c49) (k49 := ?k49) (a50 := ?a50) (l50 := ?l50) (c50 := ?c50) (k50 := ?k50) (a51 := ?a51) (l51 := ?l51) (c51 := ?c51) (k51 := ?k51) (a52 := ?a52) (l52 := ?l52) (c52 := ?c52) (k52 := ?k52) (a53 := ?a53) (l53 := ?l53) (c53 := ?c53) (k53 := ?k53) (a54 := ?a54) (l54 := ?l54) (c54 := ?c54) (k54 := ?k54) (a55 := ?a55) (l55 := ?l55) (c55 := ?c55) (k55 := ?k55) (a56 := ?a56) (l56 := ?l56) (c56 := ?c56) (k56 := ?k56) (a57 := ?a57) (l57 := ?l57) (c57 := ?c57) (k57 := ?k57) (a58 := ?a58) (l58 := ?l58) (c58 := ?c58) (k58 := ?k58) (z_all := ?z_all) (z_bool := ?z_bool) (z_enumerate := ?z_enumerate) (z_int := ?z_int) (z_isinstance := ?z_isinstance) (z_len := ?z_len) (z_list := ?z_list) (z_max := ?z_max) (z_min := ?z_min) (z_range := ?z_range) (z_set := ?z_set) (z_str := ?z_str) (z_sum := ?z_sum) (z_tuple := ?z_tuple) (g_BRACKETS := ?g_BRACKETS) (g_CAPITALS := ?g_CAPITALS) (g_DEEP := ?g_DEEP) (g_DIGITS := ?g_DIGITS) (g_FIGURES := ?g_FIGURES) (g_GOALS := ?g_GOALS) (g_KEPT := ?g_KEPT) (l_KEPT := ?l_KEPT) (g_LEVELS := ?g_LEVELS) (g_LEVEL_PIECES := ?g_LEVEL_PIECES) (l_LEVEL_PIECES := ?l_LEVEL_PIECES) (g_MARKS := ?g_MARKS) (g_MARK_SIGNS := ?g_MARK_SIGNS) (g_OPERATORS := ?g_OPERATORS) (g_OWN := ?g_OWN) (l_OWN := ?l_OWN) (l_OWN_15 := ?l_OWN_15) (l_OWN_14 := ?l_OWN_14) (l_OWN_13 := ?l_OWN_13) (l_OWN_12 := ?l_OWN_12) (l_OWN_11 := ?l_OWN_11) (l_OWN_10 := ?l_OWN_10) (l_OWN_9 := ?l_OWN_9) (l_OWN_8 := ?l_OWN_8) (l_OWN_7 := ?l_OWN_7) (l_OWN_6 := ?l_OWN_6) (l_OWN_5 := ?l_OWN_5) (l_OWN_4 := ?l_OWN_4) (l_OWN_3 := ?l_OWN_3) (l_OWN_2 := ?l_OWN_2) (l_OWN_1 := ?l_OWN_1) (l_OWN_0 := ?l_OWN_0) (g_PARTS := ?g_PARTS) (g_PIECES := ?g_PIECES) (g_PLACES_PIECES := ?g_PLACES_PIECES) (l_PLACES_PIECES := ?l_PLACES_PIECES) (g_RANGES := ?g_RANGES) (g_SIDES := ?g_SIDES) (l_SIDES := ?l_SIDES) (g_SIZE := ?g_SIZE) (g_SMALLS := ?g_SMALLS) (g_SUM_SIGNS := ?g_SUM_SIGNS) (l_SUM_SIGNS := ?l_SUM_SIGNS) (g_TESTS := ?g_TESTS) (g_TEST_SIGNS := ?g_TEST_SIGNS) (l_TEST_SIGNS := ?l_TEST_SIGNS) (g_WORD_SIGNS := ?g_WORD_SIGNS) (m_BadShape := ?m_BadShape) (x_BadShape := ?x_BadShape) (sa_BadShape := ?sa_BadShape) (ga_BadShape := ?ga_BadShape) (gg_BadShape := ?gg_BadShape) (nf_BadShape := ?nf_BadShape) (ex_BadShape := ?ex_BadShape) (ty_BadShape := ?ty_BadShape) (kc_BadShape := ?kc_BadShape) (hd_BadShape := ?hd_BadShape) (ic_BadShape := ?ic_BadShape) (ss_BadShape := ?ss_BadShape) (i_BadShape := ?i_BadShape) (ti_BadShape := ?ti_BadShape) (l_BadShape := ?l_BadShape) (c_BadShape := ?c_BadShape) (k_BadShape := ?k_BadShape) (m_BadSize := ?m_BadSize) (x_BadSize := ?x_BadSize) (sa_BadSize := ?sa_BadSize) (ga_BadSize := ?ga_BadSize) (gg_BadSize := ?gg_BadSize) (nf_BadSize := ?nf_BadSize) (ex_BadSize := ?ex_BadSize) (ty_BadSize := ?ty_BadSize) (kc_BadSize := ?kc_BadSize) (hd_BadSize := ?hd_BadSize) (ic_BadSize := ?ic_BadSize) (ss_BadSize := ?ss_BadSize) (i_BadSize := ?i_BadSize) (ti_BadSize := ?ti_BadSize) (l_BadSize := ?l_BadSize) (c_BadSize := ?c_BadSize) (k_BadSize := ?k_BadSize) (m_C_ := ?m_C_) (t_pgC_ := ?t_pgC_) (t_hdC_ := ?t_hdC_) (t_poC_ := ?t_poC_) (t_saC_ := ?t_saC_) (t_mkC_ := ?t_mkC_) (t_kcC_ := ?t_kcC_) (t_n_betweenC_ := ?t_n_betweenC_) (t_n_aheadC_ := ?t_n_aheadC_) (u_C_init := ?u_C_init) (i_C_init := ?i_C_init) (l_C_init := ?l_C_init) (c_C_init := ?c_C_init) (k_C_init := ?k_C_init) (u_C_has := ?u_C_has) (i_C_has := ?i_C_has) (l_C_has := ?l_C_has) (c_C_has := ?c_C_has) (k_C_has := ?k_C_has) (u_C_left_bound := ?u_C_left_bound) (i_C_left_bound := ?i_C_left_bound) (l_C_left_bound := ?l_C_left_bound) (c_C_left_bound := ?c_C_left_bound) (k_C_left_bound := ?k_C_left_bound) (u_C_right_bound := ?u_C_right_bound) (i_C_right_bound := ?i_C_right_bound) (l_C_right_bound := ?l_C_right_bound) (c_C_right_bound := ?c_C_right_bound) (k_C_right_bound := ?k_C_right_bound) (u_C_ahead_bound := ?u_C_ahead_bound) (i_C_ahead_bound := ?i_C_ahead_bound) (l_C_ahead_bound := ?l_C_ahead_bound) (c_C_ahead_bound := ?c_C_ahead_bound) (k_C_ahead_bound := ?k_C_ahead_bound) (m_D_ := ?m_D_) (t_pgD_ := ?t_pgD_) (t_hdD_ := ?t_hdD_) (t_poD_ := ?t_poD_) (t_saD_ := ?t_saD_) (t_mkD_ := ?t_mkD_) (t_kcD_ := ?t_kcD_) (t_n_piecesD_ := ?t_n_piecesD_) (t_n_tableD_ := ?t_n_tableD_) (t_n_atD_ := ?t_n_atD_) (u_D_init := ?u_D_init) (i_D_init := ?i_D_init) (l_D_init := ?l_D_init) (c_D_init := ?c_D_init) (k_D_init := ?k_D_init) (u_D_whole := ?u_D_whole) (i_D_whole := ?i_D_whole) (l_D_whole := ?l_D_whole) (c_D_whole := ?c_D_whole) (k_D_whole := ?k_D_whole) (u_D_part := ?u_D_part) (i_D_part := ?i_D_part) (l_D_part := ?l_D_part) (c_D_part := ?c_D_part) (k_D_part := ?k_D_part) (u_D_goes_on := ?u_D_goes_on) (i_D_goes_on := ?i_D_goes_on) (l_D_goes_on := ?l_D_goes_on) (c_D_goes_on := ?c_D_goes_on) (k_D_goes_on := ?k_D_goes_on) (u_D_first_part := ?u_D_first_part) (i_D_first_part := ?i_D_first_part) (l_D_first_part := ?l_D_first_part) (c_D_first_part := ?c_D_first_part) (k_D_first_part := ?k_D_first_part) (u_D_plain_part := ?u_D_plain_part) (i_D_plain_part := ?i_D_plain_part) (l_D_plain_part := ?l_D_plain_part) (c_D_plain_part := ?c_D_plain_part) (k_D_plain_part := ?k_D_plain_part) (u_D_parts_in_brackets := ?u_D_parts_in_brackets) (i_D_parts_in_brackets := ?i_D_parts_in_brackets) (l_D_parts_in_brackets := ?l_D_parts_in_brackets) (c_D_parts_in_brackets := ?c_D_parts_in_brackets) (k_D_parts_in_brackets := ?k_D_parts_in_brackets) (u_D_is_next := ?u_D_is_next) (i_D_is_next := ?i_D_is_next) (l_D_is_next := ?l_D_is_next) (c_D_is_next := ?c_D_is_next) (k_D_is_next := ?k_D_is_next) (u_D_take := ?u_D_take) (i_D_take := ?i_D_take) (l_D_take := ?l_D_take) (c_D_take := ?c_D_take) (k_D_take := ?k_D_take) (n_hasD := ?n_hasD) (g_PS := ?g_PS) (l_PS := ?l_PS) (kl_PS := ?kl_PS) (lo_PS := ?lo_PS) (m_BP := ?m_BP) (eb_BP := ?eb_BP) (ic_BP := ?ic_BP) (ty_BP := ?ty_BP) (ss_zp := ?ss_zp) (ss_sp := ?ss_sp) (ss_sz := ?ss_sz)
    (case m_GoalError => first | (as_aux_lemma => k_is) | k_is)
    (case sp_GoalError => first | (as_aux_lemma => k_is) | k_is)
    (case rd_GoalError => first | (as_aux_lemma => k_is) | k_is)
    (case fc_GoalError => first | (as_aux_lemma => k_is) | k_is)
    (case a0 => first | (as_aux_lemma => k_is) | k_is)
    (case l0 => first | (as_aux_lemma => k_is) | k_is)
    (case c0 => first | (as_aux_lemma => k_is) | k_is)
    (case k0 => first | (as_aux_lemma => k_is) | k_is)
    (case a1 => first | (as_aux_lemma => k_is) | k_is)
    (case l1 => first | (as_aux_lemma => k_is) | k_is)
    (case c1 => first | (as_aux_lemma => k_is) | k_is)
    (case k1 => first | (as_aux_lemma => k_is) | k_is)
    (case a2 => first | (as_aux_lemma => k_is) | k_is)
    (case l2 => first | (as_aux_lemma => k_is) | k_is)
    (case c2 => first | (as_aux_lemma => k_is) | k_is)
    (case k2 => first | (as_aux_lemma => k_is) | k_is)
    (case a3 => first | (as_aux_lemma => k_is) | k_is)
    (case l3 => first | (as_aux_lemma => k_is) | k_is)
    (case c3 => first | (as_aux_lemma => k_is) | k_is)
    (case k3 => first | (as_aux_lemma => k_is) | k_is)
    (case a4 => first | (as_aux_lemma => k_is) | k_is)
    (case l4 => first | (as_aux_lemma => k_is) | k_is)
    (case c4 => first | (as_aux_lemma => k_is) | k_is)
    (case k4 => first | (as_aux_lemma => k_is) | k_is)
    (case a5 => first | (as_aux_lemma => k_is) | k_is)
    (case l5 => first | (as_aux_lemma => k_is) | k_is)
    (case c5 => first | (as_aux_lemma => k_is) | k_is)
    (case k5 => first | (as_aux_lemma => k_is) | k_is)
    (case a6 => first | (as_aux_lemma => k_is) | k_is)
    (case l6 => first | (as_aux_lemma => k_is) | k_is)
    (case c6 => first | (as_aux_lemma => k_is) | k_is)
    (case k6 => first | (as_aux_lemma => k_is) | k_is)
    (case a7 => first | (as_aux_lemma => k_is) | k_is)
    (case l7 => first | (as_aux_lemma => k_is) | k_is)
    (case c7 => first | (as_aux_lemma => k_is) | k_is)
    (case k7 => first | (as_aux_lemma => k_is) | k_is)
    (case a8 => first | (as_aux_lemma => k_is) | k_is)
    (case l8 => first | (as_aux_lemma => k_is) | k_is)
    (case c8 => first | (as_aux_lemma => k_is) | k_is)
    (case k8 => first | (as_aux_lemma => k_is) | k_is)
    (case a9 => first | (as_aux_lemma => k_is) | k_is)
    (case l9 => first | (as_aux_lemma => k_is) | k_is)
    (case c9 => first | (as_aux_lemma => k_is) | k_is)
    (case k9 => first | (as_aux_lemma => k_is) | k_is)
    (case a10 => first | (as_aux_lemma => k_is) | k_is)
    (case l10 => first | (as_aux_lemma => k_is) | k_is)
    (case c10 => first | (as_aux_lemma => k_is) | k_is)
    (case k10 => first | (as_aux_lemma => k_is) | k_is)
    (case q10 => first | (as_aux_lemma => k_is) | k_is)
    (case r10 => exact ⟨_, rfl⟩)
    (case a11 => first | (as_aux_lemma => k_is) | k_is)
    (case l11 => first | (as_aux_lemma => k_is) | k_is)
    (case c11 => first | (as_aux_lemma => k_is) | k_is)
    (case k11 => first | (as_aux_lemma => k_is) | k_is)
    (case a12 => first | (as_aux_lemma => k_is) | k_is)
    (case l12 => first | (as_aux_lemma => k_is) | k_is)
    (case c12 => first | (as_aux_lemma => k_is) | k_is)
    (case k12 => first | (as_aux_lemma => k_is) | k_is)
    (case a13 => first | (as_aux_lemma => k_is) | k_is)
    (case l13 => first | (as_aux_lemma => k_is) | k_is)
    (case c13 => first | (as_aux_lemma => k_is) | k_is)
    (case k13 => first | (as_aux_lemma => k_is) | k_is)
    (case a14 => first | (as_aux_lemma => k_is) | k_is)
    (case l14 => first | (as_aux_lemma => k_is) | k_is)
    (case c14 => first | (as_aux_lemma => k_is) | k_is)
    (case k14 => first | (as_aux_lemma => k_is) | k_is)
    (case a15 => first | (as_aux_lemma => k_is) | k_is)
    (case l15 => first | (as_aux_lemma => k_is) | k_is)
    (case c15 => first | (as_aux_lemma => k_is) | k_is)
    (case k15 => first | (as_aux_lemma => k_is) | k_is)
    (case a16 => first | (as_aux_lemma => k_is) | k_is)
    (case l16 => first | (as_aux_lemma => k_is) | k_is)
    (case c16 => first | (as_aux_lemma => k_is) | k_is)
    (case k16 => first | (as_aux_lemma => k_is) | k_is)
    (case a17 => first | (as_aux_lemma => k_is) | k_is)
    (case l17 => first | (as_aux_lemma => k_is) | k_is)
    (case c17 => first | (as_aux_lemma => k_is) | k_is)
    (case k17 => first | (as_aux_lemma => k_is) | k_is)
    (case a18 => first | (as_aux_lemma => k_is) | k_is)
    (case l18 => first | (as_aux_lemma => k_is) | k_is)
    (case c18 => first | (as_aux_lemma => k_is) | k_is)
    (case k18 => first | (as_aux_lemma => k_is) | k_is)
    (case a19 => first | (as_aux_lemma => k_is) | k_is)
    (case l19 => first | (as_aux_lemma => k_is) | k_is)
    (case c19 => first | (as_aux_lemma => k_is) | k_is)
    (case k19 => first | (as_aux_lemma => k_is) | k_is)
    (case a20 => first | (as_aux_lemma => k_is) | k_is)
    (case l20 => first | (as_aux_lemma => k_is) | k_is)
    (case c20 => first | (as_aux_lemma => k_is) | k_is)
    (case k20 => first | (as_aux_lemma => k_is) | k_is)
    (case a21 => first | (as_aux_lemma => k_is) | k_is)
    (case l21 => first | (as_aux_lemma => k_is) | k_is)
    (case c21 => first | (as_aux_lemma => k_is) | k_is)
    (case k21 => first | (as_aux_lemma => k_is) | k_is)
    (case a22 => first | (as_aux_lemma => k_is) | k_is)
    (case l22 => first | (as_aux_lemma => k_is) | k_is)
    (case c22 => first | (as_aux_lemma => k_is) | k_is)
    (case k22 => first | (as_aux_lemma => k_is) | k_is)
    (case a23 => first | (as_aux_lemma => k_is) | k_is)
    (case l23 => first | (as_aux_lemma => k_is) | k_is)
    (case c23 => first | (as_aux_lemma => k_is) | k_is)
    (case k23 => first | (as_aux_lemma => k_is) | k_is)
    (case a24 => first | (as_aux_lemma => k_is) | k_is)
    (case l24 => first | (as_aux_lemma => k_is) | k_is)
    (case c24 => first | (as_aux_lemma => k_is) | k_is)
    (case k24 => first | (as_aux_lemma => k_is) | k_is)
    (case a25 => first | (as_aux_lemma => k_is) | k_is)
    (case l25 => first | (as_aux_lemma => k_is) | k_is)
    (case c25 => first | (as_aux_lemma => k_is) | k_is)
    (case k25 => first | (as_aux_lemma => k_is) | k_is)
    (case a26 => first | (as_aux_lemma => k_is) | k_is)
    (case l26 => first | (as_aux_lemma => k_is) | k_is)
    (case c26 => first | (as_aux_lemma => k_is) | k_is)
    (case k26 => first | (as_aux_lemma => k_is) | k_is)
    (case a27 => first | (as_aux_lemma => k_is) | k_is)
    (case l27 => first | (as_aux_lemma => k_is) | k_is)
    (case c27 => first | (as_aux_lemma => k_is) | k_is)
    (case k27 => first | (as_aux_lemma => k_is) | k_is)
    (case a28 => first | (as_aux_lemma => k_is) | k_is)
    (case l28 => first | (as_aux_lemma => k_is) | k_is)
    (case c28 => first | (as_aux_lemma => k_is) | k_is)
    (case k28 => first | (as_aux_lemma => k_is) | k_is)
    (case a29 => first | (as_aux_lemma => k_is) | k_is)
    (case l29 => first | (as_aux_lemma => k_is) | k_is)
    (case c29 => first | (as_aux_lemma => k_is) | k_is)
    (case k29 => first | (as_aux_lemma => k_is) | k_is)
    (case a30 => first | (as_aux_lemma => k_is) | k_is)
    (case l30 => first | (as_aux_lemma => k_is) | k_is)
    (case c30 => first | (as_aux_lemma => k_is) | k_is)
    (case k30 => first | (as_aux_lemma => k_is) | k_is)
    (case a31 => first | (as_aux_lemma => k_is) | k_is)
    (case l31 => first | (as_aux_lemma => k_is) | k_is)
    (case c31 => first | (as_aux_lemma => k_is) | k_is)
    (case k31 => first | (as_aux_lemma => k_is) | k_is)
    (case a32 => first | (as_aux_lemma => k_is) | k_is)
    (case l32 => first | (as_aux_lemma => k_is) | k_is)
    (case c32 => first | (as_aux_lemma => k_is) | k_is)
    (case k32 => first | (as_aux_lemma => k_is) | k_is)
    (case a33 => first | (as_aux_lemma => k_is) | k_is)
    (case l33 => first | (as_aux_lemma => k_is) | k_is)
    (case c33 => first | (as_aux_lemma => k_is) | k_is)
    (case k33 => first | (as_aux_lemma => k_is) | k_is)
    (case a34 => first | (as_aux_lemma => k_is) | k_is)
    (case l34 => first | (as_aux_lemma => k_is) | k_is)
    (case c34 => first | (as_aux_lemma => k_is) | k_is)
    (case k34 => first | (as_aux_lemma => k_is) | k_is)
    (case a35 => first | (as_aux_lemma => k_is) | k_is)
    (case l35 => first | (as_aux_lemma => k_is) | k_is)
    (case c35 => first | (as_aux_lemma => k_is) | k_is)
    (case k35 => first | (as_aux_lemma => k_is) | k_is)
    (case a36 => first | (as_aux_lemma => k_is) | k_is)
    (case l36 => first | (as_aux_lemma => k_is) | k_is)
    (case c36 => first | (as_aux_lemma => k_is) | k_is)
    (case k36 => first | (as_aux_lemma => k_is) | k_is)
    (case a37 => first | (as_aux_lemma => k_is) | k_is)
    (case l37 => first | (as_aux_lemma => k_is) | k_is)
    (case c37 => first | (as_aux_lemma => k_is) | k_is)
    (case k37 => first | (as_aux_lemma => k_is) | k_is)
    (case a38 => first | (as_aux_lemma => k_is) | k_is)
    (case l38 => first | (as_aux_lemma => k_is) | k_is)
    (case c38 => first | (as_aux_lemma => k_is) | k_is)
    (case k38 => first | (as_aux_lemma => k_is) | k_is)
    (case a39 => first | (as_aux_lemma => k_is) | k_is)
    (case l39 => first | (as_aux_lemma => k_is) | k_is)
    (case c39 => first | (as_aux_lemma => k_is) | k_is)
    (case k39 => first | (as_aux_lemma => k_is) | k_is)
    (case q39 => first | (as_aux_lemma => k_is) | k_is)
    (case r39 => exact ⟨_, rfl⟩)
    (case a40 => first | (as_aux_lemma => k_is) | k_is)
    (case l40 => first | (as_aux_lemma => k_is) | k_is)
    (case c40 => first | (as_aux_lemma => k_is) | k_is)
    (case k40 => first | (as_aux_lemma => k_is) | k_is)
    (case a41 => first | (as_aux_lemma => k_is) | k_is)
    (case l41 => first | (as_aux_lemma => k_is) | k_is)
    (case c41 => first | (as_aux_lemma => k_is) | k_is)
    (case k41 => first | (as_aux_lemma => k_is) | k_is)
    (case a42 => first | (as_aux_lemma => k_is) | k_is)
    (case l42 => first | (as_aux_lemma => k_is) | k_is)
    (case c42 => first | (as_aux_lemma => k_is) | k_is)
    (case k42 => first | (as_aux_lemma => k_is) | k_is)
    (case q42 => first | (as_aux_lemma => k_is) | k_is)
    (case r42 => exact ⟨_, rfl⟩)
    (case a43 => first | (as_aux_lemma => k_is) | k_is)
    (case l43 => first | (as_aux_lemma => k_is) | k_is)
    (case c43 => first | (as_aux_lemma => k_is) | k_is)
    (case k43 => first | (as_aux_lemma => k_is) | k_is)
    (case q43 => first | (as_aux_lemma => k_is) | k_is)
    (case r43 => exact ⟨_, rfl⟩)
    (case a44 => first | (as_aux_lemma => k_is) | k_is)
    (case l44 => first | (as_aux_lemma => k_is) | k_is)
    (case c44 => first | (as_aux_lemma => k_is) | k_is)
    (case k44 => first | (as_aux_lemma => k_is) | k_is)
    (case q44 => first | (as_aux_lemma => k_is) | k_is)
    (case r44 => exact ⟨_, rfl⟩)
    (case a45 => first | (as_aux_lemma => k_is) | k_is)
    (case l45 => first | (as_aux_lemma => k_is) | k_is)
    (case c45 => first | (as_aux_lemma => k_is) | k_is)
    (case k45 => first | (as_aux_lemma => k_is) | k_is)
    (case a46 => first | (as_aux_lemma => k_is) | k_is)
    (case l46 => first | (as_aux_lemma => k_is) | k_is)
    (case c46 => first | (as_aux_lemma => k_is) | k_is)
    (case k46 => first | (as_aux_lemma => k_is) | k_is)
    (case a47 => first | (as_aux_lemma => k_is) | k_is)
    (case l47 => first | (as_aux_lemma => k_is) | k_is)
    (case c47 => first | (as_aux_lemma => k_is) | k_is)
    (case k47 => first | (as_aux_lemma => k_is) | k_is)
    (case a48 => first | (as_aux_lemma => k_is) | k_is)
    (case l48 => first | (as_aux_lemma => k_is) | k_is)
    (case c48 => first | (as_aux_lemma => k_is) | k_is)
    (case k48 => first | (as_aux_lemma => k_is) | k_is)
    (case a49 => first | (as_aux_lemma => k_is) | k_is)
    (case l49 => first | (as_aux_lemma => k_is) | k_is)
    (case c49 => first | (as_aux_lemma => k_is) | k_is)
    (case k49 => first | (as_aux_lemma => k_is) | k_is)
    (case a50 => first | (as_aux_lemma => k_is) | k_is)
    (case l50 => first | (as_aux_lemma => k_is) | k_is)
    (case c50 => first | (as_aux_lemma => k_is) | k_is)
    (case k50 => first | (as_aux_lemma => k_is) | k_is)
    (case a51 => first | (as_aux_lemma => k_is) | k_is)
    (case l51 => first | (as_aux_lemma => k_is) | k_is)
    (case c51 => first | (as_aux_lemma => k_is) | k_is)
    (case k51 => first | (as_aux_lemma => k_is) | k_is)
    (case a52 => first | (as_aux_lemma => k_is) | k_is)
    (case l52 => first | (as_aux_lemma => k_is) | k_is)
    (case c52 => first | (as_aux_lemma => k_is) | k_is)
    (case k52 => first | (as_aux_lemma => k_is) | k_is)
    (case a53 => first | (as_aux_lemma => k_is) | k_is)
    (case l53 => first | (as_aux_lemma => k_is) | k_is)
    (case c53 => first | (as_aux_lemma => k_is) | k_is)
    (case k53 => first | (as_aux_lemma => k_is) | k_is)
    (case a54 => first | (as_aux_lemma => k_is) | k_is)
    (case l54 => first | (as_aux_lemma => k_is) | k_is)
    (case c54 => first | (as_aux_lemma => k_is) | k_is)
    (case k54 => first | (as_aux_lemma => k_is) | k_is)
    (case a55 => first | (as_aux_lemma => k_is) | k_is)
    (case l55 => first | (as_aux_lemma => k_is) | k_is)
    (case c55 => first | (as_aux_lemma => k_is) | k_is)
    (case k55 => first | (as_aux_lemma => k_is) | k_is)
    (case a56 => first | (as_aux_lemma => k_is) | k_is)
    (case l56 => first | (as_aux_lemma => k_is) | k_is)
    (case c56 => first | (as_aux_lemma => k_is) | k_is)
    (case k56 => first | (as_aux_lemma => k_is) | k_is)
    (case a57 => first | (as_aux_lemma => k_is) | k_is)
    (case l57 => first | (as_aux_lemma => k_is) | k_is)
    (case c57 => first | (as_aux_lemma => k_is) | k_is)
    (case k57 => first | (as_aux_lemma => k_is) | k_is)
    (case a58 => first | (as_aux_lemma => k_is) | k_is)
    (case l58 => first | (as_aux_lemma => k_is) | k_is)
    (case c58 => first | (as_aux_lemma => k_is) | k_is)
    (case k58 => first | (as_aux_lemma => k_is) | k_is)
    (case z_all => first | (as_aux_lemma => k_is) | k_is)
    (case z_bool => first | (as_aux_lemma => k_is) | k_is)
    (case z_enumerate => first | (as_aux_lemma => k_is) | k_is)
    (case z_int => first | (as_aux_lemma => k_is) | k_is)
    (case z_isinstance => first | (as_aux_lemma => k_is) | k_is)
    (case z_len => first | (as_aux_lemma => k_is) | k_is)
    (case z_list => first | (as_aux_lemma => k_is) | k_is)
    (case z_max => first | (as_aux_lemma => k_is) | k_is)
    (case z_min => first | (as_aux_lemma => k_is) | k_is)
    (case z_range => first | (as_aux_lemma => k_is) | k_is)
    (case z_set => first | (as_aux_lemma => k_is) | k_is)
    (case z_str => first | (as_aux_lemma => k_is) | k_is)
    (case z_sum => first | (as_aux_lemma => k_is) | k_is)
    (case z_tuple => first | (as_aux_lemma => k_is) | k_is)
    (case g_BRACKETS => first | (as_aux_lemma => k_is) | k_is)
    (case g_CAPITALS => first | (as_aux_lemma => k_is) | k_is)
    (case g_DEEP => first | (as_aux_lemma => k_is) | k_is)
    (case g_DIGITS => first | (as_aux_lemma => k_is) | k_is)
    (case g_FIGURES => first | (as_aux_lemma => k_is) | k_is)
    (case g_GOALS => first | (as_aux_lemma => k_is) | k_is)
    (case g_KEPT => first | (as_aux_lemma => k_is) | k_is)
    (case l_KEPT => first | (as_aux_lemma => k_is) | k_is)
    (case g_LEVELS => first | (as_aux_lemma => k_is) | k_is)
    (case g_LEVEL_PIECES => first | (as_aux_lemma => k_is) | k_is)
    (case l_LEVEL_PIECES => first | (as_aux_lemma => k_is) | k_is)
    (case g_MARKS => first | (as_aux_lemma => k_is) | k_is)
    (case g_MARK_SIGNS => first | (as_aux_lemma => k_is) | k_is)
    (case g_OPERATORS => first | (as_aux_lemma => k_is) | k_is)
    (case g_OWN => first | (as_aux_lemma => k_is) | k_is)
    (case l_OWN => first | (as_aux_lemma => k_is) | k_is)
    (case l_OWN_15 => first | (as_aux_lemma => k_is) | k_is)
    (case l_OWN_14 => first | (as_aux_lemma => k_is) | k_is)
    (case l_OWN_13 => first | (as_aux_lemma => k_is) | k_is)
    (case l_OWN_12 => first | (as_aux_lemma => k_is) | k_is)
    (case l_OWN_11 => first | (as_aux_lemma => k_is) | k_is)
    (case l_OWN_10 => first | (as_aux_lemma => k_is) | k_is)
    (case l_OWN_9 => first | (as_aux_lemma => k_is) | k_is)
    (case l_OWN_8 => first | (as_aux_lemma => k_is) | k_is)
    (case l_OWN_7 => first | (as_aux_lemma => k_is) | k_is)
    (case l_OWN_6 => first | (as_aux_lemma => k_is) | k_is)
    (case l_OWN_5 => first | (as_aux_lemma => k_is) | k_is)
    (case l_OWN_4 => first | (as_aux_lemma => k_is) | k_is)
    (case l_OWN_3 => first | (as_aux_lemma => k_is) | k_is)
    (case l_OWN_2 => first | (as_aux_lemma => k_is) | k_is)
    (case l_OWN_1 => first | (as_aux_lemma => k_is) | k_is)
    (case l_OWN_0 => first | (as_aux_lemma => k_is) | k_is)
    (case g_PARTS => first | (as_aux_lemma => k_is) | k_is)
    (case g_PIECES => first | (as_aux_lemma => k_is) | k_is)
    (case g_PLACES_PIECES => first | (as_aux_lemma => k_is) | k_is)
    (case l_PLACES_PIECES => first | (as_aux_lemma => k_is) | k_is)
    (case g_RANGES => first | (as_aux_lemma => k_is) | k_is)
    (case g_SIDES => first | (as_aux_lemma => k_is) | k_is)
    (case l_SIDES => first | (as_aux_lemma => k_is) | k_is)
    (case g_SIZE => first | (as_aux_lemma => k_is) | k_is)
    (case g_SMALLS => first | (as_aux_lemma => k_is) | k_is)
    (case g_SUM_SIGNS => first | (as_aux_lemma => k_is) | k_is)
    (case l_SUM_SIGNS => first | (as_aux_lemma => k_is) | k_is)
    (case g_TESTS => first | (as_aux_lemma => k_is) | k_is)
    (case g_TEST_SIGNS => first | (as_aux_lemma => k_is) | k_is)
    (case l_TEST_SIGNS => first | (as_aux_lemma => k_is) | k_is)
    (case g_WORD_SIGNS => first | (as_aux_lemma => k_is) | k_is)
    (case m_BadShape => first | (as_aux_lemma => k_is) | k_is)
    (case x_BadShape => first | (as_aux_lemma => k_is) | k_is)
    (case sa_BadShape => first | (as_aux_lemma => k_is) | k_is)
    (case ga_BadShape => first | (as_aux_lemma => k_is) | k_is)
    (case gg_BadShape => first | (as_aux_lemma => k_is) | k_is)
    (case nf_BadShape => first | (as_aux_lemma => k_is) | k_is)
    (case ex_BadShape => first | (as_aux_lemma => k_is) | k_is)
    (case ty_BadShape => first | (as_aux_lemma => k_is) | k_is)
    (case kc_BadShape => first | (as_aux_lemma => k_is) | k_is)
    (case hd_BadShape => first | (as_aux_lemma => k_is) | k_is)
    (case ic_BadShape => first | (as_aux_lemma => k_is) | k_is)
    (case ss_BadShape => first | rfl | k_is)
    (case i_BadShape => first | (as_aux_lemma => k_is) | k_is)
    (case ti_BadShape => first | (as_aux_lemma => k_is) | k_is)
    (case l_BadShape => first | (as_aux_lemma => k_is) | k_is)
    (case c_BadShape => first | (as_aux_lemma => k_is) | k_is)
    (case k_BadShape => first | (as_aux_lemma => k_is) | k_is)
    (case m_BadSize => first | (as_aux_lemma => k_is) | k_is)
    (case x_BadSize => first | (as_aux_lemma => k_is) | k_is)
    (case sa_BadSize => first | (as_aux_lemma => k_is) | k_is)
    (case ga_BadSize => first | (as_aux_lemma => k_is) | k_is)
    (case gg_BadSize => first | (as_aux_lemma => k_is) | k_is)
    (case nf_BadSize => first | (as_aux_lemma => k_is) | k_is)
    (case ex_BadSize => first | (as_aux_lemma => k_is) | k_is)
    (case ty_BadSize => first | (as_aux_lemma => k_is) | k_is)
    (case kc_BadSize => first | (as_aux_lemma => k_is) | k_is)
    (case hd_BadSize => first | (as_aux_lemma => k_is) | k_is)
    (case ic_BadSize => first | (as_aux_lemma => k_is) | k_is)
    (case ss_BadSize => first | rfl | k_is)
    (case i_BadSize => first | (as_aux_lemma => k_is) | k_is)
    (case ti_BadSize => first | (as_aux_lemma => k_is) | k_is)
    (case l_BadSize => first | (as_aux_lemma => k_is) | k_is)
    (case c_BadSize => first | (as_aux_lemma => k_is) | k_is)
    (case k_BadSize => first | (as_aux_lemma => k_is) | k_is)
    (case m_C_ => first | (as_aux_lemma => k_is) | k_is)
    (case t_pgC_ => first | (as_aux_lemma => k_is) | k_is)
    (case t_hdC_ => first | (as_aux_lemma => k_is) | k_is)
    (case t_poC_ => first | (as_aux_lemma => k_is) | k_is)
    (case t_saC_ => first | (as_aux_lemma => k_is) | k_is)
    (case t_mkC_ => first | (as_aux_lemma => k_is) | k_is)
    (case t_kcC_ => first | (as_aux_lemma => k_is) | k_is)
    (case t_n_betweenC_ => first | (as_aux_lemma => k_is) | k_is)
    (case t_n_aheadC_ => first | (as_aux_lemma => k_is) | k_is)
    (case u_C_init => first | (as_aux_lemma => k_is) | k_is)
    (case i_C_init => first | (as_aux_lemma => k_is) | k_is)
    (case l_C_init => first | (as_aux_lemma => k_is) | k_is)
    (case c_C_init => first | (as_aux_lemma => k_is) | k_is)
    (case k_C_init => first | (as_aux_lemma => k_is) | k_is)
    (case u_C_has => first | (as_aux_lemma => k_is) | k_is)
    (case i_C_has => first | (as_aux_lemma => k_is) | k_is)
    (case l_C_has => first | (as_aux_lemma => k_is) | k_is)
    (case c_C_has => first | (as_aux_lemma => k_is) | k_is)
    (case k_C_has => first | (as_aux_lemma => k_is) | k_is)
    (case u_C_left_bound => first | (as_aux_lemma => k_is) | k_is)
    (case i_C_left_bound => first | (as_aux_lemma => k_is) | k_is)
    (case l_C_left_bound => first | (as_aux_lemma => k_is) | k_is)
    (case c_C_left_bound => first | (as_aux_lemma => k_is) | k_is)
    (case k_C_left_bound => first | (as_aux_lemma => k_is) | k_is)
    (case u_C_right_bound => first | (as_aux_lemma => k_is) | k_is)
    (case i_C_right_bound => first | (as_aux_lemma => k_is) | k_is)
    (case l_C_right_bound => first | (as_aux_lemma => k_is) | k_is)
    (case c_C_right_bound => first | (as_aux_lemma => k_is) | k_is)
    (case k_C_right_bound => first | (as_aux_lemma => k_is) | k_is)
    (case u_C_ahead_bound => first | (as_aux_lemma => k_is) | k_is)
    (case i_C_ahead_bound => first | (as_aux_lemma => k_is) | k_is)
    (case l_C_ahead_bound => first | (as_aux_lemma => k_is) | k_is)
    (case c_C_ahead_bound => first | (as_aux_lemma => k_is) | k_is)
    (case k_C_ahead_bound => first | (as_aux_lemma => k_is) | k_is)
    (case m_D_ => first | (as_aux_lemma => k_is) | k_is)
    (case t_pgD_ => first | (as_aux_lemma => k_is) | k_is)
    (case t_hdD_ => first | (as_aux_lemma => k_is) | k_is)
    (case t_poD_ => first | (as_aux_lemma => k_is) | k_is)
    (case t_saD_ => first | (as_aux_lemma => k_is) | k_is)
    (case t_mkD_ => first | (as_aux_lemma => k_is) | k_is)
    (case t_kcD_ => first | (as_aux_lemma => k_is) | k_is)
    (case t_n_piecesD_ => first | (as_aux_lemma => k_is) | k_is)
    (case t_n_tableD_ => first | (as_aux_lemma => k_is) | k_is)
    (case t_n_atD_ => first | (as_aux_lemma => k_is) | k_is)
    (case u_D_init => first | (as_aux_lemma => k_is) | k_is)
    (case i_D_init => first | (as_aux_lemma => k_is) | k_is)
    (case l_D_init => first | (as_aux_lemma => k_is) | k_is)
    (case c_D_init => first | (as_aux_lemma => k_is) | k_is)
    (case k_D_init => first | (as_aux_lemma => k_is) | k_is)
    (case u_D_whole => first | (as_aux_lemma => k_is) | k_is)
    (case i_D_whole => first | (as_aux_lemma => k_is) | k_is)
    (case l_D_whole => first | (as_aux_lemma => k_is) | k_is)
    (case c_D_whole => first | (as_aux_lemma => k_is) | k_is)
    (case k_D_whole => first | (as_aux_lemma => k_is) | k_is)
    (case u_D_part => first | (as_aux_lemma => k_is) | k_is)
    (case i_D_part => first | (as_aux_lemma => k_is) | k_is)
    (case l_D_part => first | (as_aux_lemma => k_is) | k_is)
    (case c_D_part => first | (as_aux_lemma => k_is) | k_is)
    (case k_D_part => first | (as_aux_lemma => k_is) | k_is)
    (case u_D_goes_on => first | (as_aux_lemma => k_is) | k_is)
    (case i_D_goes_on => first | (as_aux_lemma => k_is) | k_is)
    (case l_D_goes_on => first | (as_aux_lemma => k_is) | k_is)
    (case c_D_goes_on => first | (as_aux_lemma => k_is) | k_is)
    (case k_D_goes_on => first | (as_aux_lemma => k_is) | k_is)
    (case u_D_first_part => first | (as_aux_lemma => k_is) | k_is)
    (case i_D_first_part => first | (as_aux_lemma => k_is) | k_is)
    (case l_D_first_part => first | (as_aux_lemma => k_is) | k_is)
    (case c_D_first_part => first | (as_aux_lemma => k_is) | k_is)
    (case k_D_first_part => first | (as_aux_lemma => k_is) | k_is)
    (case u_D_plain_part => first | (as_aux_lemma => k_is) | k_is)
    (case i_D_plain_part => first | (as_aux_lemma => k_is) | k_is)
    (case l_D_plain_part => first | (as_aux_lemma => k_is) | k_is)
    (case c_D_plain_part => first | (as_aux_lemma => k_is) | k_is)
    (case k_D_plain_part => first | (as_aux_lemma => k_is) | k_is)
    (case u_D_parts_in_brackets => first | (as_aux_lemma => k_is) | k_is)
    (case i_D_parts_in_brackets => first | (as_aux_lemma => k_is) | k_is)
    (case l_D_parts_in_brackets => first | (as_aux_lemma => k_is) | k_is)
    (case c_D_parts_in_brackets => first | (as_aux_lemma => k_is) | k_is)
    (case k_D_parts_in_brackets => first | (as_aux_lemma => k_is) | k_is)
    (case u_D_is_next => first | (as_aux_lemma => k_is) | k_is)
    (case i_D_is_next => first | (as_aux_lemma => k_is) | k_is)
    (case l_D_is_next => first | (as_aux_lemma => k_is) | k_is)
    (case c_D_is_next => first | (as_aux_lemma => k_is) | k_is)
    (case k_D_is_next => first | (as_aux_lemma => k_is) | k_is)
    (case u_D_take => first | (as_aux_lemma => k_is) | k_is)
    (case i_D_take => first | (as_aux_lemma => k_is) | k_is)
    (case l_D_take => first | (as_aux_lemma => k_is) | k_is)
    (case c_D_take => first | (as_aux_lemma => k_is) | k_is)
    (case k_D_take => first | (as_aux_lemma => k_is) | k_is)
    (case n_hasD => first | (as_aux_lemma => k_is) | k_is)
    (case g_PS => first | (as_aux_lemma => k_is) | k_is)
    (case l_PS => first | (as_aux_lemma => k_is) | k_is)
    (case kl_PS => exact ⟨⟨_, _, rfl, rfl⟩, ⟨_, _, rfl, rfl⟩, trivial⟩)
    (case lo_PS => first | rfl | decide | k_is)
    (case m_BP => first | (as_aux_lemma => k_is) | k_is)
    (case eb_BP => first | (as_aux_lemma => k_is) | k_is)
    (case ic_BP => first | (as_aux_lemma => k_is) | k_is)
    (case ty_BP => first | (as_aux_lemma => k_is) | k_is)
    (case ss_zp => first | rfl | k_is)
    (case ss_sp => first | rfl | k_is)
    (case ss_sz => first | rfl | k_is)
