import PyProof.Rows.All
import Wide.All
import OpenK.AllK
import Wide.FinOn
import PyProof.StrBlock2
import HandS.ForMost
import HandS.IsInst
import HandS.Wide
import HandS.Defaults
import HandS.Evl
import HandS.CallSlots
import HandS.Codes
import HandS.Conv
import HandS.ExcField
import HandS.ExcInit
import HandS.ExcOwn
import HandS.FStr
import HandS.ForExc
import HandS.Iter
import HandS.OwnEq
import HandS.ReplaceLit
import HandS.SetKeys
import HandS.Small
import HandS.SortKw
import HandS.Star
import HandS.StrMore
import HandS.Strs
import HandS.TupAny
import HandS.Zip
import KE.DataCmp
import KE.KMinKey
import KE.LtData
import KE.SortKeyHeap
import KE.DataFind
import HandS.TryMany
import PySem.Challenge.RW_goalstead_k14_goals_by_their_shapes
set_option Elab.async false
set_option linter.all false
set_option maxRecDepth 100000
namespace HdK
open PySem PySem.W PyProof.Rows
set_option maxHeartbeats 0 in
open_top hd for PySem.Challenge.rw_goalstead_k14_goals_by_their_shapes
end HdK
namespace Gs
open PySem PySem.Spec PyProof.Rows L2
/-! ### rules of our own -/
section
variable {X : Cx} {x : Str} {p pos : Pos} {e : Expr} {es : List Expr} {t : TA}
theorem pe_globI {n : Int} (hg : Gl X x) (hm : ∃ t, X.mg x = some (.int n t)) (hd : (x == ("__debug__" : Str)) = false := by decide) : PE X (.Name x pos) (tC (.int n)) := by
  obtain ⟨t, h⟩ := hm
  exact pe_glob hg h ⟨t, rfl⟩ hd
theorem pe_globS {z : Str} (hg : Gl X x) (hm : ∃ t, X.mg x = some (.str z t)) (hd : (x == ("__debug__" : Str)) = false := by decide) : PE X (.Name x pos) (tC (.str z)) := by
  obtain ⟨t, h⟩ := hm
  exact pe_glob hg h ⟨t, rfl⟩ hd
/-- a def of the text that keeps the promise sp, found by its name -/
structure Has (P : Program) (w : World) (K : PySem.W.Frag) (mg : Str → Option Value) (base : Heap) (k : Nat) (x : Str) (ps : List Str) (sp : Sp) : Prop where
  ex : ∃ (f : Addr) (fd : FuncData), FnOk P w K mg base CX0 k f fd ps sp ∧ Binds K fd ps [] ∧ PySem.W.keepIn K (.ref f) = true ∧ mg x = some (.ref f)
theorem pe_callH {k j : Nat} {ps : List Str} {sp : Sp} (C : Has X.prog X.w X.K X.mg X.base k x ps sp) (hr : Room j X.A) (ha : PA X (e :: es) t) (hk : k ≤ j := by decide) (hg : Gl X x := by rfl) (hdb : (x == ("__debug__" : Str)) = false := by decide)
    (he : starEach (e :: es) X.env = (false, eval e X.env) :: starEach es X.env := by rfl) (hpl : (backTo pos (starEach es X.env)).any (·.1) = false := by rfl) :
    PE X (.Call (.Name x p) (e :: es) [] pos) (tCall sp [] E0 t) := by
  obtain ⟨f, fd, F, b, kp, m⟩ := C.ex
  exact pe_call F (hr.mono hk) hg m kp b .nil pass0 ha hdb he hpl
theorem pe_callH0 {k j : Nat} {ps : List Str} {sp : Sp} (C : Has X.prog X.w X.K X.mg X.base k x ps sp) (hr : Room j X.A) (hk : k ≤ j := by decide) (hg : Gl X x := by rfl) (hdb : (x == ("__debug__" : Str)) = false := by decide) :
    PE X (.Call (.Name x p) [] [] pos) (tCall sp [] E0 tNil) := by
  obtain ⟨f, fd, F, b, kp, m⟩ := C.ex
  exact pe_call0 F (hr.mono hk) hg m kp b .nil pass0 hdb
def rStrMul : R2 := fun x y H Q => ∃ z n, x = .str z ∧ y = .int n ∧ MulOk z n ∧ Q (.str (Txt.mul z n)) H
theorem op_strMul : OpR X (binaryOp .Mult) rStrMul := by
  intro pins s σ H x y v u Q I rx ry h
  obtain ⟨z, n, rfl, rfl, hok, q⟩ := h
  obtain ⟨t, rfl⟩ := rx
  obtain ⟨t', rfl⟩ := ry
  exact PySem.SB.mul hok fun t2 k => ⟨.str _, H, I.tok k, ⟨_, rfl⟩, q⟩
end
/-! ### steps of a reading -/
section
variable {σ : L2.St} {H : Hp} {v x y : V} {Q : VK} {i : Nat} {ta tb te : TE} {tr : TA} {r : R2} {D : Ends} {t1 t2 : TS} {g : TG} {tt tu : TT} {R : Bool → Hp → Prop} {QA : List V → Hp → Prop}
theorem x_var (h : σ[i]? = some (some v)) (q : Q v H) : tVar i σ H Q := ⟨v, h, q⟩
theorem x_c (q : Q v H) : tC v σ H Q := q
theorem x_op (q : ta σ H fun x H1 => tb σ H1 fun y H2 => r x y H2 Q) : tOp r ta tb σ H Q := q
theorem x_un {ru : V → Hp → VK → Prop} (q : ta σ H fun x H1 => ru x H1 Q) : tUn ru ta σ H Q := q
theorem x_i0 {f : Int → Int → V} {a b : Int} (q : Q (f a b) H) : rI0 f (.int a) (.int b) H Q := ⟨a, b, rfl, rfl, q⟩
theorem x_i {C : Int → Int → Prop} {f : Int → Int → V} {a b : Int} (c : C a b) (q : Q (f a b) H) : rI C f (.int a) (.int b) H Q := ⟨a, b, rfl, rfl, c, q⟩
theorem x_u {f : Int → V} {a : Int} (q : Q (f a) H) : rU f (.int a) H Q := ⟨a, rfl, q⟩
theorem x_eq (hs : scal x y = true) (q : Q (.bl (decide (x = y))) H) : rEq x y H Q := ⟨hs, q⟩
theorem x_ne (hs : scal x y = true) (q : Q (.bl (!decide (x = y))) H) : rNe x y H Q := ⟨hs, q⟩
theorem x_nil (q : QA [] H) : tNil σ H QA := q
theorem x_cons (q : ta σ H fun x H1 => tr σ H1 fun xs H2 => QA (x :: xs) H2) : tCons ta tr σ H QA := q
theorem x_call {sp : Sp} {dvs : List V} {E : XK} (q : tr σ H fun vs H1 => sp (vs ++ dvs) H1 Q E) : tCall sp dvs E tr σ H Q := q
theorem x_cb {rc : List V → Hp → VK → Prop} (q : tr σ H fun vs H1 => rc vs H1 Q) : tCB rc tr σ H Q := q
theorem x_test (q : te σ H fun x H1 => ∃ k, x = .bl k ∧ R k H1) : tTest te σ H R := q
theorem x_B (q : te σ H fun x H1 => ∃ k, x = .bl k ∧ R k H1) : tB te σ H R := q
theorem x_and (q : tt σ H fun c H1 => if c = true then tu σ H1 R else R false H1) : tAnd tt tu σ H R := q
theorem x_or (q : tt σ H fun c H1 => if c = true then R true H1 else tu σ H1 R) : tOr tt tu σ H R := q
theorem x_not (q : tt σ H fun c H1 => R (!c) H1) : tNot tt σ H R := q
theorem x_ifE (q : tt σ H fun c H1 => if c = true then ta σ H1 Q else tb σ H1 Q) : tIf tt ta tb σ H Q := q
theorem x_andV (q : ta σ H fun x H1 => ∃ c, x = .bl c ∧ if c = true then tb σ H1 Q else Q (.bl false) H1) : tAndV ta tb σ H Q := q
theorem x_orV (q : ta σ H fun x H1 => ∃ c, x = .bl c ∧ if c = true then Q (.bl true) H1 else tb σ H1 Q) : tOrV ta tb σ H Q := q
theorem x_notV (q : ta σ H fun x H1 => ∃ c, x = .bl c ∧ Q (.bl (!c)) H1) : tNotV ta σ H Q := q
theorem x_ex {b : Bool} {A : Bool → Prop} (q : A b) : ∃ k, V.bl b = .bl k ∧ A k := ⟨b, rfl, q⟩
theorem x_cut {M : L2.St → Hp → Prop} (q : t1 { D with nx := M } σ H) (k : ∀ σ' H', M σ' H' → t2 D σ' H') : Evl.tCut t1 t2 D σ H := ⟨M, q, k⟩
theorem x_seq (q : t1 { D with nx := t2 D } σ H) : tSeq t1 t2 D σ H := q
theorem x_next (q : D.nx σ H) : tNext D σ H := q
theorem x_brk (q : D.bk σ H) : tBreak D σ H := q
theorem x_cont (q : D.ct σ H) : tCont D σ H := q
theorem x_asg (q : te σ H fun x H1 => g x σ H1 D.nx) : tAsg te g D σ H := q
theorem x_drop (q : te σ H fun _ H1 => D.nx σ H1) : tDrop te D σ H := q
theorem x_ret (q : te σ H D.rt) : tRet te D σ H := q
theorem x_retN (q : D.rt .non H) : tRetN D σ H := q
theorem x_ifS (q : tt σ H fun b H1 => if b = true then t1 D σ H1 else t2 D σ H1) : tIfS tt t1 t2 D σ H := q
theorem x_gn {k : L2.St → Hp → Prop} (q : k (σ.set i (some v)) H) : gName i v σ H k := q
theorem x_gsub {to ti : TE} {st : TSet} {k : L2.St → Hp → Prop} (q : to σ H fun o H1 => ti σ H1 fun i H2 => st o i v H2 fun H3 => k σ H3) : gSub to ti st v σ H k := q
theorem x_aug {ip : TIp} (h : σ[i]? = some (some x)) (q : te σ H fun y H1 => ip x y H1 fun z H2 => D.nx (σ.set i (some z)) H2) : tAug i te ip D σ H := ⟨x, h, q⟩
theorem x_ixL {K : PySem.W.Frag} {p : Addr} {xs : List V} {a : Int} (h : SqL K H p xs) (ha : atI xs a = some v) (q : Q v H) : rIxL K (.ref p) (.int a) H Q := ⟨p, xs, a, v, rfl, rfl, h, ha, q⟩
theorem x_ixT {K : PySem.W.Frag} {p : Addr} {xs : List V} {a : Int} (h : SqT K H p xs) (ha : atI xs a = some v) (q : Q v H) : rIxT K (.ref p) (.int a) H Q := ⟨p, xs, a, v, rfl, rfl, h, ha, q⟩
theorem x_ixS {z : Str} {a : Int} {c : Nat} (h : z.length ≤ sizeLine) (ha : atI z.cps.toList a = some c) (q : Q (.str ⟨#[c]⟩) H) : rIxS (.str z) (.int a) H Q := ⟨z, a, c, rfl, rfl, h, ha, q⟩
theorem x_setL {p : Addr} {xs : List V} {a : Int} {j : Nat} {k : Hp → Prop} (h : H p = some (.lst xs)) (hi : ixN xs.length a = some j) (q : k (upd H p (.lst (xs.set j v)))) : rSetL (.ref p) (.int a) v H k := ⟨p, xs, a, j, rfl, rfl, h, hi, q⟩
theorem x_lst (q : tr σ H fun xs H1 => xs.length ≤ sizeLine ∧ ∀ p, H1 p = none → Q (.ref p) (upd H1 p (.lst xs))) : tLst tr σ H Q := q
theorem x_tup (q : tr σ H fun xs H1 => xs.length ≤ sizeLine ∧ ∀ p, H1 p = none → Q (.ref p) (upd H1 p (.tup xs))) : tTup tr σ H Q := q
theorem x_sl {rs : V → Option Int → Option Int → Hp → VK → Prop} {tl th : TO} (q : te σ H fun x H1 => tl σ H1 fun l H2 => th σ H2 fun u H3 => rs x l u H3 Q) : tSl rs te tl th σ H Q := q
theorem x_part {k : Option Int → Hp → Prop} (q : te σ H fun x H1 => ∃ i, x = .int i ∧ k (some i) H1) : tPart te σ H k := q
theorem x_exI {a : Int} {A : Int → Prop} (q : A a) : ∃ i, V.int a = .int i ∧ A i := ⟨a, rfl, q⟩
theorem x_slL {K : PySem.W.Frag} {a : Addr} {xs : List V} {lo hi : Option Int} (h : SqL K H a xs) (q : ∀ p, H p = none → Q (.ref p) (upd H p (.lst (cutV xs lo hi)))) : rSlL K (.ref a) lo hi H Q := ⟨a, xs, rfl, h, q⟩
theorem x_slS {z : Str} {lo hi : Option Int} (h : z.length ≤ sizeLine) (q : Q (.str (cutS z lo hi)) H) : rSlS (.str z) lo hi H Q := ⟨z, rfl, h, q⟩
theorem x_nopart {k : Option Int → Hp → Prop} (q : k none H) : tNoPart σ H k := q
theorem x_bm {K : PySem.W.Frag} {T : String} {rm : V → List V → Hp → VK → Prop} {to : TE} (q : to σ H fun x H1 => tyV K T x H1 ∧ tr σ H1 fun xs H2 => rm x xs H2 Q) : tBM K T rm to tr σ H Q := q
theorem x_bm0 {K : PySem.W.Frag} {T : String} {rm : V → List V → Hp → VK → Prop} {to : TE} (q : to σ H fun x H1 => tyV K T x H1 ∧ rm x [] H1 Q) : tBM0 K T rm to σ H Q := q
theorem x_addS {a b : Str} {A : Str → Str → Prop} (h : a.length + b.length ≤ sizeLine) (q : A a b) : ∃ i j, V.str a = .str i ∧ V.str b = .str j ∧ i.length + j.length ≤ sizeLine ∧ A i j := ⟨a, b, rfl, rfl, h, q⟩
/-- a decided test -/
theorem x_ite {c : Prop} [Decidable c] {A B : Prop} (h1 : c → A) (h2 : ¬ c → B) : if decide c = true then A else B := by
  by_cases h : c
  · rw [if_pos (decide_eq_true h)]
    exact h1 h
  · rw [if_neg (by rw [decide_eq_false h]; decide)]
    exact h2 h
theorem x_iteN {c : Prop} [Decidable c] {A B : Prop} (h1 : ¬ c → A) (h2 : c → B) : if (!decide c) = true then A else B := by
  by_cases h : c
  · rw [if_neg (by rw [decide_eq_true h]; decide)]
    exact h2 h
  · rw [if_pos (by rw [decide_eq_false h]; rfl)]
    exact h1 h
theorem x_iteB {b : Bool} {A B : Prop} (h1 : b = true → A) (h2 : b = false → B) : if b = true then A else B := by
  cases b with
  | true => exact h1 rfl
  | false => exact h2 rfl
theorem x_iteF {A B : Prop} (h : B) : if false = true then A else B := h
theorem x_iteT {A B : Prop} (h : A) : if true = true then A else B := h
end
end Gs
namespace Gs
open PySem PySem.Spec PyProof.Rows L2
theorem cmulW {i j : Int} (h1 : i.natAbs < 2 ^ 200) (h2 : j.natAbs < 2 ^ 200) : CMulW i j := wide_mul h1 h2 (by decide) (by decide) (by decide)
theorem cdivW {i j : Int} (h1 : 0 < j) (h2 : j.natAbs < 2 ^ 200) : CDivW i j := wide_div h1 h2 (by decide) (by decide)
theorem fmod0 {a b : Int} (h : 0 < b) : 0 ≤ a.fmod b := by rw [Int.fmod_eq_emod_of_nonneg a (by omega)]; exact Int.emod_nonneg a (by omega)
theorem fmodlt {a b : Int} (h : 0 < b) : a.fmod b < b := by rw [Int.fmod_eq_emod_of_nonneg a (by omega)]; exact Int.emod_lt_of_pos a h
theorem sz {n : Nat} (h : n ≤ 100000) : n ≤ sizeLine := Nat.le_trans h (by decide)
theorem szl {n : Nat} (h : n < 100000) : n < sizeLine := Nat.lt_of_lt_of_le h (by decide)
end Gs
namespace Gs
open PySem PySem.Spec PyProof.Rows L2
theorem at0 {α : Type} {xs : List α} {v : α} (h : xs[0]? = some v) : atI xs 0 = some v := atI_nat (j := 0) h
theorem at1 {α : Type} {xs : List α} {v : α} (h : xs[1]? = some v) : atI xs 1 = some v := atI_nat (j := 1) h
theorem at2 {α : Type} {xs : List α} {v : α} (h : xs[2]? = some v) : atI xs 2 = some v := atI_nat (j := 2) h
theorem at3 {α : Type} {xs : List α} {v : α} (h : xs[3]? = some v) : atI xs 3 = some v := atI_nat (j := 3) h
theorem at4 {α : Type} {xs : List α} {v : α} (h : xs[4]? = some v) : atI xs 4 = some v := atI_nat (j := 4) h
theorem at5 {α : Type} {xs : List α} {v : α} (h : xs[5]? = some v) : atI xs 5 = some v := atI_nat (j := 5) h
theorem at6 {α : Type} {xs : List α} {v : α} (h : xs[6]? = some v) : atI xs 6 = some v := atI_nat (j := 6) h
theorem at7 {α : Type} {xs : List α} {v : α} (h : xs[7]? = some v) : atI xs 7 = some v := atI_nat (j := 7) h
theorem at8 {α : Type} {xs : List α} {v : α} (h : xs[8]? = some v) : atI xs 8 = some v := atI_nat (j := 8) h
theorem at9 {α : Type} {xs : List α} {v : α} (h : xs[9]? = some v) : atI xs 9 = some v := atI_nat (j := 9) h
theorem ixN_of {n : Nat} {j : Nat} (h : j < n) : ixN n (j : Int) = some j := by
  unfold ixN
  rw [if_pos (by omega), if_pos (by omega)]
  simp
theorem ix0 {n : Nat} (h : 0 < n) : ixN n 0 = some 0 := ixN_of (j := 0) h
theorem ix1 {n : Nat} (h : 1 < n) : ixN n 1 = some 1 := ixN_of (j := 1) h
theorem ix2 {n : Nat} (h : 2 < n) : ixN n 2 = some 2 := ixN_of (j := 2) h
theorem ix3 {n : Nat} (h : 3 < n) : ixN n 3 = some 3 := ixN_of (j := 3) h
theorem ix4 {n : Nat} (h : 4 < n) : ixN n 4 = some 4 := ixN_of (j := 4) h
end Gs
namespace Gs
open PySem PySem.Spec PyProof.Rows L2
section
variable {H : Hp} {Q : VK} {a b : Int}
theorem x_mod (hb : 0 < b) (q : ∀ r : Int, 0 ≤ r → r < b → r = a.fmod b → Q (.int r) H) : rI (fun _ j => j ≠ 0) (fun i j => V.int (i.fmod j)) (.int a) (.int b) H Q :=
  ⟨a, b, rfl, rfl, by omega, q _ (fmod0 hb) (fmodlt hb) rfl⟩
theorem x_div (hb : CDivW a b) (q : ∀ r : Int, r = a / b → (0 ≤ a → 0 ≤ r ∧ r ≤ a) → Q (.int r) H) : rI CDivW (fun i j => V.int (i / j)) (.int a) (.int b) H Q :=
  ⟨a, b, rfl, rfl, hb, q _ rfl fun ha => ⟨Int.ediv_nonneg ha (Int.le_of_lt hb.1), Int.ediv_le_self b ha⟩⟩
end
end Gs
namespace Gs
open PySem PySem.Spec PyProof.Rows L2
section
variable {K : PySem.W.Frag} {H : Hp} {Q : VK}
theorem dpInts : ∀ ns : List Int, DpAll K H (ns.map V.int) (ns.map PyData.int)
  | [] => .nil
  | n :: r => .cons (.int n) (dpInts r)
theorem x_neNil {l q : Addr} {ns : List Int} (h : SqL K H l (ns.map V.int)) (h2 : SqL K H q []) (k : Q (.bl (!decide (ns = []))) H) : rNeD K (.ref l) (.ref q) H Q := by
  refine ⟨.list (ns.map PyData.int), .list [], .lst h (dpInts ns), .lst h2 .nil, PySem.W.ke_shaped_ints ns, PySem.W.ke_shaped_ints [], ?_⟩
  have e : PyData.eqv (.list (ns.map PyData.int)) (.list []) = decide (ns = []) := by
    cases ns with
    | nil => rfl
    | cons n r => rfl
  rw [e]
  exact k
theorem seqIx0 {n : Nat} (h : 0 < n) : seqIndex? 0 n = some 0 := (ixN_seq (ix0 h)).1
end
end Gs
namespace Gs
open PySem PySem.Spec PyProof.Rows L2
section
variable {σ : L2.St} {H : Hp} {wi : TI} {g : TG} {tb : TS} {D : Ends} {ta : TA} {te : TE} {R : It → Hp → Prop} {K : PySem.W.Frag} {Q : VK}
theorem x_for (q : wi σ H fun J H1 => ∃ W : Nat → Nat → L2.St → Hp → Prop, (∃ m, W 0 m σ H1) ∧ ∀ i m σ H, W i m σ H →
  (J.stop i H ∧ D.nx σ H) ∨ (J.go i H ∧ ∃ N : L2.St → Hp → Prop, (∀ σ' H', N σ' H' → ∃ m', m' < m ∧ W (i + 1) m' σ' H') ∧ ∀ x H', J.yld i H x H' → g x σ H' fun σ2 H2 => tb { D with nx := N, ct := N, bk := D.nx } σ2 H2)) : tFor wi g tb D σ H := q
theorem x_rng1 (q : ta σ H fun vs H1 => ∃ j : Int, vs = [.int j] ∧ -(2 ^ 62) ≤ j ∧ j < 2 ^ 62 ∧ R (Itr 0 j.toNat) H1) : iRng1 ta σ H R := q
theorem x_rng2 (q : ta σ H fun vs H1 => ∃ i j : Int, vs = [.int i, .int j] ∧ (-(2 ^ 62) ≤ i ∧ i < 2 ^ 62 ∧ -(2 ^ 62) ≤ j ∧ j < 2 ^ 62) ∧ R (Itr i (j - i).toNat) H1) : iRng2 ta σ H R := q
theorem x_ilist (q : te σ H fun x H1 => ∃ a, x = .ref a ∧ (∃ xs, SqL K H1 a xs) ∧ R (Itl K a) H1) : iList K te σ H R := q
theorem x_itup (q : te σ H fun x H1 => ∃ a, x = .ref a ∧ (∃ xs, SqT K H1 a xs) ∧ R (Itt K a) H1) : iTup K te σ H R := q
/-- for x in range(n) -/
theorem x_forR1 {n : Int} {X : L2.St → Hp → Prop} {rt : VK} (Pv : Nat → L2.St → Hp → Prop) (hn : n < 2 ^ 62) (hn0 : -(2 ^ 62) ≤ n) (h0 : Pv 0 σ H)
    (hs : ∀ (i : Nat) σ H, (i : Int) < n → Pv i σ H → g (.int (i : Int)) σ H fun σ2 H2 => tb { nx := Pv (i + 1), rt := rt, bk := X, ct := Pv (i + 1) } σ2 H2) (hd : ∀ σ H, Pv n.toNat σ H → X σ H) :
    ∃ j : Int, [V.int n] = [.int j] ∧ -(2 ^ 62) ≤ j ∧ j < 2 ^ 62 ∧ ∃ W : Nat → Nat → L2.St → Hp → Prop, (∃ m, W 0 m σ H) ∧ ∀ i m σ H, W i m σ H →
      ((Itr 0 j.toNat).stop i H ∧ X σ H) ∨ ((Itr 0 j.toNat).go i H ∧ ∃ N : L2.St → Hp → Prop, (∀ σ' H', N σ' H' → ∃ m', m' < m ∧ W (i + 1) m' σ' H') ∧ ∀ x H', (Itr 0 j.toNat).yld i H x H' → g x σ H' fun σ2 H2 => tb { nx := N, rt := rt, bk := X, ct := N } σ2 H2) :=
  ⟨n, rfl, hn0, hn, for_range (D := { nx := X, rt := rt }) (lo := 0) (n := n.toNat) Pv h0 (fun i σ' H' hi p => by
    have e : (0 : Int) + (i : Int) = (i : Int) := Int.zero_add _
    rw [e]
    exact hs i σ' H' (by omega) p) hd⟩
theorem x_forR2 {lo hi : Int} {X : L2.St → Hp → Prop} {rt : VK} (Pv : Nat → L2.St → Hp → Prop) (hn : -(2 ^ 62) ≤ lo ∧ lo < 2 ^ 62 ∧ -(2 ^ 62) ≤ hi ∧ hi < 2 ^ 62) (h0 : Pv 0 σ H)
    (hs : ∀ (i : Nat) σ H, lo + (i : Int) < hi → Pv i σ H → g (.int (lo + (i : Int))) σ H fun σ2 H2 => tb { nx := Pv (i + 1), rt := rt, bk := X, ct := Pv (i + 1) } σ2 H2) (hd : ∀ σ H, Pv (hi - lo).toNat σ H → X σ H) :
    ∃ i j : Int, [V.int lo, V.int hi] = [.int i, .int j] ∧ (-(2 ^ 62) ≤ i ∧ i < 2 ^ 62 ∧ -(2 ^ 62) ≤ j ∧ j < 2 ^ 62) ∧ ∃ W : Nat → Nat → L2.St → Hp → Prop, (∃ m, W 0 m σ H) ∧ ∀ i' m σ H, W i' m σ H →
      ((Itr i (j - i).toNat).stop i' H ∧ X σ H) ∨ ((Itr i (j - i).toNat).go i' H ∧ ∃ N : L2.St → Hp → Prop, (∀ σ' H', N σ' H' → ∃ m', m' < m ∧ W (i' + 1) m' σ' H') ∧ ∀ x H', (Itr i (j - i).toNat).yld i' H x H' → g x σ H' fun σ2 H2 => tb { nx := N, rt := rt, bk := X, ct := N } σ2 H2) :=
  ⟨lo, hi, rfl, hn, for_range (D := { nx := X, rt := rt }) (lo := lo) (n := (hi - lo).toNat) Pv h0 (fun i σ' H' hi' p => hs i σ' H' (by omega) p) hd⟩
/-- for x in a list, a tuple -/
theorem x_forL {a : Addr} {xs : List V} {X : L2.St → Hp → Prop} {rt : VK} (Pv : Nat → L2.St → Hp → Prop) (h0 : Pv 0 σ H) (hl : ∀ i σ H, i ≤ xs.length → Pv i σ H → SqL K H a xs)
    (hs : ∀ i x σ H, xs[i]? = some x → Pv i σ H → g x σ H fun σ2 H2 => tb { nx := Pv (i + 1), rt := rt, bk := X, ct := Pv (i + 1) } σ2 H2) (hd : ∀ σ H, Pv xs.length σ H → X σ H) (hS : SqL K H a xs) :
    ∃ b, V.ref a = .ref b ∧ (∃ xs, SqL K H b xs) ∧ ∃ W : Nat → Nat → L2.St → Hp → Prop, (∃ m, W 0 m σ H) ∧ ∀ i m σ H, W i m σ H →
      ((Itl K b).stop i H ∧ X σ H) ∨ ((Itl K b).go i H ∧ ∃ N : L2.St → Hp → Prop, (∀ σ' H', N σ' H' → ∃ m', m' < m ∧ W (i + 1) m' σ' H') ∧ ∀ x H', (Itl K b).yld i H x H' → g x σ H' fun σ2 H2 => tb { nx := N, rt := rt, bk := X, ct := N } σ2 H2) :=
  ⟨a, rfl, ⟨xs, hS⟩, for_list (D := { nx := X, rt := rt }) Pv h0 hl hs hd⟩
theorem x_forT {a : Addr} {xs : List V} {X : L2.St → Hp → Prop} {rt : VK} (Pv : Nat → L2.St → Hp → Prop) (h0 : Pv 0 σ H) (hl : ∀ i σ H, i ≤ xs.length → Pv i σ H → SqT K H a xs)
    (hs : ∀ i x σ H, xs[i]? = some x → Pv i σ H → g x σ H fun σ2 H2 => tb { nx := Pv (i + 1), rt := rt, bk := X, ct := Pv (i + 1) } σ2 H2) (hd : ∀ σ H, Pv xs.length σ H → X σ H) (hS : SqT K H a xs) :
    ∃ b, V.ref a = .ref b ∧ (∃ xs, SqT K H b xs) ∧ ∃ W : Nat → Nat → L2.St → Hp → Prop, (∃ m, W 0 m σ H) ∧ ∀ i m σ H, W i m σ H →
      ((Itt K b).stop i H ∧ X σ H) ∨ ((Itt K b).go i H ∧ ∃ N : L2.St → Hp → Prop, (∀ σ' H', N σ' H' → ∃ m', m' < m ∧ W (i + 1) m' σ' H') ∧ ∀ x H', (Itt K b).yld i H x H' → g x σ H' fun σ2 H2 => tb { nx := N, rt := rt, bk := X, ct := N } σ2 H2) :=
  ⟨a, rfl, ⟨xs, hS⟩, for_tup (D := { nx := X, rt := rt }) Pv h0 hl hs hd⟩
end
end Gs
namespace Gs
open PySem PySem.Spec PyProof.Rows L2
section
variable {σ : L2.St} {H : Hp} {wi : TI} {g : TG} {tt : TT} {ta : TA} {to te : TE} {K : PySem.W.Frag} {Q : VK} {vs : List Nat} {x y : V}
theorem x_lc (q : wi σ H fun J H1 => ∀ D, H1 D = none → ∃ W : Nat → Nat → Hp → Prop, (∃ m, W 0 m (upd H1 D (.lst []))) ∧ ∀ i m H, W i m H →
  (J.stop i H ∧ Q (.ref D) H) ∨ (J.go i H ∧ ∃ Nx : Hp → Prop, (∀ H', Nx H' → ∃ m', m' < m ∧ W (i + 1) m' H') ∧ ∀ x H', J.yld i H x H' → g x (wipe σ vs) H' fun σ2 H2 => wipe σ2 vs = wipe σ vs ∧ tt σ2 H2 fun b H3 =>
    if b = true then te σ2 H3 fun y H4 => ∃ acc, H4 D = some (.lst acc) ∧ acc.length < sizeLine ∧ Nx (upd H4 D (.lst (acc ++ [y]))) else Nx H3)) : tLc wi g tt te vs σ H Q := q
theorem x_yes {R : Bool → Hp → Prop} (q : R true H) : tYes σ H R := q
theorem x_lcR1 {n : Int} {Qd : Addr → Hp → Prop} (Pv : Addr → Nat → Hp → Prop) (hn0 : -(2 ^ 62) ≤ n) (hn : n < 2 ^ 62) (h0 : ∀ D, H D = none → Pv D 0 (upd H D (.lst [])))
    (hs : ∀ D, H D = none → ∀ (i : Nat) H', (i : Int) < n → Pv D i H' → g (.int (i : Int)) (wipe σ vs) H' fun σ2 H2 => wipe σ2 vs = wipe σ vs ∧ tt σ2 H2 fun b H3 =>
      if b = true then te σ2 H3 fun y H4 => ∃ acc, H4 D = some (.lst acc) ∧ acc.length < sizeLine ∧ Pv D (i + 1) (upd H4 D (.lst (acc ++ [y]))) else Pv D (i + 1) H3) (hd : ∀ D, H D = none → ∀ H', Pv D n.toNat H' → Qd D H') :
    ∃ j : Int, [V.int n] = [.int j] ∧ -(2 ^ 62) ≤ j ∧ j < 2 ^ 62 ∧ ∀ D, H D = none → ∃ W : Nat → Nat → Hp → Prop, (∃ m, W 0 m (upd H D (.lst []))) ∧ ∀ i m H, W i m H →
      ((Itr 0 j.toNat).stop i H ∧ Qd D H) ∨ ((Itr 0 j.toNat).go i H ∧ ∃ Nx : Hp → Prop, (∀ H', Nx H' → ∃ m', m' < m ∧ W (i + 1) m' H') ∧ ∀ x H', (Itr 0 j.toNat).yld i H x H' → g x (wipe σ vs) H' fun σ2 H2 => wipe σ2 vs = wipe σ vs ∧ tt σ2 H2 fun b H3 =>
        if b = true then te σ2 H3 fun y H4 => ∃ acc, H4 D = some (.lst acc) ∧ acc.length < sizeLine ∧ Nx (upd H4 D (.lst (acc ++ [y]))) else Nx H3) :=
  ⟨n, rfl, hn0, hn, fun D hD => lc_range (lo := 0) (n := n.toNat) (Pv D) (h0 D hD) (fun i H' hi p => by
    have e : (0 : Int) + (i : Int) = (i : Int) := Int.zero_add _
    rw [e]
    exact hs D hD i H' (by omega) p) (hd D hD)⟩
theorem x_lcL {Qd : Addr → Hp → Prop} {a : Addr} {xs : List V} (Pv : Addr → Nat → Hp → Prop) (hS : SqL K H a xs) (h0 : ∀ D, H D = none → Pv D 0 (upd H D (.lst []))) (hl : ∀ D, H D = none → ∀ i H', i ≤ xs.length → Pv D i H' → SqL K H' a xs)
    (hs : ∀ D, H D = none → ∀ i x H', xs[i]? = some x → Pv D i H' → g x (wipe σ vs) H' fun σ2 H2 => wipe σ2 vs = wipe σ vs ∧ tt σ2 H2 fun b H3 =>
      if b = true then te σ2 H3 fun y H4 => ∃ acc, H4 D = some (.lst acc) ∧ acc.length < sizeLine ∧ Pv D (i + 1) (upd H4 D (.lst (acc ++ [y]))) else Pv D (i + 1) H3) (hd : ∀ D, H D = none → ∀ H', Pv D xs.length H' → Qd D H') :
    ∃ b, V.ref a = .ref b ∧ (∃ xs, SqL K H b xs) ∧ ∀ D, H D = none → ∃ W : Nat → Nat → Hp → Prop, (∃ m, W 0 m (upd H D (.lst []))) ∧ ∀ i m H, W i m H →
      ((Itl K b).stop i H ∧ Qd D H) ∨ ((Itl K b).go i H ∧ ∃ Nx : Hp → Prop, (∀ H', Nx H' → ∃ m', m' < m ∧ W (i + 1) m' H') ∧ ∀ x H', (Itl K b).yld i H x H' → g x (wipe σ vs) H' fun σ2 H2 => wipe σ2 vs = wipe σ vs ∧ tt σ2 H2 fun b H3 =>
        if b = true then te σ2 H3 fun y H4 => ∃ acc, H4 D = some (.lst acc) ∧ acc.length < sizeLine ∧ Nx (upd H4 D (.lst (acc ++ [y]))) else Nx H3) :=
  ⟨a, rfl, ⟨xs, hS⟩, fun D hD => lc_list (xs := xs) (Pv D) (h0 D hD) (hl D hD) (hs D hD) (hd D hD)⟩
theorem x_m1 {r : V → List V → Hp → VK → Prop} (q : to σ H fun x H1 => (∃ a, x = .str a) ∧ te σ H1 fun y H2 => r x [y] H2 Q) : tM1 r to te σ H Q := q
theorem x_m0 {r : V → List V → Hp → VK → Prop} (q : to σ H fun x H1 => (∃ a, x = .str a) ∧ r x [] H1 Q) : tM0 r to σ H Q := q
theorem x_isStr {a : Str} {A : Prop} (q : A) : (∃ b, V.str a = .str b) ∧ A := ⟨⟨a, rfl⟩, q⟩
theorem x_join {a : Str} {p : Addr} {ys : List Str} {A : Str → List Str → Prop} (h : SqL K H p (ys.map V.str)) (hz : (ys.map (·.length)).sum + ys.length * a.length ≤ 16777216) (q : A a ys) :
    ∃ a' p', ∃ ys : List Str, V.str a = .str a' ∧ [V.ref p] = [.ref p'] ∧ (SqL K H p' (ys.map V.str) ∨ SqT K H p' (ys.map V.str)) ∧ (ys.map (·.length)).sum + ys.length * a'.length ≤ 16777216 ∧ A a' ys :=
  ⟨a, p, ys, rfl, rfl, .inl h, hz, q⟩
theorem x_lenS {z : Str} {A : Str → Prop} (h : z.length ≤ sizeLine) (q : A z) : ∃ z', [V.str z] = [.str z'] ∧ z'.length ≤ sizeLine ∧ A z' := ⟨z, rfl, h, q⟩
theorem x_strI {i : Int} {A : Int → Prop} (h : i.natAbs.log2 < 1920) (q : A i) : ∃ j, [V.int i] = [.int j] ∧ j.natAbs.log2 < 1920 ∧ A j := ⟨i, rfl, h, q⟩
theorem x_intB {b : Bool} {A : Int → Prop} {B : Bool → Prop} (q : B b) : (∃ i, [V.bl b] = [.int i] ∧ A i) ∨ ∃ k, [V.bl b] = [.bl k] ∧ B k := .inr ⟨b, rfl, q⟩
theorem x_inS {c : Nat} {z : Str} {A : Nat → Str → Prop} (q : A c z) : ∃ (c' : Nat) (z' : Str), V.str ⟨#[c]⟩ = .str ⟨#[c']⟩ ∧ V.str z = .str z' ∧ A c' z' := ⟨c, z, rfl, rfl, q⟩
theorem x_mul {z : Str} {n : Int} (h : MulOk z n) (q : Q (.str (Txt.mul z n)) H) : rStrMul (.str z) (.int n) H Q := ⟨z, n, rfl, rfl, h, q⟩
theorem x_app {l : Addr} {xs : List V} (h : H l = some (.lst xs)) (hz : xs.length < sizeLine) (q : Q .non (upd H l (.lst (xs ++ [y])))) : rAppend (.ref l) [y] H Q := ⟨l, xs, y, rfl, rfl, h, hz, q⟩
theorem x_tyL {l : Addr} {xs : List V} {A : Prop} (h : SqL K H l xs) (q : A) : tyV K "list" (.ref l) H ∧ A := ⟨.inl ⟨rfl, _, h⟩, q⟩
theorem x_ib {b : Bool} {A B : Prop} (hb : b = true) (h : A) : if b = true then A else B := by rw [if_pos hb]; exact h
theorem x_if0 {b : Bool} {A B : Prop} (hb : b = false) (h : B) : if b = true then A else B := by rw [hb]; exact h
theorem x_while {c : TT} {tb : TS} {X : L2.St → Hp → Prop} {rt : VK} {bk ct : L2.St → Hp → Prop} (W : Nat → L2.St → Hp → Prop) (m0 : Nat) (h0 : W m0 σ H)
    (hs : ∀ m σ H, W m σ H → c σ H fun b H1 => if b = true then ∃ N : L2.St → Hp → Prop, (∀ σ' H', N σ' H' → ∃ m', m' < m ∧ W m' σ' H') ∧ tb { nx := N, rt := rt, bk := X, ct := N } σ H1 else X σ H1) : tWhile c tb { nx := X, rt := rt, bk := bk, ct := ct } σ H := ⟨W, ⟨m0, h0⟩, hs⟩
end
end Gs
namespace Gs
open PySem PySem.Spec PyProof.Rows L2
theorem x_chain {σ : L2.St} {H : Hp} {Q : VK} {r r' : R2} {ta tb tc : TE} (q : ta σ H fun x H1 => tb σ H1 fun y H2 => r x y H2 fun z H3 => ∃ k, z = .bl k ∧ if k = true then tc σ H3 fun w' H4 => r' y w' H4 Q else Q (.bl false) H3) : tChain r r' ta tb tc σ H Q := q
end Gs
namespace Gs
open PySem PySem.Spec PyProof.Rows L2
theorem x_ip {H : Hp} {Q : VK} {f : Int → Int → Int} {a b : Int} (q : Q (.int (f a b)) H) : ipI f (.int a) (.int b) H Q := ⟨a, b, rfl, rfl, q⟩
theorem x_ii {a b : Int} {A : Int → Int → Prop} (q : A a b) : ∃ i j, [V.int a, V.int b] = [V.int i, V.int j] ∧ A i j := ⟨a, b, rfl, q⟩
end Gs
namespace Gs
open PySem PySem.Spec PyProof.Rows L2
section
variable {K : PySem.W.Frag} {x qual : Str} {params : Arguments} {body : List Stmt} {scope : Scope} {kws : List (Str × V)} {f : Addr} {fd : FuncData} {ps : List Str}
theorem FunD_kbindsN (F : FunD K x qual params body scope [] kws f fd) (n : Nat) (ks : List Str)
    (h : ∀ (kV doc pm : Value) (an : Option Addr) (cdv ct : Value) (us ws : List Value), us.length = n → ws.length = ks.length → bindArgs (PySem.W.fnOf x qual params body scope .none kV doc pm an cdv ct) ⟨us, ks.zip ws⟩ = pure (ps.zip (us ++ ws))) :
    KBn K fd ps n ks (fun us ws => us ++ ws) (fun vs zs => vs ++ zs) := by
  obtain ⟨oc, od, dV, kV, doc, pm, an, cdv, ct, osl, rfl, lk, hcd, hD, hK⟩ := F.ex
  rcases hD with ⟨_, rfl⟩ | ⟨e, _⟩
  · exact ⟨fun s us ws _ l1 l2 => .of_eq (h kV doc pm an cdv ct us ws l1 l2), fun r1 r2 => r1.append r2⟩
  · exact absurd rfl e
end
theorem x_callN {σ : L2.St} {H : Hp} {Q : VK} {n m : Nat} {sp : Sp} {g : List V → List V → List V} {E : XK} {t tk : TA} (q : t σ H fun vs H1 => tk σ H1 fun zs H2 => vs.length = n ∧ zs.length = m ∧ sp (g vs zs) H2 Q E) : tCallN n m sp g E t tk σ H Q := q
end Gs
namespace Gs
open PySem PySem.Spec PyProof.Rows L2
section
variable {X : Cx} {K : PySem.W.Frag}
theorem ix_listK (h : X.K = K := by rfl) : IxR X (rIxL K) := h ▸ ix_list
theorem ix_tupK (h : X.K = K := by rfl) : IxR X (rIxT K) := h ▸ ix_tup
theorem op_inK (h : X.K = K := by rfl) : OpR X (compareOp .In) (rIn K false) := h ▸ op_in_seq
theorem op_notInK (h : X.K = K := by rfl) : OpR X (compareOp .NotIn) (rIn K true) := h ▸ op_notIn_seq
theorem sl_listK (h : X.K = K := by rfl) : SlR X (rSlL K) := h ▸ sl_list
theorem sl_tupK (h : X.K = K := by rfl) : SlR X (rSlT K) := h ▸ sl_tup
theorem op_neDK (hu : X.A.units + 64 < cLine) (h : X.K = K := by rfl) : OpR X (compareOp .NotEq) (rNeD K) := h ▸ op_neD hu
def rLenK (K : PySem.W.Frag) : List V → Hp → VK → Prop := fun xs H Q => ∃ p ys, xs = [.ref p] ∧ (SqL K H p ys ∨ SqT K H p ys) ∧ Q (.int ys.length) H
theorem call_lenK (h : X.K = K := by rfl) : CallR X (.builtin "len") (rLenK K) := h ▸ call_len_seq
theorem call_isiKK (h : X.K = K := by rfl) : CallR X (.builtin "isinstance") (rIsi K) := h ▸ call_isi
end
theorem x_lenKL {K : PySem.W.Frag} {H : Hp} {Q : VK} {p : Addr} {xs : List V} (h : SqL K H p xs) (q : Q (.int xs.length) H) : rLenK K [.ref p] H Q := ⟨p, xs, rfl, .inl h, q⟩
theorem x_lenKT {K : PySem.W.Frag} {H : Hp} {Q : VK} {p : Addr} {xs : List V} (h : SqT K H p xs) (q : Q (.int xs.length) H) : rLenK K [.ref p] H Q := ⟨p, xs, rfl, .inr h, q⟩
end Gs
namespace Gs
open PySem PySem.Spec PyProof.Rows L2
section
variable {X : Cx} {K : PySem.W.Frag} {H : Hp} {Q : VK}
theorem cr_allK (hc : X.calm = true) (h : X.K = K := by rfl) : CallR X (.builtin "all") (rAll K) := h ▸ cr_all hc
end
end Gs
namespace Gs
open PySem PySem.Spec PyProof.Rows L2
theorem atL {α : Type} {xs : List α} {i : Int} (h0 : 0 ≤ i) (h : i < (xs.length : Int)) : ∃ v, v ∈ xs ∧ atI xs i = some v := by
  have hk : i.toNat < xs.length := by omega
  have e : i = ((i.toNat : Nat) : Int) := by omega
  refine ⟨xs[i.toNat], List.getElem_mem hk, ?_⟩
  exact (congrArg (atI xs) e).trans (atI_nat (List.getElem?_eq_getElem hk))
end Gs
namespace Gs
open PySem PySem.Spec PyProof.Rows L2
/-! ### the pool of a law: its list at p, the script's rest at l; c : at most so many takes so far -/
structure PoolAt (H : Hp) (p l : Addr) (c : Int) : Prop where
  ex : ∃ (a n s : Int) (ns : List Int), H p = some (.lst [.ref l, .int a, .int n, .int s]) ∧ H l = some (.lst (ns.map V.int)) ∧ 0 ≤ a ∧ 0 ≤ n ∧ n ≤ c ∧ 0 ≤ s ∧ s < 2147483647 ∧ ns.length ≤ 1000
/-- all but p and l is as it was -/
def Kx (p l : Addr) (H H' : Hp) : Prop := ∀ b o, H b = some o → b ≠ p → b ≠ l → H' b = some o
theorem Kx.refl {p l : Addr} (H : Hp) : Kx p l H H := fun _ _ h _ _ => h
theorem Kx.trans {p l : Addr} {H H1 H2 : Hp} (a : Kx p l H H1) (b : Kx p l H1 H2) : Kx p l H H2 := fun c o h h1 h2 => b c o (a c o h h1 h2) h1 h2
theorem Kx.of {p l : Addr} {H H1 : Hp} (a : Same H H1) : Kx p l H H1 := fun c o h _ _ => a c o h
theorem Kx.updp {p l : Addr} {H H1 : Hp} {o : HO} (a : Kx p l H H1) : Kx p l H (upd H1 p o) := fun c u h h1 h2 => by
  rw [upd_ne h1]
  exact a c u h h1 h2
theorem Kx.updl {p l : Addr} {H H1 : Hp} {o : HO} (a : Kx p l H H1) : Kx p l H (upd H1 l o) := fun c u h h1 h2 => by
  rw [upd_ne h2]
  exact a c u h h1 h2
theorem Kx.updn {p l q : Addr} {H H1 : Hp} {o : HO} (hq : H1 q = none) (a : Kx p l H H1) : Kx p l H (upd H1 q o) := fun c u h h1 h2 => by
  rw [upd_ne (ne_of_none (a c u h h1 h2) hq)]
  exact a c u h h1 h2
theorem PoolAt.ne {H : Hp} {p l : Addr} {c : Int} (P : PoolAt H p l c) : p ≠ l := by
  obtain ⟨a, n, s, ns, hp, hl, _⟩ := P.ex
  refine ne_of hp hl fun z => ?_
  have z1 := HO.lst.inj z
  cases ns with
  | nil => cases z1
  | cons x r => simp at z1
theorem PoolAt.mono {H : Hp} {p l : Addr} {c d : Int} (P : PoolAt H p l c) (h : c ≤ d) : PoolAt H p l d := by
  obtain ⟨a, n, s, ns, hp, hl, h1, h2, h3, h4⟩ := P.ex
  exact ⟨a, n, s, ns, hp, hl, h1, h2, by omega, h4⟩
theorem PoolAt.same {H H' : Hp} {p l : Addr} {c : Int} (P : PoolAt H p l c) (h : Same H H') : PoolAt H' p l c := by
  obtain ⟨a, n, s, ns, hp, hl, h1⟩ := P.ex
  exact ⟨a, n, s, ns, h _ _ hp, h _ _ hl, h1⟩
theorem PoolAt.upd {H : Hp} {p l q : Addr} {c : Int} {o : HO} (P : PoolAt H p l c) (h : H q = none) : PoolAt (upd H q o) p l c :=
  P.same fun b u e => by
    rw [upd_ne (ne_of_none e h)]
    exact e
theorem PoolAt.hp {H : Hp} {p l : Addr} {c : Int} (P : PoolAt H p l c) : ∃ o, H p = some o := by
  obtain ⟨a, n, s, ns, hp, hl, h1⟩ := P.ex
  exact ⟨_, hp⟩
theorem same_upd {H : Hp} {p : Addr} {o : HO} (h : H p = none) : Same H (upd H p o) := fun b x e => by
  rw [upd_ne (ne_of_none e h)]
  exact e
theorem Kx.tup {p l a : Addr} {c : Int} {H H' : Hp} {xs : List V} (k : Kx p l H H') (P : PoolAt H p l c) (h : H a = some (.tup xs)) : H' a = some (.tup xs) := by
  obtain ⟨a', n, s, ns, hp, hl, h1⟩ := P.ex
  exact k a _ h (ne_of h hp (by intro z; cases z)) (ne_of h hl (by intro z; cases z))
theorem Kx.sqT {K : PySem.W.Frag} {p l a : Addr} {c : Int} {H H' : Hp} {xs : List V} (k : Kx p l H H') (P : PoolAt H p l c) (h : SqT K H a xs) : SqT K H' a xs := by
  obtain ⟨a', n, s, ns, hp, hl, h1⟩ := P.ex
  rcases h with (h | ⟨o, h⟩) | h
  · exact .inl (.inl (k.tup P h))
  · exact .inl (.inr ⟨o, k a _ h (ne_of h hp (by intro z; cases z)) (ne_of h hl (by intro z; cases z))⟩)
  · exact .inr h
theorem cutV_map (ns : List Int) (lo hi : Option Int) : ∃ ms : List Int, cutV (ns.map V.int) lo hi = ms.map V.int ∧ ms.length ≤ ns.length := by
  refine ⟨(ns.drop (HT.sIx ns.length 0 lo)).take (HT.sIx ns.length ns.length hi - HT.sIx ns.length 0 lo), ?_, ?_⟩
  · unfold cutV
    rw [List.length_map, List.map_take, List.map_drop]
  · rw [List.length_take, List.length_drop]
    omega
theorem kxl {p l a : Addr} {c : Int} {G H : Hp} {o : HO} (P : PoolAt G p l c) (na : G a = none) (k : Kx p l (upd G a o) H) : H a = some o := by
  obtain ⟨a', n, s, ns, hp, hl, h1⟩ := P.ex
  exact k a _ upd_same (ne_of_none hp na).symm (ne_of_none hl na).symm
theorem PoolAt.fresh {H : Hp} {p l a : Addr} {c : Int} (P : PoolAt H p l c) (h : H a = none) : a ≠ p ∧ a ≠ l := by
  obtain ⟨a', n, s, ns, hp, hl, h1⟩ := P.ex
  exact ⟨(ne_of_none hp h).symm, (ne_of_none hl h).symm⟩
theorem PoolAt.updo {H : Hp} {p l q : Addr} {c : Int} {o : HO} (P : PoolAt H p l c) (h1 : q ≠ p) (h2 : q ≠ l) : PoolAt (L2.upd H q o) p l c := by
  obtain ⟨a, n, s, ns, hp, hl, h⟩ := P.ex
  exact ⟨a, n, s, ns, by rw [upd_ne h1.symm]; exact hp, by rw [upd_ne h2.symm]; exact hl, h⟩
theorem Kx.updf {p l q : Addr} {H H1 : Hp} {o : HO} (hq : H q = none) (a : Kx p l H H1) : Kx p l H (L2.upd H1 q o) := fun c u h h1 h2 => by
  rw [upd_ne (ne_of_none h hq)]
  exact a c u h h1 h2
theorem Kx.none {p l D : Addr} {H G : Hp} (k : Kx p l H G) (h : G D = Option.none) (h1 : D ≠ p) (h2 : D ≠ l) : H D = Option.none := by
  cases e : H D with
  | none => rfl
  | some o =>
    rw [k D o e h1 h2] at h
    cases h
def spMixed (K : PySem.W.Frag) : Sp := fun vs H Q _ => ∃ (p l : Addr) (c t : Int), vs = [.ref p, .int t] ∧ PoolAt H p l c ∧ c ≤ 1000000000000 ∧ 0 ≤ t ∧ t ≤ 100 ∧ ∀ z : Int, 0 ≤ z → z < 2147483629 → Q (.int z) H
def spTake (K : PySem.W.Frag) : Sp := fun vs H Q _ => ∃ (p l : Addr) (c m : Int), vs = [.ref p, .int m] ∧ PoolAt H p l c ∧ c + 1 ≤ 1000000000000 ∧ 0 < m ∧ m ≤ 10 ^ 80 ∧
  ∀ (z : Int) (H' : Hp), 0 ≤ z → z < m → PoolAt H' p l (c + 1) → Kx p l H H' → Q (.int z) H'
def spPool (K : PySem.W.Frag) : Sp := fun vs H Q _ => ∃ (a : Addr) (ns : List Int) (k : Int), vs = [.ref a, .int k] ∧ SqL K H a (ns.map V.int) ∧ ns.length ≤ 63 ∧ 0 ≤ k ∧ k ≤ 100 ∧
  ∀ (p l : Addr) (H' : Hp), H p = none → H l = none → Same H H' → PoolAt H' p l 0 → Q (.ref p) H'
theorem log_of {i : Int} {a : Nat} (ha : i.natAbs < 2 ^ a) (h0 : 0 < a) : i.natAbs.log2 < a := PySem.Flt.log2_lt_of h0 ha
end Gs
namespace Gs
open PySem PySem.Spec PyProof.Rows L2 TL
/-! ### the pieces of a line, as lists of codes -/
def sD : List Nat := [48, 49, 50, 51, 52, 53, 54, 55, 56, 57]
def sS : List Nat := [97, 98, 99, 100, 101, 102, 103, 104, 105, 106, 107, 108, 109, 110, 111, 112, 113, 114, 115, 116, 117, 118, 119, 120, 121, 122]
def sC : List Nat := [65, 66, 67, 68, 69, 70, 71, 72, 73, 74, 75, 76, 77, 78, 79, 80, 81, 82, 83, 84, 85, 86, 87, 88, 89, 90]
def sM : List Nat := [43, 45, 42, 47, 60, 62, 61, 38, 33, 63, 94, 64, 35, 58, 124, 46, 36]
theorem tl_D : tl ("0123456789" : Str) = sD := by decide +kernel
theorem tl_S : tl ("abcdefghijklmnopqrstuvwxyz" : Str) = sS := by decide +kernel
theorem tl_C : tl ("ABCDEFGHIJKLMNOPQRSTUVWXYZ" : Str) = sC := by decide +kernel
theorem tl_M : tl ("+-*/<>=&!?^@#:|.$" : Str) = sM := by decide +kernel
/-- by what a piece goes on that begins so -/
def cls (c : Nat) : List Nat := if c ∈ sD ∨ c = 126 then sD else if c ∈ sS ∨ c ∈ sC then sS ++ sD else if c ∈ sM then sM else []
def Stop (c : Nat) : List Nat → Prop
  | [] => True
  | h :: _ => h ∉ cls c
inductive Cut : List Nat → List (List Nat) → Prop
  | nil : Cut [] []
  | blank {l : List Nat} {ts : List (List Nat)} : Cut l ts → Cut (32 :: l) ts
  | piece {c : Nat} {t l : List Nat} {ts : List (List Nat)} : c ≠ 32 → (∀ x ∈ t, x ∈ cls c) → Stop c l → Cut l ts → Cut (c :: (t ++ l)) ((c :: t) :: ts)
theorem Cut.blanks {l : List Nat} {ts : List (List Nat)} (h : Cut l ts) : ∀ n : Nat, Cut (List.replicate n 32 ++ l) ts
  | 0 => h
  | n + 1 => by
    rw [List.replicate_succ]
    exact .blank (Cut.blanks h n)
theorem Cut.drop {l : List Nat} {ts : List (List Nat)} (h : Cut l ts) : Cut (l.dropWhile fun x => decide (x ∈ [32])) ts := by
  induction h with
  | nil => exact .nil
  | blank h ih =>
    rw [List.dropWhile_cons_of_pos (by decide)]
    exact ih
  | @piece c t l ts hc ht hs h ih =>
    rw [List.dropWhile_cons_of_neg (by simpa using hc)]
    exact .piece hc ht hs h
theorem run_stop {S t l : List Nat} (ht : ∀ x ∈ t, x ∈ S) (hl : ∀ h r, l = h :: r → h ∉ S) : (t ++ l).takeWhile (fun x => decide (x ∈ S)) = t := by
  induction t with
  | nil =>
    cases l with
    | nil => rfl
    | cons h r =>
      rw [List.nil_append, List.takeWhile_cons_of_neg (by simpa using hl h r rfl)]
  | cons x t ih =>
    rw [List.cons_append, List.takeWhile_cons_of_pos (by simpa using ht x (List.mem_cons_self ..)), ih fun y hy => ht y (List.mem_cons_of_mem _ hy)]
theorem stop_of {c : Nat} {l : List Nat} (h : Stop c l) : ∀ x r, l = x :: r → x ∉ cls c := fun x r e => by
  subst e
  exact h
/-- what the program says of a piece -/
def isPc : List Nat → Bool
  | [] => false
  | c :: t =>
    if c = 126 then decide (1 ≤ t.length ∧ t.length ≤ 60 ∧ t.head? ≠ some 48)
    else if c ∈ sD then decide (t.length + 1 ≤ 60 ∧ (c ≠ 48 ∨ t = []))
    else if c ∈ sS ∨ c ∈ sC then decide (t.length + 1 ≤ 12)
    else if c ∈ sM then decide (t.length + 1 ≤ 3)
    else decide (c ∈ [40, 41, 44])
theorem isPc_cons (c : Nat) (t : List Nat) : isPc (c :: t) = if c = 126 then decide (1 ≤ t.length ∧ t.length ≤ 60 ∧ t.head? ≠ some 48)
    else if c ∈ sD then decide (t.length + 1 ≤ 60 ∧ (c ≠ 48 ∨ t = []))
    else if c ∈ sS ∨ c ∈ sC then decide (t.length + 1 ≤ 12)
    else if c ∈ sM then decide (t.length + 1 ≤ 3)
    else decide (c ∈ [40, 41, 44]) := rfl
structure OkBit (l : List Nat) : Prop where
  ex : ∃ c t, l = c :: t ∧ c ≠ 32 ∧ ∀ x ∈ t, x ∈ cls c
  pc : isPc l = true
  small : ∀ x ∈ l, x < 128
  len : l.length ≤ 61
theorem sD_iff {c : Nat} : c ∈ sD ↔ 48 ≤ c ∧ c ≤ 57 := by
  unfold sD
  simp only [List.mem_cons, List.not_mem_nil, or_false]
  omega
theorem sS_iff {c : Nat} : c ∈ sS ↔ 97 ≤ c ∧ c ≤ 122 := by
  unfold sS
  simp only [List.mem_cons, List.not_mem_nil, or_false]
  omega
theorem sC_iff {c : Nat} : c ∈ sC ↔ 65 ≤ c ∧ c ≤ 90 := by
  unfold sC
  simp only [List.mem_cons, List.not_mem_nil, or_false]
  omega
theorem sM_all {c : Nat} (h : c ∈ sM) : (33 ≤ c ∧ c < 48 ∧ c ≠ 40 ∧ c ≠ 41 ∧ c ≠ 44) ∨ (58 ≤ c ∧ c ≤ 64) ∨ c = 94 ∨ c = 124 := by
  unfold sM at h
  simp only [List.mem_cons, List.not_mem_nil, or_false] at h
  omega
theorem cls_D {c : Nat} (h : c ∈ sD ∨ c = 126) : cls c = sD := if_pos h
theorem cls_W {c : Nat} (h : c ∈ sS ∨ c ∈ sC) : cls c = sS ++ sD := by
  unfold cls
  rw [if_neg, if_pos h]
  rw [sD_iff]
  rw [sS_iff, sC_iff] at h
  omega
theorem cls_M {c : Nat} (h : c ∈ sM) : cls c = sM := by
  have z := sM_all h
  unfold cls
  rw [if_neg (by rw [sD_iff]; omega), if_neg (by rw [sS_iff, sC_iff]; omega), if_pos h]
theorem cls_N {c : Nat} (h1 : c ∉ sD) (h2 : c ≠ 126) (h3 : c ∉ sS) (h4 : c ∉ sC) (h5 : c ∉ sM) : cls c = [] := by
  unfold cls
  rw [if_neg (by simp [h1, h2]), if_neg (by simp [h3, h4]), if_neg h5]
theorem cls_small {c x : Nat} (h : x ∈ cls c) : x < 128 ∧ x ≠ 32 := by
  unfold cls at h
  split at h
  · rw [sD_iff] at h
    omega
  · split at h
    · rw [List.mem_append, sS_iff, sD_iff] at h
      omega
    · split at h
      · have z := sM_all h
        omega
      · cases h
theorem blank_not {c : Nat} : 32 ∉ cls c := fun h => (cls_small h).2 rfl
/-! numbers -/
theorem numL_head : ∀ n : Nat, 0 < n → ∃ c t, numL n = c :: t ∧ c ≠ 48 := by
  intro n
  induction n using Nat.strongRecOn with
  | _ n ih =>
    intro h0
    by_cases h : n < 10
    · exact ⟨48 + n, [], numL_lt h, by omega⟩
    · obtain ⟨c, t, e, hc⟩ := ih (n / 10) (by omega) (by omega)
      exact ⟨c, t ++ [48 + n % 10], by rw [numL_step (by omega), e]; rfl, hc⟩
theorem numL_D (n : Nat) : ∀ x ∈ numL n, x ∈ sD := fun x hx => sD_iff.mpr (numL_digits n x hx)
theorem ok_num {n : Nat} (h : n < 10 ^ 60) : OkBit (numL n) := by
  have hl := numL_len (k := 60) (by decide) h
  obtain ⟨c, t, e⟩ : ∃ c t, numL n = c :: t := by
    cases e : numL n with
    | nil => exact absurd e (numL_ne n)
    | cons c t => exact ⟨c, t, rfl⟩
  have hD := numL_D n
  rw [e] at hD hl ⊢
  have hc := hD c (List.mem_cons_self ..)
  have hc' := sD_iff.mp hc
  refine ⟨⟨c, t, rfl, by omega, fun x hx => ?_⟩, ?_, fun x hx => ?_, by omega⟩
  · rw [cls_D (.inl hc)]
    exact hD x (List.mem_cons_of_mem _ hx)
  · rw [isPc_cons, if_neg (by omega), if_pos hc]
    refine decide_eq_true ⟨hl, ?_⟩
    by_cases h0 : 0 < n
    · obtain ⟨c', t', e', hn⟩ := numL_head n h0
      rw [e] at e'
      cases e'
      exact .inl hn
    · have e0 : n = 0 := by omega
      subst e0
      have z : numL 0 = [48] := numL_lt (by decide)
      rw [e] at z
      cases z
      exact .inr rfl
  · have := sD_iff.mp (hD x hx)
    omega
theorem ok_neg {n : Nat} (h0 : 0 < n) (h : n < 10 ^ 60) : OkBit (126 :: numL n) := by
  have hl := numL_len (k := 60) (by decide) h
  obtain ⟨c, t, e, hc⟩ := numL_head n h0
  have hD := numL_D n
  rw [e] at hD hl ⊢
  refine ⟨⟨126, c :: t, rfl, by decide, fun x hx => ?_⟩, ?_, fun x hx => ?_, by rw [List.length_cons]; omega⟩
  · rw [cls_D (.inr rfl)]
    exact hD x hx
  · rw [isPc_cons, if_pos rfl]
    refine decide_eq_true ⟨by rw [List.length_cons]; omega, hl, ?_⟩
    simpa using hc
  · rcases List.mem_cons.mp hx with e | hx
    · omega
    · have := sD_iff.mp (hD x hx)
      omega
theorem ok_word {c : Nat} {t : List Nat} (hc : c ∈ sS ∨ c ∈ sC) (ht : ∀ x ∈ t, x ∈ sS ++ sD) (hl : t.length + 1 ≤ 12) : OkBit (c :: t) := by
  have h' : (97 ≤ c ∧ c ≤ 122) ∨ (65 ≤ c ∧ c ≤ 90) := by rwa [sS_iff, sC_iff] at hc
  refine ⟨⟨c, t, rfl, by omega, by rw [cls_W hc]; exact ht⟩, ?_, fun x hx => ?_, by rw [List.length_cons]; omega⟩
  · rw [isPc_cons, if_neg (by omega), if_neg (by rw [sD_iff]; omega), if_pos hc]
    exact decide_eq_true hl
  · rcases List.mem_cons.mp hx with e | hx
    · omega
    · have := ht x hx
      rw [List.mem_append, sS_iff, sD_iff] at this
      omega
theorem ok_mark {c : Nat} {t : List Nat} (hc : c ∈ sM) (ht : ∀ x ∈ t, x ∈ sM) (hl : t.length + 1 ≤ 3) : OkBit (c :: t) := by
  have h' := sM_all hc
  refine ⟨⟨c, t, rfl, by omega, by rw [cls_M hc]; exact ht⟩, ?_, fun x hx => ?_, by rw [List.length_cons]; omega⟩
  · rw [isPc_cons, if_neg (by omega), if_neg (by rw [sD_iff]; omega), if_neg (by rw [sS_iff, sC_iff]; omega), if_pos hc]
    exact decide_eq_true hl
  · rcases List.mem_cons.mp hx with e | hx
    · omega
    · have := sM_all (ht x hx)
      omega
theorem ok_sign {c : Nat} (hc : c = 40 ∨ c = 41 ∨ c = 44) : OkBit [c] := by
  refine ⟨⟨c, [], rfl, by omega, fun x hx => by cases hx⟩, ?_, fun x hx => ?_, by simp⟩
  · rcases hc with e | e | e <;> subst e <;> decide
  · rw [List.mem_singleton.mp hx]
    omega
/-! a line laid bit by bit -/
/-- what may follow, so that the last bit stays one -/
structure Laid (L : List Nat) (bits : List (List Nat)) (last : Nat) : Prop where
  go : ∀ R ts, Stop last R → Cut R ts → Cut (L ++ R) (bits ++ ts)
theorem Laid.start (n : Nat) : Laid (List.replicate n 32) [] 40 := ⟨fun R ts _ h => h.blanks n⟩
theorem Laid.add {L : List Nat} {bits : List (List Nat)} {last g : Nat} {c : Nat} {t : List Nat} (h : Laid L bits last) (hb : OkBit (c :: t)) (hg : 0 < g ∨ c ∉ cls last) : Laid (L ++ List.replicate g 32 ++ (c :: t)) (bits ++ [c :: t]) c := by
  obtain ⟨c', t', e, hc, ht⟩ := hb.ex
  cases e
  refine ⟨fun R ts hs hR => ?_⟩
  have h1 : Cut ((c :: t) ++ R) ((c :: t) :: ts) := .piece hc ht hs hR
  have h2 := h1.blanks g
  have h3 := h.go (List.replicate g 32 ++ ((c :: t) ++ R)) ((c :: t) :: ts) ?_ h2
  · rw [List.append_assoc, List.append_assoc, List.append_assoc]
    exact h3
  · cases g with
    | zero =>
      rcases hg with hg | hg
      · omega
      · exact hg
    | succ g => exact blank_not
theorem Laid.done {L : List Nat} {bits : List (List Nat)} {last : Nat} (h : Laid L bits last) (n : Nat) : Cut (L ++ List.replicate n 32) bits := by
  have h2 := h.go (List.replicate n 32) [] ?_ ?_
  · rw [List.append_nil] at h2
    exact h2
  · cases n with
    | zero => exact True.intro
    | succ n => exact blank_not
  · have := Cut.nil.blanks n
    rw [List.append_nil] at this
    exact this
end Gs
namespace Gs
open PySem PySem.Spec PyProof.Rows L2
/-- the statements of a class -/
def clsBody : Stmt → List Stmt
  | .ClassDef _ _ _ b _ _ _ _ _ _ _ => b
  | _ => []
/-! ### own classes of errors: GoalError's kinds -/
section
variable {X : Cx} {e : PySem.Expr} {es : List PySem.Expr} {ta : TA} {p p1 p2 pos pos2 : Pos} {pl : Sem Bool} {B : Addr} {cx : Str}
/-- Base.__init__(self, ..), Base a class of the text that has no __init__ of its own, over ValueError -/
theorem pe_cinit (hg : Gl X cx) (hm : X.mg cx = some (.ref B))
    (sp : PySem.W.specialIn X.K (.ref B) "__getattribute__" = some (some (.builtin "type.__getattribute__")))
    (rd : PySem.W.readsIn X.K B (.type "type") = true)
    (fc : PySem.W.findCls X.K (.ref B) (.type "type") "__init__" = some (.val (.builtin "ValueError.__init__")))
    (ha : PA X (e :: es) ta) (hd : (cx == ("__debug__" : Str)) = false := by decide)
    (h1 : eval (((Expr.Name cx p1).Attribute "__init__" p2).Call (e :: es) [] pos) X.env =
                (eval (Expr.Name cx p1) X.env >>= fun ov => standAt p2.atName >>= fun _ => holding [ov] (getMethod ov "__init__" pl) >>= fun xx =>
                    callWith pos xx.1 xx.2 (backTo pos (starEach (e :: es) X.env)) (backToKw pos (keywordEach [] X.env))) := by rfl)
    (he : starEach (e :: es) X.env = (false, eval e X.env) :: starEach es X.env := by rfl)
    (hpl : ((backTo pos (starEach es X.env)).any fun (x : Bool × Sem Value) => x.fst) = false := by rfl) :
    PE X (((Expr.Name cx p1).Attribute "__init__" p2).Call (e :: es) [] pos) (tVeI X.K ta) := by
  refine ⟨fun pins s σ H Q I h => ?_⟩
  refine PySem.W.methodCall_KW (pl := pl) ?_ h1
  refine ld_glob I hg hm ?_ hd
  obtain ⟨m, F⟩ := I.fr
  have kin : X.K.In s.heap := I.ok.mod.kin.keeps F.keep
  refine PySem.W.method_cls kin sp (PySem.W.cls_value kin rd fc rfl ?_)
  refine callWith_method1 ?_ he hpl
  refine thn (ha.run pos pins _ σ H _ (I.tok _) h) ?_
  rintro us s1 ⟨vs, H1, I1, hv, a, C, ws, rfl, hl, oc, ho, q⟩
  cases hv with
  | cons r hr =>
  obtain rfl := r
  have l : ws.length = _ := hr.length
  exact oinit_ok oc I1 ho (by rw [← l, sizeLine_eq]; omega) fun s' I2 => ⟨.non, _, I2, rfl, q⟩
end
/-- what the text's written part says of the class GoalError, at B -/
structure BaseC (K : PySem.W.Frag) (mg : Str → Option Value) (B : Addr) : Prop where
  mB : mg "GoalError" = some (.ref B)
  sp : PySem.W.specialIn K (.ref B) "__getattribute__" = some (some (.builtin "type.__getattribute__"))
  rd : PySem.W.readsIn K B (.type "type") = true
  fc : PySem.W.findCls K (.ref B) (.type "type") "__init__" = some (.val (.builtin "ValueError.__init__"))
/-- the promise of an __init__ of one whole number -/
def spErr1 (K : PySem.W.Frag) (C : Addr) (fld : Str) : Sp := fun vs H Q _ => ∃ (a : Addr) (n : Nat), vs = [.ref a, .int (n : Int)] ∧ n < 10 ^ 50 ∧ H a = some (exo a C none) ∧
  ∀ dx, H dx = none → dx ≠ a → Q .non (upd (upd H dx (exd dx [(fld, .int (n : Int))])) a (exo a C (some dx)))
/-- the class of errors x, at C, whose __init__ takes one whole number and keeps it as fld -/
structure HasErr (P : Program) (w : World) (K : PySem.W.Frag) (mg : Str → Option Value) (base : Heap) (x fld : Str) (C : Addr) : Prop where
  oex : OexC K C
  mC : mg x = some (.ref C)
  xf : XfC K C
  noF : PySem.W.findIn K (.ref C) fld = some none
  ex : PySem.W.exmOne K (.ref C) (.ref C) = some true
  ini : ∃ (fI : Addr) (fd : FuncData), PySem.W.findIn K (.ref C) "__init__" = some (some (.ref fI)) ∧ PySem.W.typeIn K (.ref fI) = some (.type "function") ∧ FnOk P w K mg base CX0 1 fI fd ["self", fld] (spErr1 K C fld) ∧ Binds K fd ["self", fld] []
section
variable {X : Cx} {e : PySem.Expr} {es : List PySem.Expr} {ta t : TA} {p p1 p2 pos pos2 : Pos} {C : Addr} {x fld : Str} {W : WX} {j : Nat}
/-- raise x(e) -/
theorem ps_raiseE (E : HasErr X.prog X.w X.K X.mg X.base x fld C) (hc : X.calm = true) (tk : Takes X W) (hr : Room j X.A) (ha : PA X [e] ta) (hk : 2 ≤ j := by decide) (hg : Gl X x := by rfl) (hd : (x == ("__debug__" : Str)) = false := by decide)
    (he : starEach (e :: []) X.env = (false, eval e X.env) :: starEach [] X.env := by rfl) (hpl : (backTo pos (starEach [] X.env)).any (·.1) = false := by rfl) :
    PS X (.Raise (some (.Call (.Name x p) [e] [] pos)) none pos2) (fun _ σ H => tMkO C (spErr1 X.K C fld) [] ta σ H fun cls d H' => W cls d σ H') := by
  obtain ⟨fI, fd, i1, i2, F, b⟩ := E.ini
  exact ps_raise hc tk (pmk_oex E.oex i1 i2 F (hr.mono hk) b .nil pass0 hg E.mC ha hd he hpl)
end
section
variable {K : PySem.W.Frag} {C : Addr} {fld : Str} {σ : L2.St} {H : Hp} {ta : TA} {sp : Sp} {dvs : List V}
theorem x_mkO {Q : XK} (q : ta σ H fun vs H1 => vs.length ≤ 1000 ∧ ∀ a, H1 a = none → sp (.ref a :: (vs ++ dvs)) (upd H1 a (exo a C none)) (fun v H2 => v = .non ∧ ∃ (d : Addr) (fs : List (Str × V)), H2 a = some (exo a C (some d)) ∧ H2 d = some (exd d fs) ∧ H1 d = none ∧ Q (.ref C) (some d) (upd (del H2 a) d (.xd fs))) (fun _ _ _ => False)) :
    tMkO C sp dvs ta σ H Q := q
theorem upd_err {H : Hp} {a d : Addr} {o1 o2 o3 o4 : HO} (ha : H a = none) (hne : d ≠ a) : upd (del (upd (upd (upd H a o1) d o2) a o3) a) d o4 = upd H d o4 := by
  funext b
  unfold upd del
  by_cases h1 : b = d
  · simp [h1]
  · by_cases h2 : b = a
    · subst h2
      simp [h1, ha]
    · simp [h1, h2]
/-- the error is made: what is left to show -/
theorem x_mkE {n : Nat} {Q : XK} (hn : n < 10 ^ 50) (q : ∀ d, H d = none → Q (.ref C) (some d) (upd H d (.xd [(fld, .int (n : Int))]))) :
    [V.int (n : Int)].length ≤ 1000 ∧ ∀ a, H a = none → spErr1 K C fld (.ref a :: ([V.int (n : Int)] ++ [])) (upd H a (exo a C none)) (fun v H2 => v = .non ∧ ∃ (d : Addr) (fs : List (Str × V)), H2 a = some (exo a C (some d)) ∧ H2 d = some (exd d fs) ∧ H d = none ∧ Q (.ref C) (some d) (upd (del H2 a) d (.xd fs))) (fun _ _ _ => False) := by
  refine ⟨(by show 1 ≤ 1000; decide), fun a ha => ⟨a, n, rfl, hn, upd_same, fun dx hdx hne => ⟨rfl, dx, [(fld, .int (n : Int))], upd_same, ?_, ?_, ?_⟩⟩⟩
  · rw [upd_ne hne]
    exact upd_same
  · rw [upd_ne hne] at hdx
    exact hdx
  · rw [upd_ne hne] at hdx
    rw [upd_err ha hne]
    exact q dx hdx
/-- for i, x in enumerate(a list) -/
theorem x_enum {R : It → Hp → Prop} (q : ta σ H fun vs H1 => ∃ a xs, vs = [.ref a] ∧ SqL K H1 a xs ∧ R (Ite K a) H1) : iEnum K ta σ H R := q
end
theorem Same.sqT {K : PySem.W.Frag} {H H' : Hp} {a : Addr} {xs : List V} (k : Same H H') (h : SqT K H a xs) : SqT K H' a xs := by
  rcases h with (h | ⟨o, h⟩) | h
  · exact .inl (.inl (k a _ h))
  · exact .inl (.inr ⟨o, k a _ h⟩)
  · exact .inr h
/-! ### trees of numbers, texts and tuples -/
inductive Tv where
  | i : Int → Tv
  | s : Str → Tv
  | t : List Tv → Tv
/-- x is the tree, less than so deep -/
def TvAt (K : PySem.W.Frag) (H : Hp) : Nat → V → Tv → Prop
  | 0, _, _ => False
  | _ + 1, x, .i n => x = .int n
  | _ + 1, x, .s z => x = .str z
  | k + 1, x, .t ts => ∃ (a : Addr) (vs : List V), x = .ref a ∧ SqT K H a vs ∧ vs.length ≤ 1000 ∧ vs.length = ts.length ∧ ∀ (i : Nat) (y : V) (u : Tv), vs[i]? = some y → ts[i]? = some u → TvAt K H k y u
theorem TvAt.same {K : PySem.W.Frag} {H H' : Hp} (h : Same H H') : ∀ {k : Nat} {x : V} {u : Tv}, TvAt K H k x u → TvAt K H' k x u
  | 0, _, _, z => z
  | _ + 1, _, .i _, z => z
  | _ + 1, _, .s _, z => z
  | _ + 1, _, .t _, ⟨a, vs, e, s, z, l, f⟩ => ⟨a, vs, e, Same.sqT h s, z, l, fun i y u h1 h2 => (f i y u h1 h2).same h⟩
theorem TvAt.up {K : PySem.W.Frag} {H : Hp} : ∀ {k : Nat} {x : V} {u : Tv}, TvAt K H k x u → TvAt K H (k + 1) x u
  | _ + 1, _, .i _, z => z
  | _ + 1, _, .s _, z => z
  | _ + 1, _, .t _, ⟨a, vs, e, s, z, l, f⟩ => ⟨a, vs, e, s, z, l, fun i y u h1 h2 => (f i y u h1 h2).up⟩
theorem TvAt.kx {K : PySem.W.Frag} {p l : Addr} {c : Int} {H H' : Hp} (h : Kx p l H H') (P : PoolAt H p l c) : ∀ {k : Nat} {x : V} {u : Tv}, TvAt K H k x u → TvAt K H' k x u
  | 0, _, _, z => z
  | _ + 1, _, .i _, z => z
  | _ + 1, _, .s _, z => z
  | _ + 1, _, .t _, ⟨a, vs, e, s, z, l, f⟩ => ⟨a, vs, e, h.sqT P s, z, l, fun i y u h1 h2 => (f i y u h1 h2).kx h P⟩
/-- the type of what a tree is -/
theorem ty_tup {K : PySem.W.Frag} {H : Hp} {a : Addr} {vs : List V} (h : SqT K H a vs) : TyX K H (.ref a) (.type "tuple") := by
  rcases h with (h | ⟨o, h⟩) | ⟨o, its, n, h, h1, _⟩
  · exact .base (.tup h)
  · exact .fTuple h
  · exact .kTuple h h1
end Gs
namespace Gs
open PySem PySem.Spec PyProof.Rows L2
/-- a def of the text that may raise -/
structure HasE (P : Program) (w : World) (K : PySem.W.Frag) (mg : Str → Option Value) (base : Heap) (k : Nat) (x : Str) (ps : List Str) (sp : Sp) : Prop where
  ex : ∃ (f : Addr) (fd : FuncData), FnOk P w K mg base (L2.CX P w) k f fd ps sp ∧ Binds K fd ps [] ∧ PySem.W.keepIn K (.ref f) = true ∧ mg x = some (.ref f)
section
variable {X : Cx} {x : Str} {p pos : Pos} {e : PySem.Expr} {es : List PySem.Expr} {t : TA}
theorem pe_callE {k j : Nat} {ps : List Str} {sp : Sp} {W : WX} (C : HasE X.prog X.w X.K X.mg X.base k x ps sp) (hr : Room j X.A) (tk : Takes X W) (ha : PA X (e :: es) t) (hk : k ≤ j := by decide) (hg : Gl X x := by rfl) (hdb : (x == ("__debug__" : Str)) = false := by decide)
    (he : starEach (e :: es) X.env = (false, eval e X.env) :: starEach es X.env := by rfl) (hpl : (backTo pos (starEach es X.env)).any (·.1) = false := by rfl) :
    PE X (.Call (.Name x p) (e :: es) [] pos) (tCallS sp (WE W) t) := by
  obtain ⟨f, fd, F, b, kp, m⟩ := C.ex
  exact pe_callS F (hr.mono hk) hg m kp b (fun σ => passAt tk σ) ha hdb he hpl
end
theorem x_callS {σ : L2.St} {H : Hp} {Q : VK} {sp : Sp} {E : L2.St → XK} {t : TA} (q : t σ H fun vs H1 => sp vs H1 Q (E σ)) : tCallS sp E t σ H Q := q
/-! ### operators: rows of a level, a side, a name -/
structure Op where
  l : Int
  s : Str
  n : Str
@[reducible] def rowV (o : Op) : List V := [.int o.l, .str o.s, .str o.n]
def RowsAt (K : PySem.W.Frag) (H : Hp) (vs : List V) (ops : List Op) : Prop := vs.length = ops.length ∧ ∀ (i : Nat) (v : V) (o : Op), vs[i]? = some v → ops[i]? = some o → ∃ a, v = .ref a ∧ SqT K H a (rowV o)
theorem RowsAt.nil {K : PySem.W.Frag} {H : Hp} : RowsAt K H [] [] := ⟨rfl, fun i v o h => by cases h⟩
theorem RowsAt.cons {K : PySem.W.Frag} {H : Hp} {a : Addr} {o : Op} {vs : List V} {ops : List Op} (h : SqT K H a (rowV o)) (r : RowsAt K H vs ops) : RowsAt K H (.ref a :: vs) (o :: ops) := by
  refine ⟨by rw [List.length_cons, List.length_cons, r.1], fun i v u h1 h2 => ?_⟩
  cases i with
  | zero =>
    cases h1
    cases h2
    exact ⟨a, rfl, h⟩
  | succ i => exact r.2 i v u h1 h2
theorem RowsAt.append {K : PySem.W.Frag} {H : Hp} {vs ws : List V} {ops ops' : List Op} (r : RowsAt K H vs ops) (r' : RowsAt K H ws ops') : RowsAt K H (vs ++ ws) (ops ++ ops') := by
  refine ⟨by rw [List.length_append, List.length_append, r.1, r'.1], fun i v u h1 h2 => ?_⟩
  by_cases c : i < vs.length
  · rw [List.getElem?_append_left c] at h1
    rw [List.getElem?_append_left (by rw [← r.1]; exact c)] at h2
    exact r.2 i v u h1 h2
  · rw [List.getElem?_append_right (by omega)] at h1
    rw [List.getElem?_append_right (by rw [← r.1]; omega), ← r.1] at h2
    exact r'.2 _ v u h1 h2
theorem RowsAt.mono {K : PySem.W.Frag} {H H' : Hp} {vs : List V} {ops : List Op} (r : RowsAt K H vs ops) (k : ∀ a xs, SqT K H a xs → SqT K H' a xs) : RowsAt K H' vs ops := by
  refine ⟨r.1, fun i v o h1 h2 => ?_⟩
  obtain ⟨a, e, h⟩ := r.2 i v o h1 h2
  exact ⟨a, e, k a _ h⟩
theorem RowsAt.same {K : PySem.W.Frag} {H H' : Hp} {vs : List V} {ops : List Op} (r : RowsAt K H vs ops) (k : Same H H') : RowsAt K H' vs ops := r.mono fun _ _ h => Same.sqT k h
theorem RowsAt.kx {K : PySem.W.Frag} {p l : Addr} {c : Int} {H H' : Hp} {vs : List V} {ops : List Op} (r : RowsAt K H vs ops) (k : Kx p l H H') (P : PoolAt H p l c) : RowsAt K H' vs ops := r.mono fun _ _ h => k.sqT P h
theorem RowsAt.at {K : PySem.W.Frag} {H : Hp} {vs : List V} {ops : List Op} (r : RowsAt K H vs ops) {i : Nat} {v : V} (h : vs[i]? = some v) : ∃ a o, v = .ref a ∧ ops[i]? = some o ∧ SqT K H a (rowV o) := by
  have hi : i < vs.length := by
    rw [List.getElem?_eq_some_iff] at h
    exact h.1
  have h2 : ops[i]? = some (ops[i]'(by rw [← r.1]; exact hi)) := List.getElem?_eq_getElem _
  obtain ⟨a, e, s⟩ := r.2 i v _ h h2
  exact ⟨a, _, e, h2, s⟩
theorem RowsAt.take {K : PySem.W.Frag} {H : Hp} {vs : List V} {ops : List Op} (r : RowsAt K H vs ops) (k : Nat) : RowsAt K H (vs.take k) (ops.take k) := by
  refine ⟨by rw [List.length_take, List.length_take, r.1], fun i v o h1 h2 => ?_⟩
  by_cases c : i < k
  · rw [List.getElem?_take_of_lt c] at h1 h2
    exact r.2 i v o h1 h2
  · rw [List.getElem?_take_eq_none (by omega)] at h1
    cases h1
def keptL : List Str := ["op", "mode", "table", "not", "is", "in", "such", "and", "=", "<", "=<", "==", "=/=", "..", "<-"]
def ownL : List Op := [⟨9, "none", "such"⟩, ⟨8, "right", "and"⟩, ⟨7, "none", "in"⟩, ⟨7, "ahead", "not"⟩, ⟨6, "none", "="⟩, ⟨6, "none", "is"⟩, ⟨6, "none", "<"⟩, ⟨6, "none", "=<"⟩, ⟨6, "none", "=="⟩, ⟨6, "none", "=/="⟩, ⟨6, "none", ".."⟩, ⟨4, "left", "+"⟩, ⟨4, "left", "-"⟩, ⟨3, "left", "*"⟩, ⟨3, "left", "//"⟩, ⟨3, "left", "mod"⟩]
theorem inV_strs {z : Str} {zs : List Str} : inV (.str z) (zs.map V.str) = decide (z ∈ zs) := by
  unfold inV
  rw [List.any_map]
  by_cases h : z ∈ zs
  · rw [decide_eq_true h, List.any_eq_true]
    refine ⟨z, h, ?_⟩
    show eqV (.str z) (.str z) = true
    simp [eqV]
  · rw [decide_eq_false h, List.any_eq_false]
    intro y hy e
    have e' : eqV (.str y) (.str z) = true := e
    simp [eqV] at e'
    exact h (e' ▸ hy)
end Gs
namespace Gs
open PySem PySem.Spec PyProof.Rows L2
section
variable {K : PySem.W.Frag} {σ : L2.St} {H : Hp} {Q : VK} {l b a : Addr} {xs zs : List V} {v : V} {r : List V} {t : TG} {u : TGs} {n : Nat} {k : L2.St → Hp → Prop}
theorem x_cat (hl : H l = some (.lst xs)) (hb : H b = some (.lst zs)) (hz : xs.length + zs.length ≤ sizeLine) (q : ∀ p, H p = none → Q (.ref p) (upd H p (.lst (xs ++ zs)))) : rCat (.ref l) (.ref b) H Q := ⟨l, b, xs, zs, rfl, rfl, hl, hb, hz, q⟩
theorem x_gtup (h : SqT K H a xs) (hn : xs.length = n) (q : u xs σ H k) : gTup K n u (.ref a) σ H k := ⟨a, xs, rfl, h, hn, q⟩
theorem x_gcons (q : t v σ H fun σ' H' => u r σ' H' k) : gCons t u (v :: r) σ H k := ⟨v, r, rfl, q⟩
theorem x_gnil (q : k σ H) : gNil [] σ H k := ⟨rfl, q⟩
theorem x_isT {x : V} {t : Value} {n : String} {c : Bool} (ty : TyX K H x t) (e : PySem.W.kitOne K t (.type n) = some c) (q : Q (.bl c) H) : rIsi K [x, .ty n] H Q :=
  ⟨x, .ty n, t, .type n, c, rfl, .ty n, ty, e, q⟩
end
end Gs
namespace Gs
open PySem PySem.Spec PyProof.Rows L2
theorem take_more {α : Type} : ∀ {l : List α} {i : Nat} {x : α}, l[i]? = some x → l.take (i + 1) = l.take i ++ [x]
  | [], i, x, h => by simp at h
  | a :: l, 0, x, h => by
    have e : a = x := Option.some.inj h
    subst e
    rfl
  | a :: l, i + 1, x, h => by
    have ih := take_more (l := l) (i := i) (x := x) h
    rw [List.take_succ_cons, List.take_succ_cons, ih]
    rfl
theorem sqT_lst {K : PySem.W.Frag} {G : Hp} {D a : Addr} {ys xs : List V} {o : HO} (h : G D = some (.lst ys)) (s : SqT K G a xs) : SqT K (upd G D o) a xs := by
  rcases s with (s | ⟨u, s⟩) | s
  · refine .inl (.inl ?_)
    rw [upd_ne (ne_of s h (by intro z; cases z))]
    exact s
  · refine .inl (.inr ⟨u, ?_⟩)
    rw [upd_ne (ne_of s h (by intro z; cases z))]
    exact s
  · exact .inr s
theorem RowsAt.lst {K : PySem.W.Frag} {G : Hp} {D : Addr} {ys vs : List V} {o : HO} {ops : List Op} (r : RowsAt K G vs ops) (h : G D = some (.lst ys)) : RowsAt K (upd G D o) vs ops := r.mono fun _ _ s => sqT_lst h s
theorem same_updf {H G : Hp} {D : Addr} {o : HO} (s : Same H G) (h : H D = none) : Same H (upd G D o) := fun b u e => by
  rw [upd_ne (ne_of_none e h)]
  exact s b u e
end Gs
namespace Gs
open PySem PySem.Spec PyProof.Rows L2
theorem same_updg {H G : Hp} {D : Addr} {o : HO} (s : Same H G) (h : G D = none) : Same H (upd G D o) := same_updf s (s.free h)
theorem same_refl (H : Hp) : Same H H := fun _ _ h => h
end Gs
namespace Gs
open PySem PySem.Spec PyProof.Rows L2
theorem ne_of_nn {H : Hp} {a b : Addr} (h2 : H b = none) (h1 : H a ≠ none) : a ≠ b := fun z => h1 (z ▸ h2)
theorem nn_same {H : Hp} {a : Addr} {o : HO} : upd H a o a ≠ none := by
  rw [upd_same]
  intro z
  cases z
theorem nn_of {H : Hp} {a : Addr} {o : HO} (h : H a = some o) : H a ≠ none := by
  rw [h]
  intro z
  cases z
theorem nn_upd {H : Hp} {a b : Addr} {o : HO} (h : H a ≠ none) : upd H b o a ≠ none := by
  by_cases c : a = b
  · rw [c]
    exact nn_same
  · rw [upd_ne c]
    exact h
end Gs
namespace Gs
open PySem PySem.Spec PyProof.Rows L2 TL
section
variable {K : PySem.W.Frag} {σ : L2.St} {H : Hp} {Q : VK} {ta : TA} {te to : TE} {t : TE} {ts : List TE} {acc : Str} {QS : Str → Hp → Prop} {D : Ends} {f : Str}
theorem x_veI (q : ta σ H fun vs H1 => ∃ (a C : Addr) (ws : List V), vs = .ref a :: ws ∧ ws.length ≤ 1000 ∧ OexC K C ∧ H1 a = some (exo a C none) ∧ Q .non H1) : tVeI K ta σ H Q := q
theorem x_jcons (q : t σ H fun x H1 => ∃ y : Str, x = .str y ∧ (acc ++ y).length ≤ sizeLine ∧ tJs ts (acc ++ y) σ H1 QS) : tJs (t :: ts) acc σ H QS := q
theorem x_jnil (q : QS acc H) : tJs [] acc σ H QS := q
theorem x_fmt (q : te σ H fun x H1 => (∃ y : Str, x = .str y ∧ y.length ≤ sizeLine ∧ Q (.str y) H1) ∨ ∃ i : Int, x = .int i ∧ i.natAbs.log2 < 1920 ∧ Q (.str (toString i)) H1) : tFmt te σ H Q := q
theorem x_ost (q : te σ H fun y H1 => to σ H1 fun x H2 => ∃ a C : Addr, x = .ref a ∧ OexC K C ∧ PySem.W.findIn K (.ref C) f = some none ∧ ((H2 a = some (exo a C none) ∧ ∀ dx, H2 dx = none → dx ≠ a → D.nx σ (upd (upd H2 dx (exd dx [(f, y)])) a (exo a C (some dx)))) ∨ ∃ (dx : Addr) (fs : List (Str × V)), H2 a = some (exo a C (some dx)) ∧ H2 dx = some (exd dx fs) ∧ fs.length ≤ 900 ∧ D.nx σ (upd H2 dx (exd dx ((f, y) :: fs))))) : tOst K f to te D σ H := q
theorem natStr_len {n : Nat} (h : n < 10 ^ 60) : (Str.ofString (toString ((n : Nat) : Int))).length ≤ 60 := by
  show (Str.ofString (toString ((n : Nat) : Int))).cps.size ≤ 60
  rw [← Array.length_toList]
  show (TL.tl (Str.ofString (toString ((n : Nat) : Int)))).length ≤ 60
  rw [TL.tl_num]
  exact numL_len (k := 60) (by decide) h
theorem str_append_len (a b : Str) : (a ++ b).length = a.length + b.length := by
  show (a ++ b).cps.size = a.cps.size + b.cps.size
  rw [← Array.length_toList, ← Array.length_toList, ← Array.length_toList, ← List.length_append]
  exact congrArg List.length (TL.tl_append a b)
end
end Gs
namespace Gs
open PySem PySem.Spec PyProof.Rows L2
/-- a class of errors is caught by its own name -/
theorem exm_own {K : PySem.W.Frag} {S : Addr} (h1 : PySem.W.subIn K (.ref S) (.type "BaseException") = some true) (h2 : PySem.W.isClsIn K S = true) (h3 : PySem.W.typeIn K (.ref S) = some (.type "type")) (h4 : PySem.W.subIn K (.ref S) (.ref S) = some true) : PySem.W.exmOne K (.ref S) (.ref S) = some true := by
  have h2' : (PySem.W.clsIn K S).isSome = true := h2
  unfold PySem.W.exmOne
  simp only [h1, BEq.rfl, if_true]
  unfold PySem.W.kitCls
  simp only [h3, h4, h2', BEq.rfl, Bool.and_self, if_true]
end Gs
namespace Gs
open PySem PySem.Spec PyProof.Rows L2
theorem sqT_new {K : PySem.W.Frag} {H : Hp} {p q : Addr} {xs : List V} {o : HO} (hq : H q = none) (h : SqT K H p xs) : SqT K (upd H q o) p xs := Same.sqT (fun b u e => by rw [upd_ne (ne_of_none e hq)]; exact e) h
theorem sqL_new {K : PySem.W.Frag} {H : Hp} {p q : Addr} {xs : List V} {o : HO} (hq : H q = none) (h : SqL K H p xs) : SqL K (upd H q o) p xs := Same.seq (fun b u e => by rw [upd_ne (ne_of_none e hq)]; exact e) h
end Gs
namespace Gs
open PySem PySem.Spec PyProof.Rows L2 TL
/-! ### patterns: numbers, texts, tuples of a name and parts -/
inductive Pt where
  | i : Int → Pt
  | s : Str → Pt
  | t : Str → List Pt → Pt
mutual
def szT : Pt → Nat
  | .i _ => 1
  | .s _ => 1
  | .t _ ps => 1 + szL ps
def szL : List Pt → Nat
  | [] => 0
  | x :: r => szT x + szL r
end
mutual
def dpT : Pt → Nat
  | .i _ => 1
  | .s _ => 1
  | .t _ ps => 1 + dpL ps
def dpL : List Pt → Nat
  | [] => 0
  | x :: r => max (dpT x) (dpL r)
end
mutual
/-- the pieces that it is of, each as it should be; T: what holds of each text, N: of each name -/
def okT (T N : Str → Prop) : Pt → Prop
  | .i n => n.natAbs < 10 ^ 60
  | .s z => T z
  | .t nm ps => N nm ∧ 0 < ps.length ∧ ps.length ≤ 4 ∧ okL T N ps
def okL (T N : Str → Prop) : List Pt → Prop
  | [] => True
  | x :: r => okT T N x ∧ okL T N r
end
theorem szT_pos (p : Pt) : 0 < szT p := by
  cases p with
  | i n => simp [szT]
  | s z => simp [szT]
  | t nm ps => simp only [szT]; omega
theorem dpT_pos (p : Pt) : 0 < dpT p := by
  cases p with
  | i n => simp [dpT]
  | s z => simp [dpT]
  | t nm ps => simp only [dpT]; omega
theorem szL_append : ∀ (a b : List Pt), szL (a ++ b) = szL a + szL b
  | [], b => by simp [szL]
  | x :: r, b => by
    rw [List.cons_append, szL, szL, szL_append r b]
    omega
theorem dpL_append : ∀ (a b : List Pt), dpL (a ++ b) = max (dpL a) (dpL b)
  | [], b => by simp [dpL]
  | x :: r, b => by
    rw [List.cons_append, dpL, dpL, dpL_append r b]
    omega
theorem okL_mem {T N : Str → Prop} : ∀ {ps : List Pt}, okL T N ps ↔ ∀ p ∈ ps, okT T N p
  | [] => by simp [okL]
  | x :: r => by
    rw [okL, okL_mem (ps := r)]
    simp
theorem dpL_mem : ∀ {ps : List Pt} {p : Pt}, p ∈ ps → dpT p ≤ dpL ps
  | [], _, h => by cases h
  | x :: r, p, h => by
    rw [dpL]
    rcases List.mem_cons.mp h with rfl | h
    · omega
    · have := dpL_mem h
      omega
theorem dpL_le : ∀ {ps : List Pt} {k : Nat}, (∀ p ∈ ps, dpT p ≤ k) → dpL ps ≤ k
  | [], k, _ => by simp [dpL]
  | x :: r, k, h => by
    rw [dpL]
    have h1 := h x (List.mem_cons_self ..)
    have h2 := dpL_le (ps := r) (k := k) fun p hp => h p (List.mem_cons_of_mem _ hp)
    omega
theorem szL_len : ∀ (ps : List Pt), ps.length ≤ szL ps
  | [] => by simp [szL]
  | x :: r => by
    rw [szL, List.length_cons]
    have := szT_pos x
    have := szL_len r
    omega
/-- x is the pattern, of a depth below so many -/
def PtAt (K : PySem.W.Frag) (H : Hp) : Nat → V → Pt → Prop
  | 0, _, _ => False
  | _ + 1, x, .i n => x = .int n
  | _ + 1, x, .s z => x = .str z
  | k + 1, x, .t nm ps => ∃ (a : Addr) (vs : List V), x = .ref a ∧ SqT K H a (.str nm :: vs) ∧ vs.length = ps.length ∧ ∀ (i : Nat) (y : V) (u : Pt), vs[i]? = some y → ps[i]? = some u → PtAt K H k y u
theorem PtAt.mono {K : PySem.W.Frag} {H H' : Hp} (h : ∀ a xs, SqT K H a xs → SqT K H' a xs) : ∀ {k : Nat} {x : V} {u : Pt}, PtAt K H k x u → PtAt K H' k x u
  | 0, _, _, z => z.elim
  | _ + 1, _, .i _, z => z
  | _ + 1, _, .s _, z => z
  | _ + 1, _, .t _ _, ⟨a, vs, e, s, l, f⟩ => ⟨a, vs, e, h _ _ s, l, fun i y u h1 h2 => (f i y u h1 h2).mono h⟩
theorem PtAt.same {K : PySem.W.Frag} {H H' : Hp} {k : Nat} {x : V} {u : Pt} (p : PtAt K H k x u) (h : Same H H') : PtAt K H' k x u := p.mono fun _ _ s => Same.sqT h s
theorem PtAt.kx {K : PySem.W.Frag} {p l : Addr} {c : Int} {H H' : Hp} {k : Nat} {x : V} {u : Pt} (q : PtAt K H k x u) (h : Kx p l H H') (P : PoolAt H p l c) : PtAt K H' k x u := q.mono fun _ _ s => h.sqT P s
theorem PtAt.lst {K : PySem.W.Frag} {G : Hp} {D : Addr} {ys : List V} {o : HO} {k : Nat} {x : V} {u : Pt} (q : PtAt K G k x u) (h : G D = some (.lst ys)) : PtAt K (upd G D o) k x u := q.mono fun _ _ s => sqT_lst h s
/-- to each depth that is enough -/
theorem PtAt.of_depth {K : PySem.W.Frag} {H : Hp} : ∀ {k j : Nat} {x : V} {u : Pt}, PtAt K H k x u → dpT u ≤ j → PtAt K H j x u
  | 0, _, _, _, z, _ => z.elim
  | _ + 1, 0, _, u, _, h => by
    have := dpT_pos u
    omega
  | _ + 1, _ + 1, _, .i _, z, _ => z
  | _ + 1, _ + 1, _, .s _, z, _ => z
  | k + 1, j + 1, _, .t _ ps, ⟨a, vs, e, s, l, f⟩, h => ⟨a, vs, e, s, l, fun i y u h1 h2 => (f i y u h1 h2).of_depth (by
      have := dpL_mem (List.mem_of_getElem? h2)
      rw [dpT] at h
      omega)⟩
/-- a list of patterns -/
def PtsAt (K : PySem.W.Frag) (H : Hp) (k : Nat) (vs : List V) (ps : List Pt) : Prop := vs.length = ps.length ∧ ∀ (i : Nat) (y : V) (u : Pt), vs[i]? = some y → ps[i]? = some u → PtAt K H k y u
theorem PtsAt.nil {K : PySem.W.Frag} {H : Hp} {k : Nat} : PtsAt K H k [] [] := ⟨rfl, fun i y u h => by cases h⟩
theorem PtsAt.append {K : PySem.W.Frag} {H : Hp} {k : Nat} {vs ws : List V} {ps qs : List Pt} (r : PtsAt K H k vs ps) (r' : PtsAt K H k ws qs) : PtsAt K H k (vs ++ ws) (ps ++ qs) := by
  refine ⟨by rw [List.length_append, List.length_append, r.1, r'.1], fun i v u h1 h2 => ?_⟩
  by_cases c : i < vs.length
  · rw [List.getElem?_append_left c] at h1
    rw [List.getElem?_append_left (by rw [← r.1]; exact c)] at h2
    exact r.2 i v u h1 h2
  · rw [List.getElem?_append_right (by omega)] at h1
    rw [List.getElem?_append_right (by rw [← r.1]; omega), ← r.1] at h2
    exact r'.2 _ v u h1 h2
theorem PtsAt.one {K : PySem.W.Frag} {H : Hp} {k : Nat} {v : V} {p : Pt} (h : PtAt K H k v p) : PtsAt K H k [v] [p] := by
  refine ⟨rfl, fun i y u h1 h2 => ?_⟩
  cases i with
  | zero =>
    cases h1
    cases h2
    exact h
  | succ i => cases h1
theorem PtsAt.mono {K : PySem.W.Frag} {H H' : Hp} {k : Nat} {vs : List V} {ps : List Pt} (r : PtsAt K H k vs ps) (h : ∀ a xs, SqT K H a xs → SqT K H' a xs) : PtsAt K H' k vs ps := ⟨r.1, fun i y u h1 h2 => (r.2 i y u h1 h2).mono h⟩
theorem PtsAt.same {K : PySem.W.Frag} {H H' : Hp} {k : Nat} {vs : List V} {ps : List Pt} (r : PtsAt K H k vs ps) (h : Same H H') : PtsAt K H' k vs ps := r.mono fun _ _ s => Same.sqT h s
theorem PtsAt.kx {K : PySem.W.Frag} {p l : Addr} {c : Int} {H H' : Hp} {k : Nat} {vs : List V} {ps : List Pt} (r : PtsAt K H k vs ps) (h : Kx p l H H') (P : PoolAt H p l c) : PtsAt K H' k vs ps := r.mono fun _ _ s => h.sqT P s
theorem PtsAt.lst {K : PySem.W.Frag} {G : Hp} {D : Addr} {ys vs : List V} {o : HO} {k : Nat} {ps : List Pt} (r : PtsAt K G k vs ps) (h : G D = some (.lst ys)) : PtsAt K (upd G D o) k vs ps := r.mono fun _ _ s => sqT_lst h s
theorem PtsAt.at {K : PySem.W.Frag} {H : Hp} {k : Nat} {vs : List V} {ps : List Pt} (r : PtsAt K H k vs ps) {i : Nat} {v : V} (h : vs[i]? = some v) : ∃ u, ps[i]? = some u ∧ PtAt K H k v u := by
  have hi : i < vs.length := (List.getElem?_eq_some_iff.mp h).1
  have h2 : ps[i]? = some (ps[i]'(by rw [← r.1]; exact hi)) := List.getElem?_eq_getElem _
  exact ⟨_, h2, r.2 i v _ h h2⟩
theorem PtsAt.take {K : PySem.W.Frag} {H : Hp} {k : Nat} {vs : List V} {ps : List Pt} (r : PtsAt K H k vs ps) (n : Nat) : PtsAt K H k (vs.take n) (ps.take n) := by
  refine ⟨by rw [List.length_take, List.length_take, r.1], fun i v o h1 h2 => ?_⟩
  by_cases c : i < n
  · rw [List.getElem?_take_of_lt c] at h1 h2
    exact r.2 i v o h1 h2
  · rw [List.getElem?_take_eq_none (by omega)] at h1
    cases h1
theorem PtsAt.drop {K : PySem.W.Frag} {H : Hp} {k : Nat} {vs : List V} {ps : List Pt} (r : PtsAt K H k vs ps) (n : Nat) : PtsAt K H k (vs.drop n) (ps.drop n) := by
  refine ⟨by rw [List.length_drop, List.length_drop, r.1], fun i v o h1 h2 => ?_⟩
  rw [List.getElem?_drop] at h1 h2
  exact r.2 _ v o h1 h2
theorem PtAt.tup {K : PySem.W.Frag} {H : Hp} {k : Nat} {a : Addr} {nm : Str} {vs : List V} {ps : List Pt} (s : SqT K H a (.str nm :: vs)) (r : PtsAt K H k vs ps) : PtAt K H (k + 1) (.ref a) (.t nm ps) := ⟨a, vs, rfl, s, r.1, r.2⟩
end Gs
namespace Gs
open PySem PySem.Spec PyProof.Rows L2 TL
theorem PtAt.dp {K : PySem.W.Frag} {H : Hp} : ∀ {k : Nat} {x : V} {u : Pt}, PtAt K H k x u → dpT u ≤ k
  | 0, _, _, z => z.elim
  | k + 1, _, .i _, _ => by simp [dpT]
  | k + 1, _, .s _, _ => by simp [dpT]
  | k + 1, _, .t _ ps, ⟨a, vs, e, s, l, f⟩ => by
    rw [dpT]
    have : dpL ps ≤ k := dpL_le fun p hp => by
      obtain ⟨i, hi⟩ := List.mem_iff_getElem?.mp hp
      have hi' : i < ps.length := (List.getElem?_eq_some_iff.mp hi).1
      exact (f i (vs[i]'(by omega)) p (List.getElem?_eq_getElem _) hi).dp
    omega
theorem PtAt.up {K : PySem.W.Frag} {H : Hp} {k j : Nat} {x : V} {u : Pt} (h : PtAt K H k x u) (hk : k ≤ j) : PtAt K H j x u := h.of_depth (Nat.le_trans h.dp hk)
theorem PtsAt.up {K : PySem.W.Frag} {H : Hp} {k j : Nat} {vs : List V} {ps : List Pt} (h : PtsAt K H k vs ps) (hk : k ≤ j) : PtsAt K H j vs ps := ⟨h.1, fun i y u h1 h2 => (h.2 i y u h1 h2).up hk⟩
theorem last_szL {ps : List Pt} {u : Pt} (h : ps[ps.length - 1]? = some u) : szL ps = szL ps.dropLast + szT u := by
  rw [← List.getLast?_eq_getElem?] at h
  obtain ⟨ys, rfl⟩ := List.getLast?_eq_some_iff.mp h
  rw [List.dropLast_concat, szL_append]
  simp [szL]
theorem PtsAt.dropLast {K : PySem.W.Frag} {H : Hp} {k : Nat} {vs : List V} {ps : List Pt} (r : PtsAt K H k vs ps) : PtsAt K H k vs.dropLast ps.dropLast := by
  rw [List.dropLast_eq_take, List.dropLast_eq_take, r.1]
  exact r.take _
end Gs
namespace Gs
open PySem PySem.Spec PyProof.Rows L2 TL
/-- what a pattern is, one of three -/
theorem PtAt.three {K : PySem.W.Frag} {H : Hp} {k : Nat} {x : V} {u : Pt} (h : PtAt K H k x u) : (∃ n, x = .int n ∧ u = .i n) ∨ (∃ z, x = .str z ∧ u = .s z) ∨ ∃ (j : Nat) (nm : Str) (ps : List Pt) (a : Addr) (vs : List V), k = j + 1 ∧ x = .ref a ∧ u = .t nm ps ∧ SqT K H a (.str nm :: vs) ∧ PtsAt K H j vs ps := by
  match k, u, h with
  | 0, _, h => exact h.elim
  | _ + 1, .i n, h => exact .inl ⟨n, h, rfl⟩
  | _ + 1, .s z, h => exact .inr (.inl ⟨z, h, rfl⟩)
  | j + 1, .t nm ps, ⟨a, vs, e, s, l, f⟩ => exact .inr (.inr ⟨j, nm, ps, a, vs, rfl, e, rfl, s, l, f⟩)
end Gs
namespace Gs
open PySem PySem.Spec PyProof.Rows L2 TL
/-- an unknown: its first sign is a capital -/
def unkS (z : Str) : Bool := match tl z with
  | c :: _ => decide (c ∈ sC)
  | [] => false
def unk : Pt → Bool
  | .s z => unkS z
  | _ => false
mutual
/-- the unknowns as they stand -/
def nmT : Pt → List Str
  | .i _ => []
  | .s z => if unkS z = true then [z] else []
  | .t _ ps => nmL ps
def nmL : List Pt → List Str
  | [] => []
  | x :: r => nmT x ++ nmL r
end
theorem nmL_append : ∀ (a b : List Pt), nmL (a ++ b) = nmL a ++ nmL b
  | [], b => by simp [nmL]
  | x :: r, b => by
    rw [List.cons_append, nmL, nmL, nmL_append r b, List.append_assoc]
/-- each once, as they first stand -/
def once (l : List Str) : List Str := l.foldl (fun acc z => if z ∈ acc then acc else acc ++ [z]) []
theorem once_more (l : List Str) (z : Str) : once (l ++ [z]) = if z ∈ once l then once l else once l ++ [z] := by
  unfold once
  rw [List.foldl_append]
  rfl
def fdK (l : List Str) : List (Key × V) := l.map fun z => (Sum.inr z, V.bl true)
theorem fdK_put (l : List Str) (z : Str) : putK (fdK l) (Sum.inr z) (V.bl true) = fdK (if z ∈ l then l else l ++ [z]) := by
  unfold putK
  have e : ((fdK l).any fun kv => decide (kv.1 = Sum.inr z)) = decide (z ∈ l) := by
    unfold fdK
    rw [List.any_map]
    by_cases h : z ∈ l
    · rw [decide_eq_true h, List.any_eq_true]
      exact ⟨z, h, by simp⟩
    · rw [decide_eq_false h, List.any_eq_false]
      intro y hy e
      simp at e
      exact h (e ▸ hy)
  rw [e]
  by_cases h : z ∈ l
  · rw [if_pos (decide_eq_true h), if_pos h]
    unfold fdK
    rw [List.map_map]
    refine List.map_congr_left fun y hy => ?_
    by_cases hz : y = z <;> simp [hz]
  · rw [if_neg (by rw [decide_eq_false h]; decide), if_neg h]
    unfold fdK
    rw [List.map_append]
    rfl
theorem fdK_keys (l : List Str) : (fdK l).map (fun kv => kV kv.1) = l.map V.str := by
  unfold fdK
  rw [List.map_map]
  rfl
theorem once_len : ∀ (l acc : List Str), (l.foldl (fun acc z => if z ∈ acc then acc else acc ++ [z]) acc).length ≤ acc.length + l.length
  | [], acc => by simp
  | z :: r, acc => by
    rw [List.foldl_cons]
    refine Nat.le_trans (once_len r _) ?_
    rw [List.length_cons]
    split
    · omega
    · rw [List.length_append]
      show acc.length + 1 + r.length ≤ _
      omega
mutual
theorem nmT_len : ∀ p : Pt, (nmT p).length ≤ szT p
  | .i _ => by simp [nmT]
  | .s z => by
    rw [nmT, szT]
    split <;> simp
  | .t _ ps => by
    rw [nmT, szT]
    have := nmL_len ps
    omega
theorem nmL_len : ∀ ps : List Pt, (nmL ps).length ≤ szL ps
  | [] => by simp [nmL]
  | x :: r => by
    rw [nmL, szL, List.length_append]
    have := nmT_len x
    have := nmL_len r
    omega
end
theorem PtsAt.reverse {K : PySem.W.Frag} {H : Hp} {k : Nat} {vs : List V} {ps : List Pt} (r : PtsAt K H k vs ps) : PtsAt K H k vs.reverse ps.reverse := by
  refine ⟨by rw [List.length_reverse, List.length_reverse, r.1], fun i y u h1 h2 => ?_⟩
  have hi : i < vs.length := by
    have := (List.getElem?_eq_some_iff.mp h1).1
    rwa [List.length_reverse] at this
  rw [List.getElem?_reverse hi] at h1
  rw [List.getElem?_reverse (by rw [← r.1]; exact hi), ← r.1] at h2
  exact r.2 _ y u h1 h2
theorem okL_sub {T N : Str → Prop} {ps qs : List Pt} (h : okL T N ps) (k : ∀ p ∈ qs, p ∈ ps) : okL T N qs := okL_mem.mpr fun p hp => okL_mem.mp h p (k p hp)
end Gs
namespace Gs
open PySem PySem.Spec PyProof.Rows L2 TL
theorem szL_reverse : ∀ ps : List Pt, szL ps.reverse = szL ps
  | [] => rfl
  | x :: r => by
    rw [List.reverse_cons, szL_append, szL_reverse r, szL]
    simp only [szL]
    omega
theorem sqT_dk {K : PySem.W.Frag} {G : Hp} {D a : Addr} {kvs : List (Key × V)} {xs : List V} {o : HO} (h : G D = some (.dK kvs)) (s : SqT K G a xs) : SqT K (upd G D o) a xs := by
  rcases s with (s | ⟨u, s⟩) | s
  · refine .inl (.inl ?_)
    rw [upd_ne (ne_of s h (by intro z; cases z))]
    exact s
  · refine .inl (.inr ⟨u, ?_⟩)
    rw [upd_ne (ne_of s h (by intro z; cases z))]
    exact s
  · exact .inr s
theorem mem_dropLast {α : Type} {l : List α} {x : α} (h : x ∈ l.dropLast) : x ∈ l := by
  rw [List.dropLast_eq_take] at h
  exact List.mem_of_mem_take h
end Gs
namespace Gs
open PySem PySem.Spec PyProof.Rows L2 TL
def partsT : Pt → List Pt
  | .t _ ps => ps
  | _ => []
def nextL (l : List Pt) : List Pt := (l.map partsT).flatten
theorem nextL_append (a b : List Pt) : nextL (a ++ b) = nextL a ++ nextL b := by
  unfold nextL
  rw [List.map_append, List.flatten_append]
theorem dpT_parts (p : Pt) : dpT p = 1 + dpL (partsT p) := by
  cases p <;> simp [dpT, partsT, dpL]
theorem szT_parts (p : Pt) : szT p = 1 + szL (partsT p) := by
  cases p <;> simp [szT, partsT, szL]
theorem dpL_next : ∀ {l : List Pt}, l ≠ [] → dpL l = 1 + dpL (nextL l)
  | [], h => absurd rfl h
  | [x], _ => by
    have e : nextL [x] = partsT x := by simp [nextL]
    rw [e, dpL, dpL, dpT_parts x]
    omega
  | x :: y :: r, _ => by
    have e : nextL (x :: y :: r) = partsT x ++ nextL (y :: r) := by simp [nextL]
    rw [e, dpL, dpL_next (l := y :: r) (by simp), dpL_append, dpT_parts x]
    omega
theorem szL_next : ∀ l : List Pt, szL (nextL l) + l.length = szL l
  | [] => rfl
  | x :: r => by
    have e : nextL (x :: r) = partsT x ++ nextL r := by simp [nextL]
    have := szL_next r
    have h2 := szT_parts x
    rw [e, szL_append, szL, List.length_cons]
    omega
end Gs
namespace Gs
open PySem PySem.Spec PyProof.Rows L2 TL
theorem once_nil : once [] = [] := rfl
theorem mem_once : ∀ {l : List Str} {z : Str}, z ∈ once l ↔ z ∈ l := by
  intro l
  suffices h : ∀ (l acc : List Str) (z : Str), z ∈ l.foldl (fun acc z => if z ∈ acc then acc else acc ++ [z]) acc ↔ z ∈ acc ∨ z ∈ l by
    intro z
    have := h l [] z
    simpa [once] using this
  clear l
  intro l
  induction l with
  | nil => intro acc z; simp
  | cons x r ih =>
    intro acc z
    rw [List.foldl_cons, ih]
    by_cases hx : x ∈ acc
    · rw [if_pos hx, List.mem_cons]
      constructor
      · rintro (h | h)
        · exact .inl h
        · exact .inr (.inr h)
      · rintro (h | rfl | h)
        · exact .inl h
        · exact .inl hx
        · exact .inr h
    · rw [if_neg hx, List.mem_append, List.mem_singleton, List.mem_cons]
      constructor
      · rintro ((h | h) | h)
        · exact .inl h
        · exact .inr (.inl h)
        · exact .inr (.inr h)
      · rintro (h | h | h)
        · exact .inl (.inl h)
        · exact .inl (.inr h)
        · exact .inr h
end Gs
namespace Gs
open PySem PySem.Spec PyProof.Rows L2 TL
theorem once_le (l : List Str) : (once l).length ≤ l.length := by
  have := once_len l []
  simpa [once] using this
end Gs
namespace Gs
open PySem PySem.Spec PyProof.Rows L2
/-! ### a tuple cut out of another one, told exactly; a list made longer by it -/
def txO (p : Addr) (zs : List V) : HO := .ext fun h => ∃ (its : List Value) (n : Nat), h.get? p = some { cls := Value.type "tuple", data := Data.seq its.toArray n } ∧ Vals zs its
def rSlTX (K : PySem.W.Frag) : V → Option Int → Option Int → Hp → VK → Prop := fun x lo hi H Q => ∃ a xs, x = .ref a ∧ SqT K H a xs ∧ ¬(HT.sIx xs.length 0 lo = 0 ∧ HT.sIx xs.length xs.length hi = xs.length) ∧ ∀ p, H p = none → Q (.ref p) (upd H p (txO p (cutV xs lo hi)))
def rExtX : V → List V → Hp → VK → Prop := fun x vs H Q => ∃ l b xs zs, x = .ref l ∧ vs = [.ref b] ∧ H l = some (.lst xs) ∧ H b = some (txO b zs) ∧ xs.length + zs.length ≤ sizeLine ∧ Q .non (upd H l (.lst (xs ++ zs)))
section
variable {X : Cx} {K : PySem.W.Frag}
theorem sl_tupX (h : X.K = K := by rfl) : SlR X (rSlTX K) := by
  subst h
  intro pins s σ H x v vl vu lo hi sl Q I rx isl hl hu h
  obtain ⟨a, xs, rfl, hS, hw, q⟩ := h
  obtain ⟨its, hv, ht, hz⟩ := I.tuple hS
  obtain rfl := rx
  have lv : xs.length = its.length := hv.length
  have sz' : its.toArray.size = xs.length := by rw [List.size_toArray, lv]
  refine ⟨"tuple", _, slot_tuple_getitem.lookup, ht.typeIs, ?_⟩
  refine HT.getItem_tuple_cut ht isl hl hu (by rw [sz']; exact hw) ?_ (by rw [sz']; exact hz)
  refine ⟨.ref s.heap.objs.size, _, I.laid (fun b u hb => Heap.get?_push_of_some _ hb) (Nat.le_refl _) ?_, rfl, q _ (I.hok.fresh (Nat.le_refl _))⟩
  simp only [ObjOk, txO]
  refine ⟨⟨_, _, Heap.get?_push_size _ rfl, ?_⟩, ⟨_, Heap.get?_push_size _ rfl⟩, ?_⟩
  · unfold cutV
    rw [sz']
    exact (hv.drop _).take _
  · rintro h1 h2 ⟨i, n, e, z⟩ k
    exact ⟨i, n, k _ e, z⟩
theorem mt_extX : MtM X "list.extend" rExtX := by
  intro pins s σ H x xs v us Q I rx hv h
  obtain ⟨l, b, xs, zs, rfl, rfl, hl, hb, hz, q⟩ := h
  obtain rfl := rx
  obtain ⟨u, rfl, ru⟩ := hv.one
  obtain rfl := ru
  obtain ⟨hx, its, n, hvs, le, hget⟩ := I.lstM hl
  have ob := I.hok _ _ hb
  simp only [ObjOk, txO] at ob
  obtain ⟨⟨its2, n2, hget2, hv2⟩, _⟩ := ob
  have le2 : zs.length = its2.length := hv2.length
  have s1 : its.toArray.size + its2.toArray.size ≤ sizeLine := by
    rw [List.size_toArray, List.size_toArray]
    omega
  refine call_meets PySem.F.slot_list_extend ?_ PySem.F.entry_list_extend (PySem.F.args_list_extend_2 _ _) (PySem.AutoSeq1.list_extend_list_tuple_0 l its.toArray n b its2.toArray n2 ?_ ?_ ?_) ?_
  · exact ⟨_, hget, rfl⟩
  · exact extend_door s1 |> fun z => z
  · rw [List.size_toArray]
    omega
  · omega
  · exact ⟨hget, hget2, .non, _, I.lset hl hget (by simp) (hvs.append hv2) (by rw [List.length_append]; omega), rfl, q⟩
end
end Gs
namespace Gs
open PySem PySem.Spec PyProof.Rows L2
/-! ### x[:0:-1] of a tuple -/
theorem adjust_back {n : Nat} (hn : 1 ≤ n) : Builtin.Slice.sliceAdjust none (some 0) (-1) (n : Int) = ((n : Int) - 1, 0) := by
  unfold Builtin.Slice.sliceAdjust
  simp only [show ((-1 : Int) < 0) = True from by decide, show ((0 : Int) < 0) = False from by decide, if_true, if_false]
  congr 1
  omega
theorem places_back {n : Nat} (hn : 1 ≤ n) : Builtin.Slice.slicePlaces ((n : Int) - 1) 0 (-1) = n - 1 := by
  unfold Builtin.Slice.slicePlaces
  simp only [show ((-1 : Int) > 0) = False from by decide, if_false]
  by_cases h : (n : Int) - 1 > 0
  · rw [if_pos h, show -(-1 : Int) = 1 from rfl, Int.ediv_one]
    omega
  · rw [if_neg h]
    omega
theorem sliceApplied_back {prog : Program} {w : World} {A : Around} {E : Value → Shared → Prop} {s : Shared} {sl : Addr} {u1 u2 : Tok} {n : Nat} {Q : Int × Int × Nat → Shared → Prop}
    (isl : s.heap.IsSliceOf sl .none (.int 0 u1) (.int (-1) u2)) (hn : 1 ≤ n) (q : Q ((n : Int) - 1, -1, n - 1) s) :
    wpAny (model prog w) A (Builtin.Slice.sliceApplied (Value.ref sl) (pure (n : Int))) Q E s := by
  obtain ⟨o, ho, hc, hd⟩ := isl
  unfold Builtin.Slice.sliceApplied
  refine wpAny_bind ?_
  unfold Builtin.Slice.sliceFields
  refine wpAny_bind (wpAny_field ho hd rfl (wpAny_bind (wpAny_field ho hd rfl (wpAny_bind (wpAny_field ho hd rfl (wpAny_pure ?_))))))
  show wpAny _ _ (Builtin.Slice.slicePartIndex (.int (-1) u2) >>= _) _ _ _
  refine wpAny_bind (slicePart_int ?_)
  show wpAny _ _ (if ((-1 : Int) == 0) = true then _ else _) _ _ _
  rw [if_neg (by decide)]
  refine wpAny_bind (slicePart_none ?_)
  refine wpAny_bind (slicePart_int ?_)
  refine wpAny_bind (wpAny_pure ?_)
  refine (?_ : wpAny (model prog w) A (match Builtin.Slice.sliceAdjust none (some 0) (-1) (n : Int) with | (lo, hi) => pure (lo, -1, Builtin.Slice.slicePlaces lo hi (-1))) Q E s)
  rw [adjust_back hn]
  show wpAny _ _ (pure ((n : Int) - 1, (-1 : Int), Builtin.Slice.slicePlaces ((n : Int) - 1) 0 (-1))) _ _ _
  rw [places_back hn]
  exact wpAny_pure q
theorem filterMap_take {α : Type} (L : List α) : ∀ n, List.filterMap (fun k => L[k]?) (List.range n) = L.take n
  | 0 => rfl
  | n + 1 => by
    rw [List.range_succ, List.filterMap_append, filterMap_take L n, List.take_succ]
    congr 1
theorem fm_congr {α β : Type} {f g : α → Option β} : ∀ {l : List α}, (∀ x ∈ l, f x = g x) → l.filterMap f = l.filterMap g
  | [], _ => rfl
  | x :: r, h => by
    rw [List.filterMap_cons, List.filterMap_cons, h x (List.mem_cons_self ..), fm_congr (l := r) fun y hy => h y (List.mem_cons_of_mem _ hy)]
theorem pick_back (xs : Array Value) (hn : 1 ≤ xs.size) : (List.filterMap (fun m : Nat => xs[((xs.size : Int) - 1 + (m : Int) * -1).toNat]?) (List.range (xs.size - 1))).toArray = ((xs.toList.drop 1).reverse).toArray := by
  congr 1
  have hl : (xs.toList.drop 1).reverse.length = xs.size - 1 := by
    rw [List.length_reverse, List.length_drop, Array.length_toList]
  have e := filterMap_take (xs.toList.drop 1).reverse (xs.size - 1)
  rw [List.take_of_length_le (by omega)] at e
  rw [← e]
  refine fm_congr fun m hm => ?_
  have hm' := List.mem_range.mp hm
  rw [List.getElem?_reverse (by rw [List.length_drop, Array.length_toList]; omega), List.getElem?_drop, List.length_drop, Array.length_toList, ← Array.getElem?_toList]
  congr 1
  omega
theorem getItem_tuple_back {prog : Program} {w : World} {A : Around} {E : Value → Shared → Prop} {s : Shared} {t sl : Addr} {items : Array Value} {u1 u2 : Tok} {Q : Value → Shared → Prop}
    (ht : IsTup s.heap t items) (isl : s.heap.IsSliceOf sl .none (.int 0 u1) (.int (-1) u2)) (hn : 1 ≤ items.size) (hz : items.size ≤ sizeLine)
    (q : Q (Value.ref s.heap.objs.size) { heap := s.heap.push { cls := Value.type "tuple", data := Data.seq ((items.toList.drop 1).reverse).toArray }, gens := s.gens, drawn := s.drawn, toks := s.toks, os := s.os }) :
    wpAny (model prog w) A (getItem (Value.ref t) (Value.ref sl)) Q E s := by
  have isl' := isl
  obtain ⟨o, ho, hc, hd⟩ := isl'
  refine wpAny_holding ?_
  refine wpAny_bind (wpAny_sequenceKey ht.typeIs (by decide) ?_)
  refine wpAny_bind (wpAny_callSpecial?_slot ht.typeIs slot_tuple_getitem ?_)
  refine wpAny_call_entry slot_tuple_getitem ht.typeIs entry_tuple_getitem ?_ (args_tuple_getitem _ _)
  show wpAny _ _ (Builtin.Tuple.tupleItemsOf (.ref t) >>= _) _ _ _
  refine wpAny_bind (tupleItemsOf_ ht ?_)
  refine wpAny_bind (wpAny_typeOf (T := "slice") ⟨o, ho, hc⟩ ?_)
  rw [if_pos (by decide)]
  refine wpAny_bind (sliceApplied_back isl hn ?_)
  show wpAny _ _ (if (((items.size : Int) - 1 == 0 && (-1 : Int) == 1 && items.size - 1 == items.size) = true) then _ else _) _ _ _
  rw [if_neg (by simp)]
  show wpAny _ _ (Builtin.Tuple.tupleExact _ >>= _) _ _ _
  refine wpAny_bind ?_
  unfold Builtin.Tuple.tupleExact
  rw [pick_back items hn]
  refine wpAny_newObj_type ?_ ?_
  · exact wpAny_pure ⟨_, rfl, wpAny_pure q⟩
  · show ((items.toList.drop 1).reverse.toArray).size ≤ sizeLine
    rw [List.size_toArray, List.length_reverse, List.length_drop, Array.length_toList]
    omega
/-- a tuple's parts behind its first, turned round -/
def tBackX (K : PySem.W.Frag) (te : TE) : TE := fun σ H Q => te σ H fun x H1 => ∃ a z zs, x = .ref a ∧ SqT K H1 a (z :: zs) ∧ ∀ p, H1 p = none → Q (.ref p) (upd H1 p (txO p zs.reverse))
section
variable {X : Cx} {K : PySem.W.Frag} {e : PySem.Expr} {te : TE} {k1 k2 : Option Str} {p1 p2 p3 p4 pos : Pos}
theorem pe_backX {j1 j2 : Nat} (he : PE X e te) :
    PE X (.Subscript e (.Slice none (some (.Constant (.int 0) j1 p1)) (some (.UnaryOp .USub (.Constant (.int 1) j2 p2) p3)) p4) pos) (tBackX X.K te) := by
  refine ⟨fun pins s σ H Q I h => ?_⟩
  refine Subscript_ ?_
  refine thn (he.run pins s σ H _ I h) fun o s1 hh => ?_
  obtain ⟨x, H1, I1, rx, a, z, zs, rfl, hS, q⟩ := hh
  obtain rfl := rx
  refine wpAny_Slice ?_
  refine thn ((po_none (X := X)).run pins s1 σ H1 (fun o G => o = none ∧ G = H1) I1 ⟨rfl, rfl⟩) ?_
  rintro u s2 ⟨o, G, I2, ip, rfl, rfl⟩
  refine thn ((po_some (X := X) (pe_int (i := 0) (j := j1) (pos := p1))).run pins s2 σ G (fun o G' => o = some 0 ∧ G' = G) I2 ⟨0, rfl, rfl, rfl⟩) ?_
  rintro u2 s3 ⟨o, G, I3, ip2, rfl, rfl⟩
  refine thn ((po_some (X := X) (pe_un un_neg (pe_int (i := 1) (j := j2) (pos := p2)))).run pins s3 σ G (fun o G' => o = some (-1) ∧ G' = G) I3 ⟨1, rfl, -1, rfl, rfl, rfl⟩) ?_
  rintro u3 s4 ⟨o, G, I4, ip3, rfl, rfl⟩
  cases ip
  cases ip2 with
  | int _ t2 =>
  cases ip3 with
  | int _ t3 =>
  have I5 : L2.Inv X pins σ G { heap := s4.heap.push { cls := Value.type "slice", data := Data.fields #[Value.none, Value.int 0 t2, Value.int (-1) t3] }, gens := s4.gens, drawn := s4.drawn, toks := s4.toks, os := s4.os } := I4.kept fun b u hb => Heap.get?_push_of_some _ hb
  obtain ⟨its, hv, ht, hz⟩ := I5.tuple hS
  have lv : (z :: zs).length = its.length := hv.length
  have sz' : its.toArray.size = (z :: zs).length := by rw [List.size_toArray, lv]
  refine tail_any ht.typeIs slot_tuple_getitem.lookup (getItem_tuple_back ht (Heap.IsSliceOf.new _ _ _ _) (by rw [sz', List.length_cons]; omega) (by rw [sz']; exact hz) ?_) rfl
  refine ⟨.ref _, _, I5.laid (fun b u hb => Heap.get?_push_of_some _ hb) (Nat.le_refl _) ?_, rfl, q _ (I5.hok.fresh (Nat.le_refl _))⟩
  simp only [ObjOk, txO]
  refine ⟨⟨_, _, Heap.get?_push_size _ rfl, ?_⟩, ⟨_, Heap.get?_push_size _ rfl⟩, ?_⟩
  · exact (hv.drop 1).reverse
  · rintro h1 h2 ⟨i, n, e, z⟩ k
    exact ⟨i, n, k _ e, z⟩
end
end Gs
namespace Gs
open PySem PySem.Spec PyProof.Rows L2
section
variable {X : Cx} {K : PySem.W.Frag} {a : PySem.Expr} {ta : TE}
theorem pt_truthK (ha : PE X a ta) (he : ∀ whole, isTrue a X.env whole = (do let v ← whole; standAt a.pos; holding [v] (truthy v))) (h : X.K = K := by rfl) : PT X a (fun σ H Q => ta σ H fun x H' => ∃ k, TruV K x H' k ∧ Q k H') := h ▸ pt_truth ha he
end
end Gs
namespace Gs
open PySem PySem.Spec PyProof.Rows L2
theorem cut_tail (x : V) (vs : List V) : cutV (x :: vs) (some 1) none = vs := by
  unfold cutV
  rw [show (1 : Int) = ((1 : Nat) : Int) from rfl, HT.sIx_none, HT.sIx_nat, List.length_cons]
  rw [Nat.min_eq_left (by omega)]
  rw [List.drop_succ_cons, List.drop_zero, List.take_of_length_le (by omega)]
theorem cut_tail_ne (x : V) (vs : List V) : ¬(HT.sIx (x :: vs).length 0 (some 1) = 0 ∧ HT.sIx (x :: vs).length (x :: vs).length none = (x :: vs).length) := by
  rintro ⟨h, _⟩
  rw [show (1 : Int) = ((1 : Nat) : Int) from rfl, HT.sIx_nat, List.length_cons] at h
  rw [Nat.min_eq_left (by omega)] at h
  omega
end Gs
namespace Gs
open PySem PySem.Spec PyProof.Rows L2
section
variable {K : PySem.W.Frag} {σ : L2.St} {H : Hp} {wi wi1 : TI} {g g1 : TG} {tt tt1 : TT} {te : TE} {vs vs1 : List Nat} {Q : VK}
theorem pi_tupK {X : Cx} {tg l : PySem.Expr} {tl : TE} (hl : PE X l tl) (h : X.K = K := by rfl) : PI X tg l (iTup K tl) := h ▸ pi_tup hl
/-- what stands for an element behind the tests: it is put behind the list at D -/
def putsD (D : Addr) (te : TE) (N : Hp → Prop) (σ : L2.St) (H : Hp) : Prop := te σ H fun y H7 => ∃ acc, H7 D = some (.lst acc) ∧ acc.length < sizeLine ∧ N (upd H7 D (.lst (acc ++ [y])))
/-- the inner loop, over a tuple -/
theorem in_tup {D a : Addr} {ys : List V} {N : Hp → Prop} {σ2 : L2.St} {H4 : Hp} (Pv : Nat → Hp → Prop) (hS : SqT K H4 a ys) (h0 : Pv 0 H4) (hl : ∀ j H, j ≤ ys.length → Pv j H → SqT K H a ys)
    (hs : ∀ j x H, ys[j]? = some x → Pv j H → g1 x (wipe σ2 vs1) H fun σ3 H5 => wipe σ3 vs1 = wipe σ2 vs1 ∧ tt1 σ3 H5 fun b H6 => if b = true then putsD D te (Pv (j + 1)) σ3 H6 else Pv (j + 1) H6) (hd : ∀ H, Pv ys.length H → N H) :
    ∃ b, V.ref a = .ref b ∧ (∃ xs, SqT K H4 b xs) ∧ ∃ W1 : Nat → Nat → Hp → Prop, (∃ m, W1 0 m H4) ∧ ∀ j k H, W1 j k H → ((Itt K b).stop j H ∧ N H) ∨ ((Itt K b).go j H ∧ ∃ Nx1 : Hp → Prop, (∀ H', Nx1 H' → ∃ k', k' < k ∧ W1 (j + 1) k' H') ∧
      ∀ x H', (Itt K b).yld j H x H' → g1 x (wipe σ2 vs1) H' fun σ3 H5 => wipe σ3 vs1 = wipe σ2 vs1 ∧ tt1 σ3 H5 fun b H6 => if b = true then te σ3 H6 fun y H7 => ∃ acc, H7 D = some (.lst acc) ∧ acc.length < sizeLine ∧ Nx1 (upd H7 D (.lst (acc ++ [y]))) else Nx1 H6) := by
  refine ⟨a, rfl, ⟨ys, hS⟩, fun j k H => j + k = ys.length ∧ Pv j H, ⟨ys.length, Nat.zero_add _, h0⟩, ?_⟩
  rintro j k H ⟨hk, p⟩
  have hL := hl j H (by omega) p
  by_cases c : j < ys.length
  · refine .inr ⟨?_, Pv (j + 1), fun H' p' => ⟨k - 1, by omega, by omega, p'⟩, ?_⟩
    · exact ⟨ys, _, hL, List.getElem?_eq_getElem c⟩
    · intro x H' hy
      obtain ⟨rfl, hy⟩ := hy
      exact hs j x _ (hy ys hL) p
  · have e : j = ys.length := by omega
    subst e
    exact .inl ⟨⟨ys, hL, Nat.le_refl _⟩, hd H p⟩
theorem x_lc2 (q : wi σ H fun J H1 => ∀ D, H1 D = none → ∃ W : Nat → Nat → Hp → Prop, (∃ m, W 0 m (upd H1 D (.lst []))) ∧ ∀ i m H, W i m H → (J.stop i H ∧ Q (.ref D) H) ∨ (J.go i H ∧ ∃ Nx : Hp → Prop, (∀ H', Nx H' → ∃ m', m' < m ∧ W (i + 1) m' H') ∧
    ∀ x H', J.yld i H x H' → g x (wipe σ vs) H' fun σ2 H2 => wipe σ2 vs = wipe σ vs ∧ tt σ2 H2 fun b H3 => if b = true then wi1 σ2 H3 fun J1 H4 => ∃ W1 : Nat → Nat → Hp → Prop, (∃ m, W1 0 m H4) ∧ ∀ j k H, W1 j k H → (J1.stop j H ∧ Nx H) ∨ (J1.go j H ∧ ∃ Nx1 : Hp → Prop, (∀ H', Nx1 H' → ∃ k', k' < k ∧ W1 (j + 1) k' H') ∧
      ∀ x H', J1.yld j H x H' → g1 x (wipe σ2 vs1) H' fun σ3 H5 => wipe σ3 vs1 = wipe σ2 vs1 ∧ tt1 σ3 H5 fun b H6 => if b = true then te σ3 H6 fun y H7 => ∃ acc, H7 D = some (.lst acc) ∧ acc.length < sizeLine ∧ Nx1 (upd H7 D (.lst (acc ++ [y]))) else Nx1 H6) else Nx H3)) : tLc2 wi g tt wi1 g1 tt1 te vs vs1 σ H Q := q
/-- the outer loop, over a list -/
theorem x_lc2L {a : Addr} {xs : List V} {Qd : Addr → Hp → Prop} (Pv : Addr → Nat → Hp → Prop) (hS : SqL K H a xs) (h0 : ∀ D, H D = none → Pv D 0 (upd H D (.lst []))) (hl : ∀ D, H D = none → ∀ i H', i ≤ xs.length → Pv D i H' → SqL K H' a xs)
    (hs : ∀ D, H D = none → ∀ i x H', xs[i]? = some x → Pv D i H' → g x (wipe σ vs) H' fun σ2 H2 => wipe σ2 vs = wipe σ vs ∧ tt σ2 H2 fun b H3 => if b = true then wi1 σ2 H3 fun J1 H4 => ∃ W1 : Nat → Nat → Hp → Prop, (∃ m, W1 0 m H4) ∧ ∀ j k H, W1 j k H → (J1.stop j H ∧ Pv D (i + 1) H) ∨ (J1.go j H ∧ ∃ Nx1 : Hp → Prop, (∀ H', Nx1 H' → ∃ k', k' < k ∧ W1 (j + 1) k' H') ∧
      ∀ x H', J1.yld j H x H' → g1 x (wipe σ2 vs1) H' fun σ3 H5 => wipe σ3 vs1 = wipe σ2 vs1 ∧ tt1 σ3 H5 fun b H6 => if b = true then te σ3 H6 fun y H7 => ∃ acc, H7 D = some (.lst acc) ∧ acc.length < sizeLine ∧ Nx1 (upd H7 D (.lst (acc ++ [y]))) else Nx1 H6) else Pv D (i + 1) H3)
    (hd : ∀ D, H D = none → ∀ H', Pv D xs.length H' → Qd D H') :
    ∃ b, V.ref a = .ref b ∧ (∃ xs, SqL K H b xs) ∧ ∀ D, H D = none → ∃ W : Nat → Nat → Hp → Prop, (∃ m, W 0 m (upd H D (.lst []))) ∧ ∀ i m H, W i m H → ((Itl K b).stop i H ∧ Qd D H) ∨ ((Itl K b).go i H ∧ ∃ Nx : Hp → Prop, (∀ H', Nx H' → ∃ m', m' < m ∧ W (i + 1) m' H') ∧
      ∀ x H', (Itl K b).yld i H x H' → g x (wipe σ vs) H' fun σ2 H2 => wipe σ2 vs = wipe σ vs ∧ tt σ2 H2 fun b H3 => if b = true then wi1 σ2 H3 fun J1 H4 => ∃ W1 : Nat → Nat → Hp → Prop, (∃ m, W1 0 m H4) ∧ ∀ j k H, W1 j k H → (J1.stop j H ∧ Nx H) ∨ (J1.go j H ∧ ∃ Nx1 : Hp → Prop, (∀ H', Nx1 H' → ∃ k', k' < k ∧ W1 (j + 1) k' H') ∧
        ∀ x H', J1.yld j H x H' → g1 x (wipe σ2 vs1) H' fun σ3 H5 => wipe σ3 vs1 = wipe σ2 vs1 ∧ tt1 σ3 H5 fun b H6 => if b = true then te σ3 H6 fun y H7 => ∃ acc, H7 D = some (.lst acc) ∧ acc.length < sizeLine ∧ Nx1 (upd H7 D (.lst (acc ++ [y]))) else Nx1 H6) else Nx H3) := by
  refine ⟨a, rfl, ⟨xs, hS⟩, fun D hD => ⟨fun i m H' => i + m = xs.length ∧ Pv D i H', ⟨xs.length, Nat.zero_add _, h0 D hD⟩, ?_⟩⟩
  rintro i m H' ⟨hm, p⟩
  have hL := hl D hD i H' (by omega) p
  by_cases c : i < xs.length
  · refine .inr ⟨⟨xs, _, hL, List.getElem?_eq_getElem c⟩, Pv D (i + 1), fun H' p' => ⟨m - 1, by omega, by omega, p'⟩, ?_⟩
    intro x H2 hy
    obtain ⟨rfl, hy⟩ := hy
    exact hs D hD i x _ (hy xs hL) p
  · have e : i = xs.length := by omega
    subst e
    exact .inl ⟨⟨xs, hL, Nat.le_refl _⟩, hd D hD H' p⟩
end
end Gs
namespace Gs
open PySem PySem.Spec PyProof.Rows L2
section
variable {K : PySem.W.Frag} {σ : L2.St} {H : Hp} {g : TG} {tt : TT} {te : TE} {vs : List Nat}
theorem x_lcT {Qd : Addr → Hp → Prop} {a : Addr} {xs : List V} (Pv : Addr → Nat → Hp → Prop) (hS : SqT K H a xs) (h0 : ∀ D, H D = none → Pv D 0 (upd H D (.lst []))) (hl : ∀ D, H D = none → ∀ i H', i ≤ xs.length → Pv D i H' → SqT K H' a xs)
    (hs : ∀ D, H D = none → ∀ i x H', xs[i]? = some x → Pv D i H' → g x (wipe σ vs) H' fun σ2 H2 => wipe σ2 vs = wipe σ vs ∧ tt σ2 H2 fun b H3 =>
      if b = true then te σ2 H3 fun y H4 => ∃ acc, H4 D = some (.lst acc) ∧ acc.length < sizeLine ∧ Pv D (i + 1) (upd H4 D (.lst (acc ++ [y]))) else Pv D (i + 1) H3) (hd : ∀ D, H D = none → ∀ H', Pv D xs.length H' → Qd D H') :
    ∃ b, V.ref a = .ref b ∧ (∃ xs, SqT K H b xs) ∧ ∀ D, H D = none → ∃ W : Nat → Nat → Hp → Prop, (∃ m, W 0 m (upd H D (.lst []))) ∧ ∀ i m H, W i m H →
      ((Itt K b).stop i H ∧ Qd D H) ∨ ((Itt K b).go i H ∧ ∃ Nx : Hp → Prop, (∀ H', Nx H' → ∃ m', m' < m ∧ W (i + 1) m' H') ∧ ∀ x H', (Itt K b).yld i H x H' → g x (wipe σ vs) H' fun σ2 H2 => wipe σ2 vs = wipe σ vs ∧ tt σ2 H2 fun b H3 =>
        if b = true then te σ2 H3 fun y H4 => ∃ acc, H4 D = some (.lst acc) ∧ acc.length < sizeLine ∧ Nx (upd H4 D (.lst (acc ++ [y]))) else Nx H3) := by
  refine ⟨a, rfl, ⟨xs, hS⟩, fun D hD => ⟨fun i m H' => i + m = xs.length ∧ Pv D i H', ⟨xs.length, Nat.zero_add _, h0 D hD⟩, ?_⟩⟩
  rintro i m H' ⟨hm, p⟩
  have hL := hl D hD i H' (by omega) p
  by_cases c : i < xs.length
  · refine .inr ⟨⟨xs, _, hL, List.getElem?_eq_getElem c⟩, Pv D (i + 1), fun H' p' => ⟨m - 1, by omega, by omega, p'⟩, ?_⟩
    intro x H2 hy
    obtain ⟨rfl, hy⟩ := hy
    exact hs D hD i x _ (hy xs hL) p
  · have e : i = xs.length := by omega
    subst e
    exact .inl ⟨⟨xs, hL, Nat.le_refl _⟩, hd D hD H' p⟩
end
end Gs
namespace Gs
open PySem PySem.Spec PyProof.Rows L2
/-! ### own rules for sums: t[::-1], // by any divisor, min, max, sorted, abs -/
section
variable {X : Cx} {K : PySem.W.Frag}
theorem cr_maxKK (hc : X.calm = true) (h : X.K = K := by rfl) : CallR X (.builtin "max") (rMax K) := h ▸ cr_max hc
end
section
variable {K : PySem.W.Frag} {H : Hp} {Q : VK}
theorem x_max {a : Addr} {ns : List Int} (h : SqL K H a (ns.map V.int)) (h0 : 0 < ns.length) (q : ∀ m, m ∈ ns → (∀ y, y ∈ ns → y ≤ m) → Q (.int m) H) : rMax K [.ref a] H Q := ⟨a, ns, rfl, h, h0, q⟩
end
/-- a op1 b op2 c op3 d -/
def tChain3 (r r' r'' : R2) (ta tb tc td : TE) : TE := fun σ H Q => ta σ H fun x H1 => tb σ H1 fun y H2 => r x y H2 fun z H3 => ∃ k, z = .bl k ∧
  (if k = true then tc σ H3 fun w H4 => r' y w H4 fun z' H5 => ∃ k', z' = .bl k' ∧ (if k' = true then td σ H5 fun u H6 => r'' w u H6 Q else Q (.bl false) H5) else Q (.bl false) H3)
theorem x_chain3 {σ : L2.St} {H : Hp} {Q : VK} {r r' r'' : R2} {ta tb tc td : TE} (q : ta σ H fun x H1 => tb σ H1 fun y H2 => r x y H2 fun z H3 => ∃ k, z = .bl k ∧
  (if k = true then tc σ H3 fun w H4 => r' y w H4 fun z' H5 => ∃ k', z' = .bl k' ∧ (if k' = true then td σ H5 fun u H6 => r'' w u H6 Q else Q (.bl false) H5) else Q (.bl false) H3)) : tChain3 r r' r'' ta tb tc td σ H Q := q
section
variable {X : Cx} {K : PySem.W.Frag} {H : Hp} {Q : VK}
theorem sl_tupAK (h : X.K = K := by rfl) : SlR X (rSlA K) := h ▸ sl_tupA
theorem op_catAK (h : X.K = K := by rfl) : OpR X (binaryOp .Add) (rCatA K) := h ▸ op_catA
theorem x_slA {a : Addr} {xs : List V} {lo hi : Option Int} (hS : SqT K H a xs) (q : ∀ r H', Same H H' → SqT K H' r (cutV xs lo hi) → Q (.ref r) H') : rSlA K (.ref a) lo hi H Q := by
  refine ⟨a, xs, rfl, hS, fun hw => ?_, fun _ p hp => q p _ (same_upd hp) (.of upd_same)⟩
  refine q a H (fun _ _ e => e) ?_
  have e : cutV xs lo hi = xs := by
    unfold cutV
    rw [hw.1, hw.2, List.drop_zero, Nat.sub_zero, List.take_length]
  rw [e]
  exact hS
theorem x_catA {a b : Addr} {xs ys : List V} (h1 : SqT K H a xs) (h2 : SqT K H b ys) (hz : xs.length + ys.length ≤ sizeLine) (q : ∀ r H', Same H H' → SqT K H' r (xs ++ ys) → Q (.ref r) H') : rCatA K (.ref a) (.ref b) H Q := by
  refine ⟨a, b, xs, ys, rfl, rfl, h1, h2, hz, fun e => ?_, fun _ e => ?_, fun _ _ p hp => q p _ (same_upd hp) (.of upd_same)⟩
  · subst e
    exact q b H (fun _ _ e => e) h2
  · subst e
    refine q a H (fun _ _ e => e) ?_
    rw [List.append_nil]
    exact h1
end
def tStarK (K : PySem.W.Frag) (te : TE) (t : TA) : TA := fun σ H Q => te σ H fun x H1 => ∃ p xs, x = V.ref p ∧ (SqT K H1 p xs ∨ SqL K H1 p xs) ∧ t σ H1 fun ys H2 => Q (xs ++ ys) H2
theorem pa_starK {X : Cx} {K : PySem.W.Frag} {e : PySem.Expr} {es : List PySem.Expr} {te : TE} {t : TA} {p : Pos} (he : PE X e te) (hr : PA X es t) (h : X.K = K := by rfl) (hs : starEach (.Starred e p :: es) X.env = (true, eval e X.env) :: starEach es X.env := by rfl) : PA X (.Starred e p :: es) (tStarK K te t) := by
  subst h
  exact StX.pa_star he hr hs
theorem x_star {K : PySem.W.Frag} {te : TE} {t : TA} {σ : L2.St} {H : Hp} {QA : List V → Hp → Prop} (q : te σ H fun x H1 => ∃ p xs, x = V.ref p ∧ (SqT K H1 p xs ∨ SqL K H1 p xs) ∧ t σ H1 fun ys H2 => QA (xs ++ ys) H2) : tStarK K te t σ H QA := q
end Gs
namespace Gs
open PySem PySem.Spec PyProof.Rows L2 TL
/-! ### lists of things at places -/
def AllAt {α : Type} (R : V → α → Prop) (vs : List V) (as : List α) : Prop := vs.length = as.length ∧ ∀ (i : Nat) (v : V) (a : α), vs[i]? = some v → as[i]? = some a → R v a
namespace AllAt
variable {α : Type} {R R' : V → α → Prop} {vs ws : List V} {as bs : List α}
theorem nil : AllAt R [] [] := ⟨rfl, fun i v o h => by cases h⟩
theorem cons {v : V} {a : α} (h : R v a) (r : AllAt R vs as) : AllAt R (v :: vs) (a :: as) := by
  refine ⟨by rw [List.length_cons, List.length_cons, r.1], fun i w b hw hb => ?_⟩
  cases i with
  | zero => cases hw; cases hb; exact h
  | succ i => exact r.2 i w b hw hb
theorem one {v : V} {a : α} (h : R v a) : AllAt R [v] [a] := cons h nil
theorem append (r : AllAt R vs as) (r' : AllAt R ws bs) : AllAt R (vs ++ ws) (as ++ bs) := by
  refine ⟨by rw [List.length_append, List.length_append, r.1, r'.1], fun i w b hw hb => ?_⟩
  by_cases c : i < vs.length
  · rw [List.getElem?_append_left c] at hw
    rw [List.getElem?_append_left (by rw [← r.1]; exact c)] at hb
    exact r.2 i w b hw hb
  · rw [List.getElem?_append_right (by omega)] at hw
    rw [List.getElem?_append_right (by rw [← r.1]; omega), ← r.1] at hb
    exact r'.2 _ w b hw hb
theorem mono (r : AllAt R vs as) (k : ∀ v a, R v a → R' v a) : AllAt R' vs as := ⟨r.1, fun i v a h1 h2 => k v a (r.2 i v a h1 h2)⟩
theorem atv (r : AllAt R vs as) {i : Nat} {v : V} (h : vs[i]? = some v) : ∃ a, as[i]? = some a ∧ R v a := by
  have hi : i < as.length := by
    rw [← r.1]
    exact (List.getElem?_eq_some_iff.mp h).1
  exact ⟨_, List.getElem?_eq_getElem hi, r.2 i v _ h (List.getElem?_eq_getElem hi)⟩
theorem take (r : AllAt R vs as) (k : Nat) : AllAt R (vs.take k) (as.take k) := by
  refine ⟨by rw [List.length_take, List.length_take, r.1], fun i v a hv ha => ?_⟩
  rw [List.getElem?_take] at hv ha
  split at hv
  · next c =>
    rw [if_pos c] at ha
    exact r.2 i v a hv ha
  · cases hv
end AllAt
/-! ### sums -/
inductive Su where
  | n (z : Int)
  | pl (j : Nat)
  | op (s : Str) (a b : Su)
def signs5 : List Str := ["+", "-", "*", "//", "mod"]
def Su.Ok (many : Nat) : Su → Prop
  | .n z => z.natAbs < 2 ^ 200
  | .pl j => j < many
  | .op s a b => s ∈ signs5 ∧ a.Ok many ∧ b.Ok many
def SuAt (K : PySem.W.Frag) (H : Hp) : Su → V → Prop
  | .n z, v => v = .int z
  | .pl j, v => ∃ p, v = .ref p ∧ SqT K H p [.str "at", .int (j : Int)]
  | .op s a b, v => ∃ p x y, v = .ref p ∧ SqT K H p [.str s, x, y] ∧ SuAt K H a x ∧ SuAt K H b y
section
variable {K : PySem.W.Frag} {H H' : Hp}
theorem SuAt.mono (k : ∀ a xs, SqT K H a xs → SqT K H' a xs) : ∀ {t : Su} {v : V}, SuAt K H t v → SuAt K H' t v
  | .n _, _, h => h
  | .pl _, _, ⟨p, e, h⟩ => ⟨p, e, k _ _ h⟩
  | .op _ _ _, _, ⟨p, x, y, e, h, h1, h2⟩ => ⟨p, x, y, e, k _ _ h, SuAt.mono k h1, SuAt.mono k h2⟩
theorem SuAt.same {t : Su} {v : V} (h : SuAt K H t v) (k : Same H H') : SuAt K H' t v := h.mono fun _ _ x => Same.sqT k x
theorem SuAt.kx {p l : Addr} {c : Int} {t : Su} {v : V} (h : SuAt K H t v) (k : Kx p l H H') (P : PoolAt H p l c) : SuAt K H' t v := h.mono fun _ _ x => k.sqT P x
def PairAt (K : PySem.W.Frag) (H : Hp) (v : V) (e : Int × Int) : Prop := ∃ p, v = .ref p ∧ SqT K H p [.int e.1, .int e.2]
def BoxAt (K : PySem.W.Frag) (H : Hp) (b : Addr) (bx : List (Int × Int)) : Prop := ∃ vs, SqT K H b vs ∧ AllAt (PairAt K H) vs bx
theorem PairAt.mono {v : V} {e : Int × Int} (h : PairAt K H v e) (k : ∀ a xs, SqT K H a xs → SqT K H' a xs) : PairAt K H' v e := by
  obtain ⟨p, rfl, h⟩ := h
  exact ⟨p, rfl, k _ _ h⟩
theorem BoxAt.mono {b : Addr} {bx : List (Int × Int)} (h : BoxAt K H b bx) (k : ∀ a xs, SqT K H a xs → SqT K H' a xs) : BoxAt K H' b bx := by
  obtain ⟨vs, h1, h2⟩ := h
  exact ⟨vs, k _ _ h1, h2.mono fun _ _ x => x.mono k⟩
theorem BoxAt.same {b : Addr} {bx : List (Int × Int)} (h : BoxAt K H b bx) (k : Same H H') : BoxAt K H' b bx := h.mono fun _ _ x => Same.sqT k x
theorem BoxAt.kx {p l : Addr} {c : Int} {b : Addr} {bx : List (Int × Int)} (h : BoxAt K H b bx) (k : Kx p l H H') (P : PoolAt H p l c) : BoxAt K H' b bx := h.mono fun _ _ x => k.sqT P x
end
/-! ### the ends of a sum -/
def imx (i j : Int) : Int := if j > i then j else i
def iab (i : Int) : Int := if i < 0 then -i else i
def mn4 (a b c d : Int) : Int := min (min a b) (min c d)
def mx4 (a b c d : Int) : Int := max (max a b) (max c d)
def join (s : Str) (l r : Int × Int) : Int × Int :=
  if s = "+" then (l.1 + r.1, l.2 + r.2) else if s = "-" then (l.1 - r.2, l.2 - r.1)
  else if s = "*" then (mn4 (l.1 * r.1) (l.1 * r.2) (l.2 * r.1) (l.2 * r.2), mx4 (l.1 * r.1) (l.1 * r.2) (l.2 * r.1) (l.2 * r.2))
  else if s = "//" then (-(imx (iab l.1) (iab l.2)), imx (iab l.1) (iab l.2)) else (-(imx (iab r.1) (iab r.2)), imx (iab r.1) (iab r.2))
section
variable {K : PySem.W.Frag}
theorem Su.Ok.three {M : Nat} {t : Su} {v : V} {H : Hp} (h : SuAt K H t v) (k : t.Ok M) : (∃ z, t = .n z ∧ v = .int z ∧ z.natAbs < 2 ^ 200) ∨ (∃ j p, t = .pl j ∧ j < M ∧ v = .ref p ∧ SqT K H p [.str "at", .int (j : Int)]) ∨
    ∃ s a b p x y, t = .op s a b ∧ s ∈ signs5 ∧ s ≠ "at" ∧ a.Ok M ∧ b.Ok M ∧ v = .ref p ∧ SqT K H p [.str s, x, y] ∧ SuAt K H a x ∧ SuAt K H b y := by
  cases t with
  | n z => exact .inl ⟨z, rfl, h, k⟩
  | pl j =>
    obtain ⟨p, rfl, h⟩ := h
    exact .inr (.inl ⟨j, p, rfl, k, rfl, h⟩)
  | op s a b =>
    obtain ⟨p, x, y, rfl, h, h1, h2⟩ := h
    refine .inr (.inr ⟨s, a, b, p, x, y, rfl, k.1, ?_, k.2.1, k.2.2, rfl, h, h1, h2⟩)
    rintro rfl
    exact absurd k.1 (by decide)
end
end Gs
namespace Gs
open PySem PySem.Spec PyProof.Rows L2
/-! ### max(xs, default=d) of a list of ints -/
theorem x_ckw {r : List V → List V → Hp → VK → Prop} {t tk : TA} {σ : L2.St} {H : Hp} {Q : VK} (q : t σ H fun vs H1 => tk σ H1 fun zs H2 => r vs zs H2 Q) : tCKw r t tk σ H Q := q
end Gs
namespace Gs
open PySem PySem.Spec PyProof.Rows L2
/-! ### enumerate(a text of plain signs); text.rpartition(text) -/
def IteS (z : Str) : It := ⟨fun n _ => n < z.cps.size, fun n H v H' => ∃ T c, v = .ref T ∧ H T = none ∧ H' = upd H T (.tup [.int (n : Nat), .str ⟨#[c]⟩]) ∧ z.cps[n]? = some c, fun n _ => z.cps.size ≤ n⟩
def iEnumS (te : TA) : TI := fun σ H R => te σ H fun vs H1 => ∃ z : Str, vs = [.str z] ∧ z.cps.all (· < 128) = true ∧ R (IteS z) H1
theorem x_ienumS {σ : L2.St} {H : Hp} {ta : TA} {R : It → Hp → Prop} (q : ta σ H fun vs H1 => ∃ z : Str, vs = [.str z] ∧ z.cps.all (· < 128) = true ∧ R (IteS z) H1) : iEnumS ta σ H R := q
end Gs
namespace Gs
open PySem PySem.Spec PyProof.Rows L2 TL
/-! ### titles: a name, a stroke, a number of places -/
theorem tl_lenP (z : Str) : (tl z).length = z.length := by
  show z.cps.toList.length = z.cps.size
  rw [Array.length_toList]
theorem tl_injP {a b : Str} (h : tl a = tl b) : a = b := by
  cases a
  cases b
  exact congrArg Str.mk (Array.toList_inj.mp h)
/-! ### the parts at the + places and at the - places -/
end Gs
namespace Gs
open PySem PySem.Spec PyProof.Rows L2 TL
/-! ### patterns as data, to be compared -/
mutual
def ptD : Pt → PyData
  | .i n => .int n
  | .s z => .str z
  | .t nm ps => .tuple (.str nm :: ptDL ps)
def ptDL : List Pt → List PyData
  | [] => []
  | p :: r => ptD p :: ptDL r
end
theorem dpAll_of {K : PySem.W.Frag} {H : Hp} : ∀ {vs : List V} {ds : List PyData}, vs.length = ds.length → (∀ (i : Nat) v d, vs[i]? = some v → ds[i]? = some d → Dp K H v d) → DpAll K H vs ds
  | [], [], _, _ => .nil
  | v :: vs, d :: ds, hl, h => .cons (h 0 v d rfl rfl) (dpAll_of (Nat.succ.inj hl) fun i v' d' h1 h2 => h (i + 1) v' d' h1 h2)
end Gs
namespace Gs
open PySem PySem.Spec PyProof.Rows L2 TL
/-! ### dicts of names and data compared -/
/-! ### what is bound to names -/
abbrev Fl := List (Str × Pt)
def look : Fl → Str → Option Pt
  | [], _ => none
  | (y, p) :: r, z => if y = z then some p else look r z
inductive StAt (K : PySem.W.Frag) (H : Hp) (k : Nat) : List (Key × V) → Fl → Prop
  | nil : StAt K H k [] []
  | cons {z : Str} {v : V} {p : Pt} {r : List (Key × V)} {f : Fl} : PtAt K H k v p → StAt K H k r f → StAt K H k ((Sum.inr z, v) :: r) ((z, p) :: f)
theorem StAt.len {K : PySem.W.Frag} {H : Hp} {k : Nat} {r : List (Key × V)} {f : Fl} (h : StAt K H k r f) : r.length = f.length := by
  induction h with
  | nil => rfl
  | cons a b ih => rw [List.length_cons, List.length_cons, ih]
theorem StAt.mono {K : PySem.W.Frag} {H H' : Hp} {k : Nat} {r : List (Key × V)} {f : Fl} (h : StAt K H k r f) (g : ∀ a xs, SqT K H a xs → SqT K H' a xs) : StAt K H' k r f := by
  induction h with
  | nil => exact .nil
  | cons a b ih => exact .cons (a.mono g) ih
theorem StAt.up {K : PySem.W.Frag} {H : Hp} {k j : Nat} {r : List (Key × V)} {f : Fl} (h : StAt K H k r f) (g : k ≤ j) : StAt K H j r f := by
  induction h with
  | nil => exact .nil
  | cons a b ih => exact .cons (a.up g) ih
theorem StAt.find {K : PySem.W.Frag} {H : Hp} {k : Nat} {r : List (Key × V)} {f : Fl} (h : StAt K H k r f) (z : Str) : (valV r (Sum.inr z) = none ∧ look f z = none) ∨ ∃ v p, valV r (Sum.inr z) = some v ∧ look f z = some p ∧ PtAt K H k v p := by
  induction h with
  | nil => exact .inl ⟨rfl, rfl⟩
  | @cons y v p r f a b ih =>
    by_cases e : y = z
    · subst e
      refine .inr ⟨v, p, valV_pos (p := ((Sum.inr y : Key), v)) rfl, ?_, a⟩
      rw [look, if_pos rfl]
    · rw [valV_neg (p := ((Sum.inr y : Key), v)) (by simpa using e), look, if_neg e]
      exact ih
def putF (f : Fl) (z : Str) (p : Pt) : Fl := if (look f z).isSome = true then f.map (fun e => if e.1 = z then (e.1, p) else e) else f ++ [(z, p)]
theorem StAt.append {K : PySem.W.Frag} {H : Hp} {k : Nat} {r r' : List (Key × V)} {f f' : Fl} (h : StAt K H k r f) (h' : StAt K H k r' f') : StAt K H k (r ++ r') (f ++ f') := by
  induction h with
  | nil => exact h'
  | cons a b ih => exact .cons a ih
theorem StAt.put {K : PySem.W.Frag} {H : Hp} {k : Nat} {r : List (Key × V)} {f : Fl} (h : StAt K H k r f) {z : Str} {v : V} {p : Pt} (hv : PtAt K H k v p) : StAt K H k (putK r (Sum.inr z) v) (putF f z p) := by
  unfold putK putF
  rw [valV_any]
  have e : (valV r (Sum.inr z)).isSome = (look f z).isSome := by
    rcases h.find z with ⟨a, b⟩ | ⟨_, _, a, b, _⟩ <;> rw [a, b] <;> rfl
  rw [e]
  by_cases c : (look f z).isSome = true
  · rw [if_pos c, if_pos c]
    clear e c
    induction h with
    | nil => exact .nil
    | @cons y v' p' r f a b ih =>
      rw [List.map_cons, List.map_cons]
      by_cases e : y = z
      · subst e
        rw [if_pos rfl, if_pos rfl]
        exact .cons hv ih
      · rw [if_neg (by simpa using e), if_neg e]
        exact .cons a ih
  · rw [if_neg c, if_neg c]
    exact h.append (.cons hv .nil)
theorem putF_none {f : Fl} {z : Str} (p : Pt) (h : look f z = none) : putF f z p = f ++ [(z, p)] := by
  unfold putF
  rw [h, if_neg (by decide)]
theorem look_none : ∀ {f : Fl} {z : Str}, look f z = none ↔ ∀ e ∈ f, e.1 ≠ z
  | [], z => by simp [look]
  | (y, p) :: r, z => by
    rw [look]
    by_cases e : y = z
    · rw [if_pos e]
      simp [e]
    · rw [if_neg e, look_none (f := r)]
      simp [e]
/-- each name once, an unknown; each worth as it should be -/
structure StOk (T N : Str → Prop) (f : Fl) : Prop where
  nd : (f.map (·.1)).Nodup
  un : ∀ e ∈ f, unkS e.1 = true
  ok : ∀ e ∈ f, okT T N e.2 ∧ dpT e.2 ≤ 40
theorem StOk.nil {T N : Str → Prop} : StOk T N [] := ⟨List.nodup_nil, (by intro e h; cases h), (by intro e h; cases h)⟩
theorem StOk.put {T N : Str → Prop} {f : Fl} (h : StOk T N f) {z : Str} {p : Pt} (hz : unkS z = true) (hp : okT T N p ∧ dpT p ≤ 40) : StOk T N (putF f z p) := by
  unfold putF
  by_cases c : (look f z).isSome = true
  · rw [if_pos c]
    refine ⟨?_, fun e he => ?_, fun e he => ?_⟩
    · rw [List.map_map]
      have : ((fun e : Str × Pt => e.1) ∘ fun e : Str × Pt => if e.1 = z then (e.1, p) else e) = fun e => e.1 := by
        funext e
        show (if e.1 = z then (e.1, p) else e).1 = e.1
        split <;> rfl
      rw [this]
      exact h.nd
    · obtain ⟨e', he', rfl⟩ := List.mem_map.mp he
      split
      · exact h.un e' he'
      · exact h.un e' he'
    · obtain ⟨e', he', rfl⟩ := List.mem_map.mp he
      split
      · exact hp
      · exact h.ok e' he'
  · rw [if_neg c]
    have hn : look f z = none := by
      cases e : look f z with
      | none => rfl
      | some _ =>
        rw [e] at c
        exact absurd rfl c
    have hn' := look_none.mp hn
    refine ⟨?_, fun e he => ?_, fun e he => ?_⟩
    · rw [List.map_append, List.nodup_append]
      refine ⟨h.nd, List.nodup_cons.mpr ⟨(by intro h; cases h), List.nodup_nil⟩, fun a ha b hb => ?_⟩
      obtain ⟨e, he, rfl⟩ := List.mem_map.mp ha
      have : b = z := by simpa using hb
      rw [this]
      exact hn' e he
    · rcases List.mem_append.mp he with he | he
      · exact h.un e he
      · rw [List.mem_singleton.mp he]
        exact hz
    · rcases List.mem_append.mp he with he | he
      · exact h.ok e he
      · rw [List.mem_singleton.mp he]
        exact hp
theorem StOk.more {T N : Str → Prop} {f : Fl} (h : StOk T N f) {z : Str} {p : Pt} (hz : unkS z = true) (hn : look f z = none) (hp : okT T N p ∧ dpT p ≤ 40) : StOk T N (f ++ [(z, p)]) := putF_none p hn ▸ h.put hz hp
/-! ### matching -/
/-- compared as the program compares -/
def bq (u t : Pt) : Bool := PyData.eqv (ptD u) (ptD t)
/-! ### what is bound, put in -/
/-! ### readings of what dicts are asked, and of loops over two tuples -/
theorem x_dget {td ty : TE} {σ : L2.St} {H : Hp} {Q : VK} (q : td σ H fun x H1 => ty σ H1 fun y H2 => ∃ a v, x = .ref a ∧ DGet H2 a y (some v) ∧ Q v H2) : tDGet td ty σ H Q := q
theorem nmL_mem : ∀ {ps : List Pt} {p : Pt} {z : Str}, p ∈ ps → z ∈ nmT p → z ∈ nmL ps
  | x :: r, p, z, h, hz => by
    rw [nmL]
    rcases List.mem_cons.mp h with rfl | h
    · exact List.mem_append_left _ hz
    · exact List.mem_append_right _ (nmL_mem h hz)
end Gs
namespace Gs
open PySem PySem.Spec PyProof.Rows L2
end Gs
namespace Gs
open PySem PySem.Spec PyProof.Rows L2
/-! ### [f(x) for x in a tuple or a list], the things told by relations over the heap -/
/-- what holds of a thing holds while tuples stay -/
def Stb2 {β : Type} (K : PySem.W.Frag) (S : Hp → V → β → Prop) : Prop := ∀ (H H' : Hp) v b, (∀ a xs, SqT K H a xs → SqT K H' a xs) → S H v b → S H' v b
theorem same_put {H H' : Hp} {b : Addr} {o : HO} (h : Same H H') (hb : H b = none) : Same H (upd H' b o) := fun c u e => by
  have hc : c ≠ b := fun z => by
    rw [z, hb] at e
    cases e
  rw [upd_ne hc]
  exact h c u e
section
variable {α β : Type} {K : PySem.W.Frag} {R : Hp → V → α → Prop} {S : Hp → V → β → Prop} {σ : L2.St} {H : Hp} {g : TG} {tt : TT} {te : TE} {vs : List Nat} {Qd : Addr → Hp → Prop} {a : Addr} {xs : List V} {as : List α}
theorem lcm_step {D : Addr} {k : Nat} {G : Hp} {v : V} (f : α → β) (stb : Stb2 K S) (hz : as.length < 90000) (hD : H D = none)
    (hs : ∀ (G : Hp) v x, Same H G → x ∈ as → R G v x → ∀ (Q' : VK) (P' : Hp → Prop), (∀ G' y, Same G G' → S G' y (f x) → Q' y G') → g v (wipe σ vs) G fun σ2 H2 => wipe σ2 vs = wipe σ vs ∧ tt σ2 H2 fun b H3 => if b = true then te σ2 H3 Q' else P' H3)
    (kG : Same H G) {us : List V} (eD : G D = some (.lst us)) (hu : AllAt (S G) us ((as.take k).map f)) {x : α} (hx : as[k]? = some x) (r : R G v x) {P' : Hp → Prop} :
    g v (wipe σ vs) G fun σ2 H2 => wipe σ2 vs = wipe σ vs ∧ tt σ2 H2 fun b H3 => if b = true then te σ2 H3 fun y H4 => ∃ acc, H4 D = some (.lst acc) ∧ acc.length < sizeLine ∧ (Same H (upd H4 D (.lst (acc ++ [y]))) ∧ ∃ us', (upd H4 D (.lst (acc ++ [y]))) D = some (.lst us') ∧ AllAt (S (upd H4 D (.lst (acc ++ [y])))) us' ((as.take (k + 1)).map f)) else P' H3 := by
  have hk := (List.getElem?_eq_some_iff.mp hx).1
  refine hs G v x kG (List.mem_of_getElem? hx) r _ _ fun G' y k' sy => ?_
  have lu := hu.1
  rw [List.length_map, List.length_take] at lu
  have gg : ∀ b zs, SqT K G' b zs → SqT K (upd G' D (.lst (us ++ [y]))) b zs := fun b zs q => sqT_lst (k' _ _ eD) q
  refine ⟨us, k' _ _ eD, szl (by omega), same_put (kG.trans k') hD, us ++ [y], upd_same, ?_⟩
  rw [take_more hx, List.map_append]
  exact (hu.mono fun v b q => stb _ _ v b (fun _ _ s => gg _ _ (Same.sqT k' s)) q).append (.one (stb _ _ _ _ gg sy))
theorem x_lcMT (f : α → β) (hS : SqT K H a xs) (ha : AllAt (R H) xs as) (hm : ∀ {H H' : Hp} {v : V} {x : α}, Same H H' → R H v x → R H' v x) (stb : Stb2 K S) (hz : as.length < 90000)
    (hs : ∀ (G : Hp) v x, Same H G → x ∈ as → R G v x → ∀ (Q' : VK) (P' : Hp → Prop), (∀ G' y, Same G G' → S G' y (f x) → Q' y G') → g v (wipe σ vs) G fun σ2 H2 => wipe σ2 vs = wipe σ vs ∧ tt σ2 H2 fun b H3 => if b = true then te σ2 H3 Q' else P' H3)
    (hd : ∀ D (G : Hp) us, H D = none → Same H G → G D = some (.lst us) → AllAt (S G) us (as.map f) → Qd D G) :
    ∃ b, V.ref a = .ref b ∧ (∃ xs, SqT K H b xs) ∧ ∀ D, H D = none → ∃ W : Nat → Nat → Hp → Prop, (∃ m, W 0 m (upd H D (.lst []))) ∧ ∀ i m H, W i m H →
      ((Itt K b).stop i H ∧ Qd D H) ∨ ((Itt K b).go i H ∧ ∃ Nx : Hp → Prop, (∀ H', Nx H' → ∃ m', m' < m ∧ W (i + 1) m' H') ∧ ∀ x H', (Itt K b).yld i H x H' → g x (wipe σ vs) H' fun σ2 H2 => wipe σ2 vs = wipe σ vs ∧ tt σ2 H2 fun b H3 =>
        if b = true then te σ2 H3 fun y H4 => ∃ acc, H4 D = some (.lst acc) ∧ acc.length < sizeLine ∧ Nx (upd H4 D (.lst (acc ++ [y]))) else Nx H3) := by
  refine x_lcT (K := K) (a := a) (xs := xs) (fun D k G => Same H G ∧ ∃ us, G D = some (.lst us) ∧ AllAt (S G) us ((as.take k).map f)) hS ?_ ?_ ?_ ?_
  · intro D hD
    exact ⟨same_upd hD, [], upd_same, .nil⟩
  · rintro D hD j G _ ⟨k, _⟩
    exact Same.sqT k hS
  · rintro D hD k v G hv ⟨kG, us, eD, hu⟩
    obtain ⟨x, hx, r⟩ := ha.atv hv
    exact lcm_step f stb hz hD hs kG eD hu hx (hm kG r)
  · rintro D hD G ⟨kG, us, eD, hu⟩
    rw [ha.1, List.take_length] at hu
    exact hd D G us hD kG eD hu
theorem x_lcML (f : α → β) (hS : SqL K H a xs) (hS' : ∀ G, Same H G → SqL K G a xs) (ha : AllAt (R H) xs as) (hm : ∀ {H H' : Hp} {v : V} {x : α}, Same H H' → R H v x → R H' v x) (stb : Stb2 K S) (hz : as.length < 90000)
    (hs : ∀ (G : Hp) v x, Same H G → x ∈ as → R G v x → ∀ (Q' : VK) (P' : Hp → Prop), (∀ G' y, Same G G' → S G' y (f x) → Q' y G') → g v (wipe σ vs) G fun σ2 H2 => wipe σ2 vs = wipe σ vs ∧ tt σ2 H2 fun b H3 => if b = true then te σ2 H3 Q' else P' H3)
    (hd : ∀ D (G : Hp) us, H D = none → Same H G → G D = some (.lst us) → AllAt (S G) us (as.map f) → Qd D G) :
    ∃ b, V.ref a = .ref b ∧ (∃ xs, SqL K H b xs) ∧ ∀ D, H D = none → ∃ W : Nat → Nat → Hp → Prop, (∃ m, W 0 m (upd H D (.lst []))) ∧ ∀ i m H, W i m H →
      ((Itl K b).stop i H ∧ Qd D H) ∨ ((Itl K b).go i H ∧ ∃ Nx : Hp → Prop, (∀ H', Nx H' → ∃ m', m' < m ∧ W (i + 1) m' H') ∧ ∀ x H', (Itl K b).yld i H x H' → g x (wipe σ vs) H' fun σ2 H2 => wipe σ2 vs = wipe σ vs ∧ tt σ2 H2 fun b H3 =>
        if b = true then te σ2 H3 fun y H4 => ∃ acc, H4 D = some (.lst acc) ∧ acc.length < sizeLine ∧ Nx (upd H4 D (.lst (acc ++ [y]))) else Nx H3) := by
  refine x_lcL (K := K) (a := a) (xs := xs) (fun D k G => Same H G ∧ ∃ us, G D = some (.lst us) ∧ AllAt (S G) us ((as.take k).map f)) hS ?_ ?_ ?_ ?_
  · intro D hD
    exact ⟨same_upd hD, [], upd_same, .nil⟩
  · rintro D hD j G _ ⟨k, _⟩
    exact hS' G k
  · rintro D hD k v G hv ⟨kG, us, eD, hu⟩
    obtain ⟨x, hx, r⟩ := ha.atv hv
    exact lcm_step f stb hz hD hs kG eD hu hx (hm kG r)
  · rintro D hD G ⟨kG, us, eD, hu⟩
    rw [ha.1, List.take_length] at hu
    exact hd D G us hD kG eD hu
end
end Gs
namespace SrtK
open PySem PySem.SeqAt PyProof.Rows Srt SrtO Gs
open MeetsSeq MeetsSeq2 MeetsSeq3 SeqRoads2
/-! ### trees of numbers, texts and tuples, in order -/
mutual
def tvD : Tv → PyData
  | .i n => .int n
  | .s z => .str z
  | .t ts => .tuple (tvDL ts)
def tvDL : List Tv → List PyData
  | [] => []
  | t :: r => tvD t :: tvDL r
end
/-! ### a < b of tuples: the first items that differ decide; those behind them need not be alike -/
end SrtK
namespace SrtK
open PySem PySem.SeqAt PyProof.Rows Srt SrtO Gs
end SrtK
namespace SrtK
open PySem PySem.SeqAt PyProof.Rows Srt SrtO Gs
theorem tvDL_len : ∀ ts : List Tv, (tvDL ts).length = ts.length
  | [] => rfl
  | _ :: r => by rw [tvDL, List.length_cons, List.length_cons, tvDL_len r]
end SrtK
namespace Gs
open PySem PySem.SeqAt PyProof.Rows Srt SrtO SrtK L2
theorem TvAt.mono {K : PySem.W.Frag} {H H' : Hp} (h : ∀ a xs, SqT K H a xs → SqT K H' a xs) : ∀ {k : Nat} {x : V} {u : Tv}, TvAt K H k x u → TvAt K H' k x u
  | 0, _, _, z => z
  | _ + 1, _, .i _, z => z
  | _ + 1, _, .s _, z => z
  | _ + 1, _, .t _, ⟨a, vs, e, s, z, l, f⟩ => ⟨a, vs, e, h _ _ s, z, l, fun i y u h1 h2 => (f i y u h1 h2).mono h⟩
theorem tvDL_map : ∀ ts : List Tv, tvDL ts = ts.map tvD
  | [] => rfl
  | t :: r => by rw [tvDL, List.map_cons, tvDL_map r]
theorem depthAll_tv {k : Nat} : ∀ {ts : List Tv}, (∀ t ∈ ts, (tvD t).depth ≤ k) → PyData.depthAll (tvDL ts) ≤ k
  | [], _ => by simp [tvDL, PyData.depthAll]
  | t :: r, h => by
    have h1 := h t (List.mem_cons_self ..)
    have h2 := depthAll_tv fun t' m => h t' (List.mem_cons_of_mem _ m)
    simp only [tvDL, PyData.depthAll]
    omega
theorem TvAt.data {K : PySem.W.Frag} {H : Hp} : ∀ {k : Nat} {v : V} {t : Tv}, TvAt K H k v t → Dp K H v (tvD t) ∧ (tvD t).depth ≤ k
  | 0, _, _, h => h.elim
  | _ + 1, _, .i n, h => by
    obtain rfl : _ = V.int n := h
    exact ⟨.int n, by simp [tvD, PyData.depth]⟩
  | _ + 1, _, .s z, h => by
    obtain rfl : _ = V.str z := h
    exact ⟨.str z, by simp [tvD, PyData.depth]⟩
  | k + 1, _, .t ts, ⟨a, vs, e, s, _, l, f⟩ => by
    subst e
    have hc : ∀ (i : Nat) (t : Tv), ts[i]? = some t → ∃ v, vs[i]? = some v ∧ Dp K H v (tvD t) ∧ (tvD t).depth ≤ k := fun i t ht => by
      have hi := (List.getElem?_eq_some_iff.mp ht).1
      have hv : vs[i]? = some (vs[i]'(by omega)) := List.getElem?_eq_getElem _
      exact ⟨_, hv, (f i _ t hv ht).data⟩
    refine ⟨.tup s (dpAll_of (by rw [tvDL_len, l]) fun i v d h1 h2 => ?_), ?_⟩
    · rw [tvDL_map, List.getElem?_map] at h2
      cases ht : ts[i]? with
      | none =>
        rw [ht] at h2
        cases h2
      | some t =>
        rw [ht] at h2
        cases h2
        obtain ⟨v', e1, e2, _⟩ := hc i t ht
        rw [h1] at e1
        cases e1
        exact e2
    · have := depthAll_tv (k := k) (ts := ts) fun t ht => by
        obtain ⟨i, hi, rfl⟩ := List.getElem_of_mem ht
        obtain ⟨_, _, _, e3⟩ := hc i _ (List.getElem?_eq_getElem hi)
        exact e3
      rw [tvD]
      simp only [PyData.depth]
      omega
section
variable {X : Cx} {pins : List (Addr × Obj)} {σ : L2.St} {H H00 : Hp} {s : Shared} {A1 : Around} {E : Value → Shared → Prop} {P : PySem.Fin → Shared → Prop} {a kS : Addr} {e1 : Nat}
theorem same_updo {H H' : Hp} {b : Addr} {o : HO} (h : Same H H') (hb : H b = none) : Same H (upd H' b o) := fun c u e => by
  have hc : c ≠ b := fun z => by
    rw [z, hb] at e
    cases e
  rw [upd_ne hc]
  exact h c u e
end
end Gs
namespace Gs
open PySem PySem.SeqAt PyProof.Rows L2 SrtK
/-! ### max(xs, key=f), f an own def that tells pairs of ints: one of the things -/
def twoI (a b : Int) : Tv := .t [.i a, .i b]
section
variable {X : Cx} {pins : List (Addr × Obj)} {σ : L2.St} {H H00 : Hp} {s : Shared} {A1 : Around} {f it l S : Addr} {fd : FuncData} {ps : List Str} {sp : Sp} {k : Nat} {xs : List V}
theorem mx_call {j : Nat} {x : V} {u : Value} {Q : Value → Shared → Prop} {E : Value → Shared → Prop} (F : FnOk X.prog X.w X.K X.mg X.base CX0 k f fd ps sp) (b : Binds X.K fd ps []) (sb : L2.Sub X k A1) (I : Inv X pins σ H s)
    (f2 : FpOk X pins H it) (st : s.heap.IsListIter it l j) (rx : RelV x u) (hsp : sp [x] H (fun v H2 => Same H H2 ∧ ∃ a b, TvAt X.K H2 3 v (twoI a b)) E0)
    (q : ∀ kx s2 H2 v a b, Inv X pins σ H2 s2 → RelV v kx → Same H H2 → TvAt X.K H2 3 v (twoI a b) → s2.heap.IsListIter it l j → H2 it = none → Q kx s2) : wpAny (model X.prog X.w) A1 (call (.ref f) [u]) Q E s := by
  have ob : ∃ o, s.heap.get? it = some o ∧ ∀ v, o.data ≠ .cell v := by
    obtain ⟨o, e, c, d⟩ := id st
    exact ⟨o, e, fun v z => by rw [d] at z; cases z⟩
  have I' := I.pinned (fp := [it]) (fun b hb => by rw [List.mem_singleton.mp hb]; exact f2) (fun b hb => by rw [List.mem_singleton.mp hb]; exact ob)
  have e0 : Env0 X.prog X.w X.K X.mg X.base A1 X.stack s H := by
    have e := I'.env0
    exact ⟨by rw [sb.fr]; exact e.frames, e.mod, e.bs, e.bsz, e.funs, e.frf, e.hok, e.bare⟩
  have hlen := F.len _ _ _ _ hsp
  have call : wpAny (model X.prog X.w) A1 (call (.ref f) [u]) (EP X (pins ++ pinsAt [it] s.heap) σ (fun v H2 => Same H H2 ∧ ∃ a b, TvAt X.K H2 3 v (twoI a b))) (fun _ _ => False) s := by
    refine wpAny_call (codeAny_mono (F.run A1 X.stack s H ⟨[u], []⟩ [u] [x] _ E0 sb.room e0 (by
      have := b s [u] I'.kIn (by simpa using hlen)
      simpa using this) (.cons rx .nil) hsp) fun r s'' hq => ?_)
    cases r with
    | error e => exact False.elim hq
    | ok fl =>
      cases fl with
      | ret u => exact I'.after hq
      | next => exact False.elim hq
      | brk => exact False.elim hq
      | cont => exact False.elim hq
  refine wpAny_mono call (fun kx s2 he => ?_) fun _ _ hF => hF.elim
  obtain ⟨v, H2, I2, rv, sm2, a, c, tv⟩ := he
  obtain ⟨o, eo, _⟩ := ob
  have pn := I2.pin (it, o) (List.mem_append_right _ (List.mem_append_right _ (mem_pinsAt (List.mem_singleton.mpr rfl) eo)))
  exact q kx s2 H2 v a c I2.unpinned rv sm2 tv (st.at fun o' e' => by rw [eo] at e'; cases e'; exact pn.1) pn.2.1
/-- where the walk for the greatest stands -/
def MxAt (X : Cx) (pins : List (Addr × Obj)) (σ : L2.St) (H00 : Hp) (xs : List V) (l S it : Addr) (j : Nat) (s : Shared) : Prop := ∃ (H' : Hp) (vb kb : V) (a b : Int), Inv X pins σ H' s ∧ Same H00 H' ∧ H' S = some (.lst [vb, kb]) ∧ vb ∈ xs ∧ TvAt X.K H' 3 kb (twoI a b) ∧ s.heap.IsListIter it l j ∧ H' it = none
theorem mx_loop {R : Result → Shared → Prop} (hh : X.A.in1.handled = none) (F : FnOk X.prog X.w X.K X.mg X.base CX0 k f fd ps sp) (b : Binds X.K fd ps []) (sb : L2.Sub X k X.A.in1) (f2 : FpOk X pins H it) (hs : SqL X.K H00 l xs) (n1 : H00 S = none)
    (turn : ∀ x ∈ xs, ∀ H1, Same H00 H1 → sp [x] H1 (fun v H2 => Same H1 H2 ∧ ∃ a b, TvAt X.K H2 3 v (twoI a b)) E0)
    (hR : ∀ x ∈ xs, ∀ H' s' u, Inv X pins σ H' s' → Same H00 H' → RelV x u → R (.ok (.ret u)) s') :
    ∀ (r j : Nat) (s : Shared), xs.length - j = r → j ≤ xs.length → MxAt X pins σ H00 xs l S it j s → codeAny (model X.prog X.w) X.A (.builtin "max.loop" ⟨[.ref it, .ref f, .ref S], []⟩) R s := by
  have hname : (toString "max" ++ toString ".loop" : String) = "max.loop" := by decide
  have stat : ∀ {H' : Hp}, H' it = none → FpOk X pins H' it := fun hn => ⟨hn, f2.2⟩
  intro r
  induction r with
  | zero =>
    intro j s hr hj ⟨H', vb, kb, a, c, I, sm, hS, hvb, tv, st, hn⟩
    obtain ⟨z, its, n, rv, hl, e⟩ := I.lstM hS
    obtain ⟨lits, rl, hli, _⟩ := I.list (Same.seq sm hs)
    have ll := rl.length
    refine codeAny_builtin PySem.F.entry_max_loop ?_
    rw [Around.under_plainId PySem.F.plain_max_loop _]
    obtain ⟨u1, u2, rfl, r1, r2⟩ := vals2 rv
    show wpAny _ X.A.in1 (seqItems? (.ref S) >>= _) _ _ s
    refine wpAny_bind (wpAny_seqItems e rfl ?_)
    show wpAny _ X.A.in1 (tryCatch (pyNext (.ref it)) _ >>= _) _ _ s
    obtain ⟨f0, f1, f2', f3, f4, f5⟩ := stat hn
    refine wpAny_bind (wpAny_tryCatch (wpAny_pyNext_list_end hh st hli.isList (by simp; omega) fun h' eb => ?_))
    have I1 : Inv X pins σ H' { s with heap := h' } := I.turned (t' := s.toks) (fun b o hb e => eb b o hb e) f0 f1 f3 f4 f5
    obtain ⟨z1, its1, n', rv1, hl1, e1⟩ := I1.lstM hS
    show wpAny _ X.A.in1 (updateSeq S (fun _ => #[]) >>= _) _ _ _
    refine wpAny_bind ?_
    refine wpAny_updateSeq e1 rfl (wpAny_bind (wpAny_letGo (wpAny_pure ?_))) (by rw [List.size_toArray]; omega) (Nat.zero_le _)
    have I2 := I1.lset (f := fun _ => #[]) (its' := []) (ys := []) (t' := s.toks) hS e1 rfl .nil (Nat.zero_le _)
    exact hR vb hvb _ _ u1 I2 (same_updo sm n1) r1
  | succ r ih =>
    intro j s hr hj ⟨H', vb, kb, a, c, I, sm, hS, hvb, tv, st, hn⟩
    obtain ⟨z, its, n, rv, hl, e⟩ := I.lstM hS
    obtain ⟨lits, rl, hli, _⟩ := I.list (Same.seq sm hs)
    have ll := rl.length
    have hlt : j < xs.length := by omega
    have hxj : xs[j]? = some xs[j] := List.getElem?_eq_getElem hlt
    obtain ⟨u, hu, ru⟩ := rl.get hxj
    refine codeAny_builtin PySem.F.entry_max_loop ?_
    rw [Around.under_plainId PySem.F.plain_max_loop _]
    obtain ⟨u1, u2, rfl, r1, r2⟩ := vals2 rv
    show wpAny _ X.A.in1 (seqItems? (.ref S) >>= _) _ _ s
    refine wpAny_bind (wpAny_seqItems e rfl ?_)
    show wpAny _ X.A.in1 (tryCatch (pyNext (.ref it)) _ >>= _) _ _ s
    obtain ⟨f0, f1, f2', f3, f4, f5⟩ := stat hn
    refine wpAny_bind (wpAny_tryCatch (wpAny_pyNext_list_item st hli.isList (x := u) (by simpa using hu) fun h' st' sbut => ?_))
    have I1 : Inv X pins σ H' { s with heap := h' } := I.turned (t' := s.toks) (fun b o hb e => (sbut.2 b hb).trans e) f0 f1 f3 f4 f5
    show wpAny _ X.A.in1 (tryCatch (holding [u] (call (.ref f) [u])) _ >>= _) _ _ _
    refine wpAny_bind (wpAny_tryCatch (wpAny_holding (mx_call F b sb I1 (stat hn) st' ru (turn _ (List.getElem_mem hlt) H' sm) fun kx s2 H2 v a2 c2 I2 rk sm2 tv2 st2 hn2 => ?_)))
    show wpAny _ X.A.in1 (tryCatch (holding [u, kx] (richCompare .Gt kx u2 >>= _)) _ >>= _) _ _ _
    have hS2 := sm2 _ _ hS
    obtain ⟨z2, its2, n2, rv2, hl2, e2⟩ := I2.lstM hS2
    obtain ⟨as, rd1⟩ := Dp.reads I2 _ _ _ tv2.data.1 rk
    obtain ⟨bs, rd2⟩ := Dp.reads I2 _ _ _ (tv.same sm2).data.1 r2
    have hu2 : X.A.in1.units + 64 < cLine := sb.room.units
    refine wpAny_bind (wpAny_tryCatch (wpAny_holding (wpAny_bind (PySem.W.rcGt_alike _ _ _ s2 kx u2 as bs rd1 rd2 (by simp [twoI, tvD, tvDL, PySem.W.alike, PySem.W.alikeAll]) (by simp [twoI, tvD]) (by
      have := tv2.data.2
      omega) _ _ _ _ ?_))))
    refine wpAny_bind (wpAny_holding (wpAny_truthy_bool ?_))
    refine wpAny_bind (wpAny_letGo (wpAny_pure ?_))
    generalize PySem.W.dataLt _ _ = bt
    cases bt with
    | true =>
      simp only [if_true]
      refine wpAny_bind ?_
      refine wpAny_updateSeq e2 rfl (wpAny_bind (wpAny_letGo ?_)) (by rw [List.size_toArray]; omega) (show (2 : Nat) ≤ sizeLine + 1 by omega)
      rw [hname]
      have I3 := I2.lset (f := fun _ => #[u, kx]) (its' := [u, kx]) (ys := [xs[j], v]) (t' := s2.toks) hS2 e2 rfl (.cons ru (.cons rk .nil)) (show (2 : Nat) ≤ sizeLine from sz (Nat.le_of_ble_eq_true rfl))
      refine wpAny_pure ⟨plainId_quiet PySem.F.plain_max_loop _, ih (j + 1) _ (by omega) hlt ⟨_, _, v, a2, c2, I3, same_updo (sm.trans sm2) n1, upd_same, List.getElem_mem hlt, tv2.mono fun b xs q => sqT_lst hS2 q, ?_, ?_⟩⟩
      · have hne : S ≠ it := fun z => by rw [z, hn2] at hS2; cases hS2
        exact st2.at fun o' e' => (Heap.get?_update_other _ _ hne).trans e'
      · have hne : it ≠ S := fun z => by rw [← z, hn2] at hS2; cases hS2
        rw [upd_ne hne]
        exact hn2
    | false =>
      simp only [Bool.false_eq_true, if_false]
      refine wpAny_bind (wpAny_letGo ?_)
      rw [hname]
      exact wpAny_pure ⟨plainId_quiet PySem.F.plain_max_loop _, ih (j + 1) _ (by omega) hlt ⟨H2, vb, kb, a, c, I2, sm.trans sm2, hS2, hvb, tv.same sm2, st2, hn2⟩⟩
end
/-- what is asked, and what comes -/
def rMaxOwn (K : PySem.W.Frag) (sp : Sp) : List V → Hp → VK → Prop := fun us H Q => ∃ (l : Addr) (xs : List V), us = [.ref l] ∧ SqL K H l xs ∧ xs ≠ [] ∧
  (∀ x ∈ xs, ∀ H1, Same H H1 → sp [x] H1 (fun v H2 => Same H1 H2 ∧ ∃ a b, TvAt K H2 3 v (twoI a b)) E0) ∧ ∀ x ∈ xs, ∀ H', Same H H' → Q x H'
def tMaxOwn (K : PySem.W.Frag) (sp : Sp) (t : TA) : TE := fun σ H Q => t σ H fun us H1 => rMaxOwn K sp us H1 Q
section
variable {X : Cx}
theorem max_own {pins : List (Addr × Obj)} {σ : L2.St} {H : Hp} {s : Shared} {Q : VK} {f : Addr} {fd : FuncData} {ps : List Str} {sp : Sp} {k : Nat} (hc : X.calm = true) (F : FnOk X.prog X.w X.K X.mg X.base CX0 k f fd ps sp) (b : Binds X.K fd ps []) (hr : Room (k + 1) X.A) {us : List Value} {vs : List V}
    (I : Inv X pins σ H s) (r : Vals vs us) (h : rMaxOwn X.K sp vs H Q) : wpAny (model X.prog X.w) X.A (call (.builtin "max") us [(Str.ofString "key", .ref f)]) (EP X pins σ Q) X.xe s := by
  have hname : (toString "max" ++ toString ".loop" : String) = "max.loop" := by decide
  obtain ⟨l, xs, rfl, hs, hne, turn, q⟩ := h
  obtain rfl := Vals.ref1 r
  obtain ⟨its, rv, hl, hz⟩ := I.list hs
  have lx := rv.length
  have hh : X.A.in1.handled = none := I.ok.hd hc
  have sb : L2.Sub X k X.A.in1 := L2.Sub.in1 (⟨hr, rfl⟩ : L2.Sub X (k + 1) X.A)
  have hpos : 0 < xs.length := List.length_pos_iff.mpr hne
  refine PyProof.Rows.kmk_tree PySem.F.kind_max PySem.F.plain_max PySem.F.entry_max (PyProof.Rows.kmk_max_key _ _) ?_
  show wpAny _ X.A.in1 (Builtin.Builtins.bindParams "max" ["key", "default"] 0 ⟨[], [(Str.ofString "key", .ref f)]⟩ >>= _) _ _ s
  refine wpAny_bind (wpAny_of_eq (show Builtin.Builtins.bindParams "max" ["key", "default"] 0 ⟨[], [(Str.ofString "key", .ref f)]⟩ = pure [some (.ref f), none] from rfl) ?_)
  refine wpAny_bind (wpAny_pure ?_)
  refine wpAny_bind (wpAny_pyIter_list hl.isList ?_)
  refine wpAny_bind (wpAny_newList ?_ (Nat.zero_le _))
  rw [hname]
  have I1 : Inv X pins σ H { s with heap := s.heap.push { cls := .type "list_iterator", data := .fields #[.ref l, .int 0 0] } } := I.kept (t' := s.toks) fun b u e => Heap.get?_push_of_some _ e
  have I2 := I1.lnew (its := []) (ys := []) (t' := s.toks) .nil (Nat.zero_le _)
  have fr0 : H s.heap.objs.size = none := I.fresh
  have frS := I1.fresh
  have gI : (s.heap.push { cls := .type "list_iterator", data := .fields #[.ref l, .int 0 0] }).get? s.heap.objs.size = some { cls := .type "list_iterator", data := .fields #[.ref l, .int 0 0] } := Heap.get?_push_size _ rfl
  have st0 : (s.heap.push { cls := .type "list_iterator", data := .fields #[.ref l, .int 0 0] }).IsListIter s.heap.objs.size l 0 := ⟨_, gI, rfl, rfl⟩
  have gt : s.heap.objs.size < (s.heap.push { cls := .type "list_iterator", data := .fields #[.ref l, .int 0 0] }).objs.size := Heap.lt_size gI
  generalize hit : s.heap.objs.size = it at *
  generalize hSS : (s.heap.push { cls := .type "list_iterator", data := .fields #[.ref l, .int 0 0] }).objs.size = S at *
  have f2 : FpOk X pins H it := by
    rw [← hit]
    exact I.fpOk (Nat.le_refl _) (by rw [hit]; exact fr0)
  have nSi : S ≠ it := Nat.ne_of_gt gt
  have st1 := st0.at (h' := (s.heap.push { cls := .type "list_iterator", data := .fields #[.ref l, .int 0 0] }).push { cls := .type "list", data := .seq (([] : List Value).toArray) 0 }) fun o e => Heap.get?_push_of_some _ e
  have hit2 : upd H S (.lst []) it = none := by
    rw [upd_ne nSi.symm]
    exact fr0
  have sm0 : Same H (upd H S (.lst [])) := same_updo (same_refl _) frS
  have stat : ∀ {H' : Hp}, H' it = none → FpOk X pins H' it := fun hn => ⟨hn, f2.2⟩
  refine wpAny_pure ⟨plainId_quiet PySem.F.plain_max_loop _, ?_⟩
  -- the first
  have hx0 : xs[0]? = some xs[0] := List.getElem?_eq_getElem hpos
  obtain ⟨its2, rv2, hl2, hz2⟩ := I2.list (Same.seq sm0 hs)
  obtain ⟨u, hu, ru⟩ := rv2.get hx0
  obtain ⟨z3, its3, n3, rv3, hl3, e3⟩ := I2.lstM upd_same
  refine codeAny_builtin PySem.F.entry_max_loop ?_
  rw [Around.under_plainId PySem.F.plain_max_loop _]
  obtain rfl : its3 = [] := List.length_eq_zero_iff.mp hl3.symm
  show wpAny _ X.A.in1 (seqItems? (.ref S) >>= _) _ _ _
  refine wpAny_bind (wpAny_seqItems e3 rfl ?_)
  show wpAny _ X.A.in1 (tryCatch (pyNext (.ref it)) _ >>= _) _ _ _
  obtain ⟨f0, f1, f2', f3, f4, f5⟩ := stat hit2
  refine wpAny_bind (wpAny_tryCatch (wpAny_pyNext_list_item st1 hl2.isList (x := u) (by simpa using hu) fun h' st' sbut => ?_))
  have I4 := I2.turned (h' := h') (t' := s.toks) (fun b o hb e => (sbut.2 b hb).trans e) f0 f1 f3 f4 f5
  show wpAny _ X.A.in1 (tryCatch (holding [u] (call (.ref f) [u])) _ >>= _) _ _ _
  refine wpAny_bind (wpAny_tryCatch (wpAny_holding (mx_call F b sb I4 (stat hit2) st' ru (turn _ (List.getElem_mem hpos) _ sm0) fun kx s2 H2 v a2 c2 I5 rk sm2 tv2 st2 hn2 => ?_)))
  have hS2 := sm2 _ _ upd_same
  obtain ⟨z2, its4, n2, rv4, hl4, e2⟩ := I5.lstM hS2
  show wpAny _ X.A.in1 (updateSeq S (fun _ => #[u, kx]) >>= _) _ _ _
  refine wpAny_bind ?_
  refine wpAny_updateSeq e2 rfl ?_ (by rw [List.size_toArray]; omega) (show (2 : Nat) ≤ sizeLine + 1 by exact Nat.le_succ_of_le (sz (Nat.le_of_ble_eq_true rfl)))
  rw [hname]
  have I6 := I5.lset (f := fun _ => #[u, kx]) (its' := [u, kx]) (ys := [xs[0], v]) (t' := s2.toks) hS2 e2 rfl (.cons ru (.cons rk .nil)) (show (2 : Nat) ≤ sizeLine from sz (Nat.le_of_ble_eq_true rfl))
  refine wpAny_pure ⟨plainId_quiet PySem.F.plain_max_loop _, mx_loop (H := H) (S := S) (xs := xs) hh F b sb f2 hs frS turn (fun x hx H' s' u' Ie sme re => ⟨x, H', Ie, re, q x hx H' sme⟩) _ 1 _ rfl hpos ⟨_, _, v, a2, c2, I6, same_updo (sm0.trans sm2) frS, upd_same, List.getElem_mem hpos, tv2.mono fun b xs q => sqT_lst hS2 q, ?_, ?_⟩⟩
  · have hne : S ≠ it := nSi
    exact st2.at fun o' e' => (Heap.get?_update_other _ _ hne).trans e'
  · rw [upd_ne nSi.symm]
    exact hn2
theorem pe_maxOwn {j k : Nat} {x : Str} {ps : List Str} {sp : Sp} {e : Expr} {ta : TA} {p p2 pos kpos : Pos} (C : Has X.prog X.w X.K X.mg X.base k x ps sp) (hr : Room j X.A) (hc : X.calm = true) (hg : Gl X "max") (hm : X.mg "max" = none) (ha : PA X [e] ta) (hg2 : Gl X x := by rfl) (hk : k + 1 ≤ j := by decide) (hdb2 : (x == ("__debug__" : Str)) = false := by decide)
    (he : backTo pos (starEach [e] X.env) = (false, eval e X.env) :: backTo pos (starEach [] X.env) := by rfl) (hpl : (backTo pos (starEach [e] X.env)).any (·.1) = false := by rfl) :
    PE X (.Call (.Name "max" p) [e] [⟨some "key", .Name x p2, kpos⟩] pos) (tMaxOwn X.K sp ta) := by
  obtain ⟨f, fd, F, b, kp, m⟩ := C.ex
  refine ⟨fun pins s σ H Q I h => ?_⟩
  refine wpAny_Call_Name_kw (ld_blt I hg hm (by decide +kernel : bootBuiltins "max" = some (.builtin "max")) ?_ (by decide) (by decide))
  have hk2 : PK X [⟨some "key", .Name x p2, kpos⟩] _ := pk_cons (pe_glob (v := .ref f) hg2 m rfl hdb2) pk_nil
  refine PyProof.Rows.callWith_kw (thn (ha.run pos pins s σ H _ I h) fun us s1 ⟨vs, H1, I1, r1, q1⟩ => thn (hk2.run pos pins s1 σ H1 (fun zs H2 => zs = [.ref f] ∧ H2 = H1) I1 ⟨rfl, rfl⟩) fun ws s2 ⟨zs, H2, I2, r2, q2, q3⟩ => ?_) he hpl (by rfl) (by rfl)
  subst q2
  subst q3
  obtain ⟨w1, rfl, e1⟩ := vals1 r2
  obtain rfl : w1 = Value.ref f := e1
  exact max_own hc F b (hr.mono hk) I2 r1 q1
end
theorem x_maxOwn {K : PySem.W.Frag} {sp : Sp} {t : TA} {σ : L2.St} {H : Hp} {Q : VK} (q : t σ H fun us H1 => rMaxOwn K sp us H1 Q) : tMaxOwn K sp t σ H Q := q
end Gs
namespace Gs
open PySem PySem.Spec PyProof.Rows L2 TL
/-! ### the texts of patterns, as lists of codes -/
def figT : Pt → List Nat
  | .i n => if n < 0 then 126 :: numL (0 - n).toNat else numL n.toNat
  | .s z => tl z
  | .t _ _ => []
/-- the row of a name with so many parts -/
def isRow (nm : Str) (many : Nat) (o : Op) : Bool := decide (o.n = nm ∧ many = if o.s = ("ahead" : Str) then 1 else 2)
def rowOf (R : List Op) (nm : Str) (many : Nat) : Option Op := R.find? (isRow nm many)
/-- operators of one level between stand on one side -/
def SideOk (R : List Op) : Prop := ∀ o ∈ R, ∀ e ∈ R, o.s ≠ ("ahead" : Str) → e.s ≠ ("ahead" : Str) → o.l = e.l → o.s = e.s
def par (b : Bool) (l : List Nat) : List Nat := if b = true then 40 :: (l ++ [41]) else l
mutual
/-- a pattern's text where operators to this level stand without brackets -/
def formT (R : List Op) : Int → Pt → List Nat
  | _, .i n => figT (.i n)
  | _, .s z => figT (.s z)
  | top, .t nm ps => match rowOf R nm ps.length with
    | none => tl nm ++ 40 :: (joinL [44, 32] (formL R ps) ++ [41])
    | some o => match ps with
      | [x] => par (decide (o.l > top)) (tl nm ++ 32 :: formT R (o.l - 1) x)
      | [x, y] => par (decide (o.l > top)) (formT R (if o.s = ("left" : Str) then o.l else o.l - 1) x ++ 32 :: (tl nm ++ 32 :: formT R (if o.s = ("right" : Str) then o.l else o.l - 1) y))
      | _ => []
def formL (R : List Op) : List Pt → List (List Nat)
  | [] => []
  | x :: r => formT R 9 x :: formL R r
end
theorem formL_map (R : List Op) : ∀ ps : List Pt, formL R ps = ps.map (formT R 9)
  | [] => rfl
  | x :: r => by rw [formL, List.map_cons, formL_map R r]
theorem rowOf_some {R : List Op} {nm : Str} {many : Nat} {o : Op} (h : rowOf R nm many = some o) : o ∈ R ∧ o.n = nm ∧ many = if o.s = ("ahead" : Str) then 1 else 2 := by
  have h' : R.find? (isRow nm many) = some o := h
  have h2 := List.find?_some h'
  unfold isRow at h2
  exact ⟨List.mem_of_find?_eq_some h', (of_decide_eq_true h2).1, (of_decide_eq_true h2).2⟩
theorem formT_none {R : List Op} {nm : Str} {ps : List Pt} (h : rowOf R nm ps.length = none) (top : Int) : formT R top (.t nm ps) = tl nm ++ 40 :: (joinL [44, 32] (ps.map (formT R 9)) ++ [41]) := by
  rw [formT]
  simp only [h, formL_map]
theorem formT_one {R : List Op} {nm : Str} {x : Pt} {o : Op} (h : rowOf R nm 1 = some o) (top : Int) : formT R top (.t nm [x]) = par (decide (o.l > top)) (tl nm ++ 32 :: formT R (o.l - 1) x) := by
  have h' : rowOf R nm [x].length = some o := h
  rw [formT]
  simp only [h']
theorem formT_two {R : List Op} {nm : Str} {x y : Pt} {o : Op} (h : rowOf R nm 2 = some o) (top : Int) : formT R top (.t nm [x, y]) = par (decide (o.l > top)) (formT R (if o.s = ("left" : Str) then o.l else o.l - 1) x ++ 32 :: (tl nm ++ 32 :: formT R (if o.s = ("right" : Str) then o.l else o.l - 1) y)) := by
  have h' : rowOf R nm [x, y].length = some o := h
  rw [formT]
  simp only [h']
/-! how long a text may be -/
def Short (n : Nat) (l : List Nat) : Prop := l.length ≤ n
theorem par_len {b : Bool} {l : List Nat} : (par b l).length ≤ l.length + 2 := by
  unfold par
  split
  · simp
  · omega
theorem joinL_len (sep : List Nat) : ∀ xs : List (List Nat), (joinL sep xs).length ≤ (xs.map List.length).sum + sep.length * xs.length
  | [] => by simp [joinL]
  | [p] => by simp [joinL]
  | p :: q :: r => by
    have h := joinL_len sep (q :: r)
    rw [joinL, List.length_append, List.length_append, List.map_cons, List.sum_cons, List.length_cons, Nat.mul_succ]
    omega
theorem figT_len {p : Pt} (h : okT (fun z => z.length ≤ 12) (fun z => z.length ≤ 12) p) : (figT p).length ≤ 61 := by
  match p with
  | .i n =>
    rw [okT] at h
    rw [figT]
    split
    · have := numL_len (k := 60) (n := (0 - n).toNat) (by decide) (by omega)
      rw [List.length_cons]
      omega
    · have := numL_len (k := 60) (n := n.toNat) (by decide) (by omega)
      omega
  | .s z =>
    rw [okT] at h
    rw [figT, tl_lenP]
    omega
  | .t _ _ => simp [figT]
mutual
theorem formT_len {R : List Op} : ∀ (top : Int) (p : Pt), okT (fun z => z.length ≤ 12) (fun z => z.length ≤ 12) p → (formT R top p).length ≤ 80 * szT p
  | _, .i n, h => by
    rw [formT, szT]
    have := figT_len h
    omega
  | _, .s z, h => by
    rw [formT, szT]
    have := figT_len h
    omega
  | top, .t nm ps, h => by
    rw [okT] at h
    obtain ⟨hn, h0, h4, hl⟩ := h
    have hn' : (tl nm).length ≤ 12 := by rw [tl_lenP]; exact hn
    rw [szT]
    cases e : rowOf R nm ps.length with
    | none =>
      rw [formT_none e]
      have h1 := formL_len (R := R) ps hl
      have h2 := joinL_len [44, 32] (ps.map (formT R 9))
      rw [List.length_map] at h2
      rw [← formL_map] at h2
      rw [← formL_map, List.length_append, List.length_cons, List.length_append, List.length_singleton]
      have h3 : ([44, 32] : List Nat).length = 2 := rfl
      rw [h3] at h2
      omega
    | some o =>
      obtain ⟨_, _, hm⟩ := rowOf_some e
      match ps, e, hm, hl with
      | [], _, hm, _ => exact absurd hm (by split <;> simp)
      | [x], e, _, hl =>
        rw [okL] at hl
        rw [formT_one e]
        have := formT_len (R := R) (o.l - 1) x hl.1
        refine Nat.le_trans par_len ?_
        rw [List.length_append, List.length_cons, szL, szL]
        omega
      | [x, y], e, _, hl =>
        rw [okL, okL] at hl
        rw [formT_two e]
        have h1 := formT_len (R := R) (if o.s = ("left" : Str) then o.l else o.l - 1) x hl.1
        have h2 := formT_len (R := R) (if o.s = ("right" : Str) then o.l else o.l - 1) y hl.2.1
        refine Nat.le_trans par_len ?_
        rw [List.length_append, List.length_cons, List.length_append, List.length_cons, szL, szL, szL]
        omega
      | _ :: _ :: _ :: _, _, hm, _ => exact absurd hm (by split <;> simp)
theorem formL_len {R : List Op} : ∀ ps : List Pt, okL (fun z => z.length ≤ 12) (fun z => z.length ≤ 12) ps → ((formL R ps).map List.length).sum ≤ 80 * szL ps
  | [], _ => by simp [formL]
  | x :: r, h => by
    rw [okL] at h
    have h1 := formT_len (R := R) 9 x h.1
    have h2 := formL_len (R := R) r h.2
    rw [formL, List.map_cons, List.sum_cons, szL]
    omega
end
/-! the plain text tells the pattern -/
theorem szL_mem20 : ∀ {ps : List Pt} {u : Pt}, u ∈ ps → szT u ≤ szL ps
  | [], _, h => by cases h
  | x :: r, u, h => by
    rw [szL]
    rcases List.mem_cons.mp h with rfl | h
    · omega
    · have := szL_mem20 h
      omega
end Gs
namespace Gs
open PySem PySem.Spec PyProof.Rows L2
/-! ### lists of things as data -/
end Gs
namespace Gs
open PySem PySem.Spec PyProof.Rows L2 TL
/-! ### how a pattern may be spelt in pieces, by a table of operators; what a reading by levels needs -/
def lbO (o : Op) : Int := if o.s = ("left" : Str) then o.l else o.l - 1
def rbO (o : Op) : Int := if o.s = ("right" : Str) then o.l else o.l - 1
/-- a word that stands for itself: not kept, no operator -/
def Wd (R : List Op) (z : Str) : Prop := (∃ c t, tl z = c :: t ∧ c ∈ sS) ∧ z ∉ keptL ∧ rowOf R z 1 = none ∧ rowOf R z 2 = none ∧ z.length ≤ 12
def Unk (R : List Op) (z : Str) : Prop := (∃ c t, tl z = c :: t ∧ c ∈ sC) ∧ rowOf R z 1 = none ∧ z.length ≤ 12
def Num (R : List Op) (n : Int) (z : Str) : Prop := tl z = figT (.i n) ∧ n.natAbs < 10 ^ 60 ∧ rowOf R z 1 = none
mutual
/-- one part, no operator between at its top; d: how deep the reading goes, lev: its level -/
inductive Prim (R : List Op) : Nat → Int → Pt → List Str → Prop
  | num {d : Nat} {n : Int} {z : Str} : Num R n z → Prim R (d + 1) 0 (.i n) [z]
  | unk {d : Nat} {z : Str} : Unk R z → Prim R (d + 1) 0 (.s z) [z]
  | word {d : Nat} {z : Str} : Wd R z → Prim R (d + 1) 0 (.s z) [z]
  | comp {d : Nat} {nm : Str} {ps : List Pt} {ts : List Str} : Wd R nm → 0 < ps.length → ps.length ≤ 4 → SptL R d ps ts → Prim R (d + 1) 0 (.t nm ps) (nm :: ("(" : Str) :: ts)
  | ahead {d : Nat} {nm : Str} {o : Op} {lev : Int} {x : Pt} {ts : List Str} : rowOf R nm 1 = some o → Spt R d lev x ts → lev ≤ o.l - 1 → Prim R (d + 1) o.l (.t nm [x]) (nm :: ts)
  | paren {d : Nat} {lev : Int} {p : Pt} {ts : List Str} : Spt R d lev p ts → lev ≤ 9 → Prim R (d + 1) 0 p (("(" : Str) :: (ts ++ [(")" : Str)]))
/-- a part and what operators between join to it -/
inductive Spt (R : List Op) : Nat → Int → Pt → List Str → Prop
  | mk {d : Nat} {la lev : Int} {a p : Pt} {ta ts : List Str} : Prim R (d + 1) la a ta → Stp R d la a lev p ts → Spt R (d + 1) lev p (ta ++ ts)
/-- steps by operators between, from a to p -/
inductive Stp (R : List Op) : Nat → Int → Pt → Int → Pt → List Str → Prop
  | nil {d : Nat} {lev : Int} {p : Pt} : Stp R d lev p lev p []
  | cons {d : Nat} {nm : Str} {o : Op} {la le lev : Int} {a b p : Pt} {tb ts : List Str} : rowOf R nm 2 = some o → la ≤ lbO o → Spt R d le b tb → le ≤ rbO o → Stp R d o.l (.t nm [a, b]) lev p ts → Stp R d la a lev p (nm :: (tb ++ ts))
/-- parts in brackets, to the closing one -/
inductive SptL (R : List Op) : Nat → List Pt → List Str → Prop
  | one {d : Nat} {lev : Int} {p : Pt} {ts : List Str} : Spt R d lev p ts → lev ≤ 9 → SptL R d [p] (ts ++ [(")" : Str)])
  | cons {d : Nat} {lev : Int} {p : Pt} {ps : List Pt} {ts us : List Str} : Spt R d lev p ts → lev ≤ 9 → SptL R d ps us → SptL R d (p :: ps) (ts ++ ("," : Str) :: us)
end
/-- what may stand behind -/
def Fo (R : List Op) (most : Int) (rest : List Str) : Prop := rest.head? ≠ some ("(" : Str) ∧ ∀ nm o, rest.head? = some nm → rowOf R nm 2 = some o → most < o.l
theorem Fo.less {R : List Op} {m m' : Int} {r : List Str} (h : Fo R m r) (hm : m' ≤ m) : Fo R m' r := ⟨h.1, fun nm o h1 h2 => by have := h.2 nm o h1 h2; omega⟩
theorem rbO_le (o : Op) : rbO o ≤ o.l := by unfold rbO; split <;> omega
theorem lbO_le (o : Op) : lbO o ≤ o.l := by unfold lbO; split <;> omega
theorem row2_side {R : List Op} {nm : Str} {o : Op} (h : rowOf R nm 2 = some o) : o ∈ R ∧ o.s ≠ ("ahead" : Str) := by
  obtain ⟨h1, _, h3⟩ := rowOf_some h
  refine ⟨h1, fun z => ?_⟩
  rw [if_pos z] at h3
  omega
/-- the levels go up -/
theorem Stp.up {R : List Op} : ∀ {d : Nat} {la lev : Int} {a p : Pt} {ts : List Str}, Stp R d la a lev p ts → la ≤ lev
  | _, _, _, _, _, _, .nil => by omega
  | _, _, _, _, _, _, .cons (o := o) _ h2 _ _ h5 => by
    have := Stp.up h5
    have := lbO_le o
    omega
/-- what stands behind a step's right part, if the next step is one of an operator -/
theorem fo_step {R : List Op} (sd : SideOk R) {o : Op} {nm : Str} {d : Nat} {lev : Int} {a p : Pt} {ts rest : List Str} (ho : rowOf R nm 2 = some o) (h : Stp R d o.l a lev p ts) (f : Fo R lev rest) (br : ∀ nm o, rowOf R nm 2 = some o → nm ≠ ("(" : Str)) : Fo R (rbO o) (ts ++ rest) := by
  cases h with
  | nil => exact f.less (rbO_le o)
  | @cons _ nm' o' _ _ _ _ _ _ tb ts' h1 h2 h3 h4 h5 =>
    refine ⟨fun z => br nm' o' h1 (Option.some.inj z), fun nm2 o2 e1 e2 => ?_⟩
    have e3 : nm' = nm2 := Option.some.inj e1
    subst e3
    rw [h1] at e2
    cases e2
    have l1 := rbO_le o
    have l2 := lbO_le o'
    have s1 := row2_side ho
    have s2 := row2_side h1
    rcases Int.lt_or_le (rbO o) o'.l with hlt | hge
    · exact hlt
    · exfalso
      have e4 : o.l = o'.l := by omega
      have e5 := sd o s1.1 o' s2.1 s1.2 s2.2 e4
      have e6 : rbO o = o.l := by omega
      have e7 : lbO o' = o'.l := by omega
      unfold rbO at e6
      unfold lbO at e7
      by_cases c1 : o.s = ("right" : Str)
      · rw [← e5, c1, if_neg (by decide +kernel)] at e7
        omega
      · rw [if_neg c1] at e6
        omega
theorem fo_prim {R : List Op} {d : Nat} {la lev : Int} {a p : Pt} {ts rest : List Str} (h : Stp R d la a lev p ts) (f : Fo R lev rest) (br : ∀ nm o, rowOf R nm 2 = some o → nm ≠ ("(" : Str)) : Fo R (la - 1) (ts ++ rest) := by
  cases h with
  | nil => exact f.less (by omega)
  | @cons _ nm' o' _ _ _ _ _ _ tb ts' h1 h2 h3 h4 h5 =>
    refine ⟨fun z => br nm' o' h1 (Option.some.inj z), fun nm2 o2 e1 e2 => ?_⟩
    have e3 : nm' = nm2 := Option.some.inj e1
    subst e3
    rw [h1] at e2
    cases e2
    have l2 := lbO_le o'
    omega
/-! the pieces of a pattern's text -/
def figS (n : Int) : Str := if n < 0 then ("~" : Str) ++ toString (0 - n) else Str.ofString (toString n)
def commas : List (List Str) → List Str
  | [] => [(")" : Str)]
  | [t] => t ++ [(")" : Str)]
  | t :: u :: r => t ++ ("," : Str) :: commas (u :: r)
mutual
/-- what the pieces of a pattern are to be, to be read again -/
def rdT (R : List Op) : Pt → Prop
  | .i n => n.natAbs < 10 ^ 60 ∧ rowOf R (figS n) 1 = none
  | .s z => Unk R z ∨ Wd R z
  | .t nm ps => 0 < ps.length ∧ ps.length ≤ 4 ∧ (rowOf R nm ps.length = none → Wd R nm) ∧ rdL R ps
def rdL (R : List Op) : List Pt → Prop
  | [] => True
  | x :: r => rdT R x ∧ rdL R r
end
end Gs
namespace Gs
open PySem PySem.Spec PyProof.Rows L2 TL
/-! ### len(set(texts)), however many -/
theorem onS_any (l : List Str) (x k : Str) : (once (l ++ [x])).any (· == k) = ((once l).any (· == k) || decide (k = x)) := by
  rw [once_more]
  have hx : ∀ b : Bool, (b || decide (k = x)) = (b || (x == k)) := fun b => by
    by_cases e : k = x
    · subst e
      simp
    · have : (x == k) = false := by simpa [beq_iff_eq] using fun g : x = k => e g.symm
      rw [this, decide_eq_false e]
  rw [hx]
  by_cases h : x ∈ once l
  · rw [if_pos h]
    by_cases e : (x == k) = true
    · rw [e, Bool.or_true]
      exact List.any_eq_true.mpr ⟨x, h, e⟩
    · rw [Bool.eq_false_iff.mpr e, Bool.or_false]
  · rw [if_neg h, List.any_append, List.any_cons, List.any_nil, Bool.or_false]
theorem onS_len (l : List Str) (x : Str) : (once (l ++ [x])).length = if (once l).any (· == x) = true then (once l).length else (once l).length + 1 := by
  rw [once_more]
  by_cases h : x ∈ once l
  · have g : (once l).any (· == x) = true := List.any_eq_true.mpr ⟨x, h, beq_self_eq_true x⟩
    rw [if_pos h, if_pos g]
  · rw [if_neg h, if_neg (fun g => by
      obtain ⟨y, hy, e⟩ := List.any_eq_true.mp g
      rw [beq_iff_eq.mp e] at hy
      exact h hy), List.length_append, List.length_singleton]
theorem onS_le : ∀ l : List Str, ∀ i, (once (l.take i)).length ≤ i
  | l, 0 => by rw [List.take_zero]; exact Nat.le_refl _
  | l, i + 1 => by
    have ih := onS_le l i
    cases e : l[i]? with
    | none =>
      have h : l.length ≤ i := List.getElem?_eq_none_iff.mp e
      rw [List.take_of_length_le (by omega)]
      rw [List.take_of_length_le h] at ih
      omega
    | some x =>
      rw [List.take_add_one, e]
      show (once (l.take i ++ [x])).length ≤ i + 1
      rw [onS_len]
      split <;> omega
abbrev OnS (l : List Str) : Str → Bool := fun k => (once l).any (· == k)
section
variable {pg : Program} {wd : World} {Ar : Around} {Rt : Result → Shared → Prop} {It : Addr} {fpr wrt : List Addr} {Gq : Array GenState → Array GenState → Prop} {nn : Nat} {Pq : Nat → Value → Prop} {Sq : Nat → Shared → Prop}
theorem set_turns (wk : WalksS pg wd Ar.in1 It fpr wrt Gq nn Pq Sq) (St : Addr) (far : St ∉ fpr) (ts : List Str) (hts : ts.length = nn) (room : nn + 1 < scanBound)
    (hv : ∀ j u, Pq j u → ∃ t, u = .str (ts.getD j Str.empty) t) :
    ∀ (left j : Nat) (sh : Shared), nn - j = left → j ≤ nn → Sq j sh → sh.heap.SetOf (PySem.strKind pg wd) St (OnS (ts.take j)) (once (ts.take j)).length →
      (∀ sh', Moved (St :: wrt) Gq sh sh' → sh'.heap.SetOf (PySem.strKind pg wd) St (OnS (ts.take nn)) (once (ts.take nn)).length → Rt (.ok (.ret .none)) sh') →
      codeAny (model pg wd) Ar (.builtin "set.update.loop" ⟨[.ref St, .ref It], []⟩) Rt sh := by
  have far2 : St ∉ wrt := fun g => far (wk.sub _ g)
  have more : ∀ c ∈ wrt, c ∈ St :: wrt := fun c g => List.mem_cons_of_mem _ g
  intro left
  induction left with
  | zero =>
    intro j sh e1 e2 e3 hold fin
    obtain rfl : j = nn := by omega
    apply codeAny_builtin PyProof.Rows.F.entry_set_update_loop; rw [Around.under_plainId PyProof.Rows.F.plain_set_update_loop _]
    show wpAny _ Ar.in1 (pyNext (.ref It) >>= _) _ _ sh
    refine wpAny_bind (wk.done sh _ _ e3 fun sh2 mv => ?_)
    show wpAny _ Ar.in1 (ret Value.none) _ _ sh2
    refine wpAny_pure (fin sh2 (mv.mono more) ?_)
    obtain ⟨ob, ents, ep, tb, at0, rest⟩ := hold
    exact ⟨ob, ents, ep, tb, mv.heap St _ far2 at0, rest⟩
  | succ left ih =>
    intro j sh e1 e2 e3 hold fin
    have lt : j < nn := by omega
    apply codeAny_builtin PyProof.Rows.F.entry_set_update_loop; rw [Around.under_plainId PyProof.Rows.F.plain_set_update_loop _]
    show wpAny _ Ar.in1 (pyNext (.ref It) >>= _) _ _ sh
    refine wpAny_bind (wk.item j sh _ _ lt e3 fun u sh2 pu e4 mv => ?_)
    obtain ⟨t, rfl⟩ := hv j u pu
    have hold2 : sh2.heap.SetOf (PySem.strKind pg wd) St (OnS (ts.take j)) (once (ts.take j)).length := by
      obtain ⟨ob, ents, ep, tb, at0, rest⟩ := hold
      exact ⟨ob, ents, ep, tb, mv.heap St _ far2 at0, rest⟩
    show wpAny _ Ar.in1 (holding [Value.str (ts.getD j Str.empty) t] (setAdd St (.str (ts.getD j Str.empty) t)) >>= _) _ _ sh2
    apply wpAny_bind; apply wpAny_holding; unfold setAdd; apply wpAny_holding
    refine wpAny_bind ((PySem.strKind pg wd).pyHash (k := ts.getD j Str.empty) (strKind_is _ _ _ _) ?_)
    have small := onS_le ts j
    refine wpAny_setAddHashed_of (knd := PySem.strKind pg wd) (s := { sh2 with toks := sh2.toks + 1 }) (strKind_is _ _ _ _) rfl hold2 (by omega) fun hp2 but now => ?_
    have ej : ts.take (j + 1) = ts.take j ++ [ts.getD j Str.empty] := by
      have : ts[j]? = some ts[j] := List.getElem?_eq_getElem (by omega)
      rw [List.take_add_one, List.getD_eq_getElem?_getD, this]
      rfl
    have hold3 : hp2.SetOf (PySem.strKind pg wd) St (OnS (ts.take (j + 1))) (once (ts.take (j + 1))).length := by
      rw [ej]
      exact SetOf_congr now (fun k => (onS_any _ _ k).symm) (onS_len _ _).symm
    refine wpAny_pure ⟨plainId_quiet PyProof.Rows.F.plain_set_update_loop _, ih (j + 1) _ (by omega) lt (wk.frame _ sh2 _ _ e4 (Nat.le_succ _) fun c hc o e => ?_) hold3 fun sh3 mv3 h3 => ?_⟩
    · rw [but.2 c (fun g : c = St => far (by rw [← g]; exact hc))]
      exact e
    · refine fin sh3 (Moved.trans wk.gtrans ((mv.mono more).then_heap (Nat.le_succ _) fun c o hc e => ?_) mv3) h3
      rw [but.2 c (fun g : c = St => hc (by rw [g]; exact List.mem_cons_self))]
      exact e
end
section
variable {pg : Program} {wd : World} {Ar : Around} {Er : Value → Shared → Prop} {sh : Shared}
def fresh0 (led : Bool) : Obj := { cls := .type "set", dict := none, data := .set #[] 0 (.fresh 0 0 led) }
set_option maxHeartbeats 4000000 in
theorem set_of_texts {src : Addr} {vals : Array Value} {ts : List Str} {Qt : Value → Shared → Prop} (calm : Ar.handled = none) (isl : sh.heap.IsList src vals) (are : PyProof.Rows.StrsAre vals.toList ts) (room : vals.size + 1 < scanBound)
    (fin : ∀ (hp : Heap) (tk : Nat), hp.SetOf (PySem.strKind pg wd) sh.heap.objs.size (OnS (ts.take vals.size)) (once (ts.take vals.size)).length → (∀ c o, c < sh.heap.objs.size → sh.heap.get? c = some o → hp.get? c = some o) → Qt (.ref sh.heap.objs.size) { sh with heap := hp, toks := tk }) :
    wpAny (model pg wd) Ar (call (.type "set") [.ref src]) Qt Er sh := by
  obtain ⟨k0, k1, mro0⟩ := PySem.F.called_set.mro
  have made0 := PySem.F.called_set.made
  have sub0 := PySem.F.called_set.sub
  apply wpAny_call; apply codeAny_of_tree
  show wpAny _ _ (callAny (.type "set") _) _ _ _
  refine wpAny_pure ⟨Code.quiet_builtin _ (by decide +kernel), codeAny_builtin (PySem.F.entry_type_call) ?_⟩
  rw [Around.under_plain (PySem.weight_type_call_type "set" [.ref src] []) rfl]
  have nt0 := PySem.F.called_set.notType
  have cc0 := PySem.F.called_set.canCreate
  have tc0 := PySem.F.typeCall_set_1 (.ref src)
  repeat any_goals first | assumption | wp_step
  refine codeAny_mono (PySem.code_set_new_1 (.ref src) (E := Er) (Q₁ := fun ob sh1 => ∃ led : Bool, ob = .ref sh.heap.objs.size ∧ sh1 = { sh with heap := sh.heap.push (fresh0 led) }) fun led => ⟨led, rfl, rfl⟩) fun out sh1 ho => ?_
  cases out with
  | error er => exact ho
  | ok flow =>
    cases flow with
    | ret ob =>
      obtain ⟨led, rfl, rfl⟩ := ho
      have here : (sh.heap.push (fresh0 led)).get? sh.heap.objs.size = some (fresh0 led) := Heap.get?_push_size _ rfl
      have isT : Shared.TypeIs { sh with heap := sh.heap.push (fresh0 led) } (.ref sh.heap.objs.size) "set" := ⟨_, here, rfl⟩
      have lk0 := PySem.F.called_set.init.lookup
      have bd0 := PySem.F.called_set.init.bind (.ref sh.heap.objs.size)
      repeat any_goals first | assumption | wp_step
      refine codeAny_mono (codeAny_call_builtin (R := wants (fun out2 sh2 => out2 = .none ∧ ∃ hp tk, sh2 = { sh with heap := hp, toks := tk } ∧ hp.SetOf (PySem.strKind pg wd) sh.heap.objs.size (OnS (ts.take vals.size)) (once (ts.take vals.size)).length ∧ (∀ c o, c < sh.heap.objs.size → sh.heap.get? c = some o → hp.get? c = some o)) Er) PySem.F.called_set.init.plain PySem.F.entry_set_init (PySem.check_set_init_1 isT ?_)) fun out2 sh2 ho2 => ?_
      · obtain ⟨ol, hol, hcl, nl, hdl⟩ := isl
        obtain ⟨ocls, odict, odata, oslots⟩ := ol
        simp only at hcl hdl
        subst hcl; subst hdl
        have at1 : (sh.heap.push (fresh0 led)).get? src = some { cls := .type "list", dict := odict, data := .seq vals nl, slots := oslots } := Heap.get?_push_of_some _ hol
        have sl0 := PySem.F.sub_list_set
        have sf0 := PySem.F.sub_list_frozenset
        have nd0 : (Value.type "list" == Value.type "dict") = false := by decide
        have isl1 : (sh.heap.push (fresh0 led)).IsList src vals := ⟨_, at1, rfl, nl, rfl⟩
        unfold Builtin.«set.__init__» noKeywords Builtin.Frozenset.updateFrom
        generalize held : pyIter = PI0
        wp_walk
        subst held
        apply wpAny_pyIter_list isl1; apply wpAny_bind; apply wpAny_runValue
        have below : src < sh.heap.objs.size := Heap.lt_size hol
        have calm3 : Ar.in1.in1.in1.handled = none := by simp [calm]
        have neq : src ≠ (sh.heap.push (fresh0 led)).objs.size := by
          rw [Heap.size_push]
          exact Nat.ne_of_lt (Nat.lt_succ_of_lt below)
        have far : sh.heap.objs.size ∉ [(sh.heap.push (fresh0 led)).objs.size, src] := fun g => by
          rcases List.mem_cons.mp g with g | g
          · rw [Heap.size_push] at g
            exact Nat.ne_of_lt (Nat.lt_succ_self _) g
          · exact Nat.ne_of_gt below (List.mem_singleton.mp g)
        have num : ts.length = vals.size := by rw [← StrsAre.len_eq are, Array.length_toList]
        have each : ∀ (j : Nat) (u : Value), vals[j]? = some u → ∃ t, u = .str (ts.getD j Str.empty) t := fun j u hu => SS.strs_at are j u (by rw [Array.getElem?_toList]; exact hu)
        refine set_turns ((Walks.list calm3 _ src neq vals).toS) sh.heap.objs.size far ts num room each (vals.size - 0) 0 _ (by omega) (Nat.zero_le _) ⟨⟨_, Heap.get?_push_size _ rfl, rfl, rfl⟩, (isl1.push _)⟩ ?hZ ?hE
        case hZ =>
          have again : ((sh.heap.push (fresh0 led)).push { cls := .type "list_iterator", data := .fields #[.ref src, .int 0 0] }).get? sh.heap.objs.size = some (fresh0 led) := Heap.get?_push_of_some _ here
          exact PyProof.Rows.SetOf_congr ((PyProof.Rows.setObjOf_fresh (knd := PySem.strKind pg wd) led).setOf again (by unfold scanBound; omega)) (fun _ => rfl) rfl
        case hE =>
          intro sh3 mv hold
          obtain ⟨hp3, gn3, dr3, tk3, os3⟩ := sh3
          have eg : gn3 = sh.gens := mv.gens
          have ed : dr3 = sh.drawn := mv.drawn
          have eo : os3 = sh.os := mv.os
          subst eg; subst ed; subst eo
          show wpAny _ _ _ _ _ _
          apply wpAny_pure
          show wpAny _ _ (ret Value.none) _ _ _
          refine wpAny_pure ⟨rfl, hp3, tk3, rfl, hold, fun c o hc e => ?_⟩
          have c2 : c ≠ (sh.heap.push (fresh0 led)).objs.size := by
            rw [Heap.size_push]
            omega
          refine mv.heap c o ?_ (Heap.get?_push_of_some _ (Heap.get?_push_of_some _ e))
          simp only [List.mem_cons, List.not_mem_nil, or_false, not_or]
          exact ⟨Nat.ne_of_lt hc, c2⟩
      · cases out2 with
        | error er => exact ho2
        | ok flow2 =>
          cases flow2 with
          | ret u =>
            obtain ⟨rfl, hp, tk, rfl, hold, kept⟩ := ho2
            repeat any_goals first | assumption | wp_step
            exact fin _ _ hold kept
          | _ => exact ho2.elim
    | _ => exact ho.elim
end
section
variable {X : Cx} {a : PySem.Expr} {ta : TE} {p p2 q pos : Pos}
def tLenTx (K : PySem.W.Frag) (ta : TE) : TE := fun σ H Q => ta σ H fun x H1 => ∃ (l : Addr) (ts : List Str), x = .ref l ∧ SqL K H1 l (ts.map V.str) ∧ ts.length ≤ 4000 ∧ Q (.int ((once ts).length : Nat)) H1
theorem pe_lenTx (hg : Gl X "len") (hm : X.mg "len" = none) (hg2 : Gl X "set") (hm2 : X.mg "set" = none) (ha : PE X a ta) (hc : X.calm = true := by rfl)
    (na : starEach [a] X.env = (false, eval a X.env) :: starEach [] X.env := by rfl) : PE X (.Call (.Name "len" p) [.Call (.Name "set" p2) [a] [] q] [] pos) (tLenTx X.K ta) := by
  refine ⟨fun pins s σ H Q I h => ?_⟩
  refine Call_ (ld_blt I hg hm boot_len (?_))
  refine PyProof.Rows.callWith_builtin1 (PyProof.Rows.args_cons ?_ (rfl)) rfl (rfl)
  refine Call_ (ld_blt I hg2 hm2 boot_set (?_))
  refine PyProof.Rows.callWith_type1 (PyProof.Rows.args_cons (thn (ha.run pins s σ H _ I h) fun v sa ⟨x, Ha, Ia, ra, qa⟩ => PyProof.Rows.args_nil ?_) na) na rfl
  obtain ⟨l, ts, rfl, hq, hl, qa⟩ := qa
  cases ra
  obtain ⟨its, r, pl, hz⟩ := Ia.list hq
  have num : its.toArray.size = ts.length := by rw [List.size_toArray, ← r.length, List.length_map]
  refine set_of_texts (Ia.ok.hd hc) pl.isList (by simpa using strsAre_of r) (by rw [num]; unfold scanBound; omega) fun hp tk hold kept => ?_
  apply PyProof.Rows.args_nil
  rw [num, List.take_length] at hold
  have few : (once ts).length ≤ ts.length := by
    have := onS_le ts ts.length
    rw [List.take_length] at this
    exact this
  obtain ⟨ob, ents, ep, tb, at0, hex, hd, _, _, _, hf, hn⟩ := hold
  have I2 : Inv X pins σ Ha { sa with heap := hp, toks := tk } := Ia.kept fun c o e => kept c o (Heap.lt_size e) e
  exact call_len_set at0 hex hd hf (by rw [hn] <;> omega) ⟨.int ((once ts).length : Nat), Ha, I2.tok _, ⟨_, by rw [hn]⟩, qa⟩
theorem x_lenTx {K : PySem.W.Frag} {σ : L2.St} {H : Hp} {Q : VK} (q : ta σ H fun x H1 => ∃ (l : Addr) (ts : List Str), x = .ref l ∧ SqL K H1 l (ts.map V.str) ∧ ts.length ≤ 4000 ∧ Q (.int ((once ts).length : Nat)) H1) : tLenTx K ta σ H Q := q
end
end Gs
namespace Gs
open PySem PySem.Spec PyProof.Rows L2
/-! ### l.count(z) for texts -/
theorem strs_dp {K : PySem.W.Frag} {H : Hp} : ∀ zs : List Str, DpAll K H (zs.map V.str) (zs.map PyData.str)
  | [] => .nil
  | z :: r => .cons (.str z) (strs_dp r)
theorem strs_plain : ∀ zs : List Str, PyData.plainAll (zs.map PyData.str) = true
  | [] => rfl
  | z :: r => by
    rw [List.map_cons, PyData.plainAll, strs_plain r]
    rfl
theorem strs_depth : ∀ zs : List Str, PyData.depthAll (zs.map PyData.str) ≤ 1
  | [] => by simp [PyData.depthAll]
  | z :: r => by
    have := strs_depth r
    simp only [List.map_cons, PyData.depthAll, PyData.depth]
    omega
def rCntS (K : PySem.W.Frag) : V → List V → Hp → VK → Prop := fun x xs H Q => ∃ (p : Addr) (zs : List Str) (z : Str), x = .ref p ∧ xs = [.str z] ∧ SqL K H p (zs.map V.str) ∧ Q (.int (zs.count z : Nat)) H
section
variable {X : Cx}
theorem mt_countS (hu : X.A.units + 65 < cLine) : MtR X "list.count" (rCntS X.K) := by
  intro pins s σ H x xs v us Q I rx rxs h
  obtain ⟨p, zs, z, rfl, rfl, hs, q⟩ := h
  cases rx
  cases rxs with
  | cons ry rt =>
    rename_i uy ut
    cases rt
    obtain ⟨bs, r1⟩ := Dp.reads I (.str z) _ uy (.str z) ry
    obtain ⟨its, rv, ⟨ob, n, ho, hc, hdn, hd⟩, hlen⟩ := I.list hs
    obtain ⟨as, h4⟩ := Dp.readsAll I (zs.map PyData.str) _ its (strs_dp zs) rv
    have hd1 := strs_depth zs
    have ec : ((zs.map PyData.str).countP fun y => PyData.eqv y (.str z)) = zs.count z := by
      rw [List.countP_map, List.count]
      refine List.countP_congr fun y _ => ?_
      show PyData.eqv (.str y) (.str z) = true ↔ (y == z) = true
      simp [PyData.eqv]
    refine PySem.SeqAt.count_list_data (vs := its.toArray) (d := .str z) ⟨ob, ho, hc, n, hd⟩ (show ReadsAll s.heap its.toArray.toList _ as from h4) r1 (strs_plain zs) rfl (by simp only [PyData.depth]; omega) ?_
    rw [ec]
    exact ⟨.int (zs.count z : Nat), H, I.tok _, ⟨_, rfl⟩, q⟩
theorem mt_countK {K : PySem.W.Frag} {j : Nat} {A : Around} (hr : Room j A) (hA : X.A = A := by rfl) (h : X.K = K := by rfl) : MtR X "list.count" (rCntS K) := by
  subst hA
  exact h ▸ mt_countS (by have := hr.un; omega)
theorem pe_bmK {K : PySem.W.Frag} {T name id : String} {r : V → List V → Hp → VK → Prop} {o e : PySem.Expr} {es : List PySem.Expr} {to : TE} {t : TA} {apos cpos : Pos} (pa : PlainAttrs T) (slot : Slot T name id) (hty : typeOf (.builtin id) = pure (.type "method_descriptor")) (hm : MtR X id r) (ho : PE X o to) (ha : PA X (e :: es) t) (h : X.K = K := by rfl)
    (hbase : attributeBase o name X.env (eval o X.env) = eval o X.env := by rfl)
    (hfew : ((backTo cpos (starEach (e :: es) X.env)).all (fun x => !x.1) && (backToKw cpos (keywordEach [] X.env)).all (fun x => x.1.isSome)
      && decide ((e :: es).length + ([] : List Keyword).length + (if ([] : List Keyword).isEmpty then 0 else 1) < 30)) = true := by rfl)
    (hline : (apos.endLine == cpos.line) = true := by rfl) (hs : starEach (e :: es) X.env = (false, eval e X.env) :: starEach es X.env := by rfl) (hplain : (backTo cpos (starEach es X.env)).any (·.1) = false := by rfl) :
    PE X (.Call (.Attribute o name apos) (e :: es) [] cpos) (tBM K T r to t) := h ▸ pe_bm pa slot hty hm ho ha hbase hfew hline hs hplain
theorem x_cntS {K : PySem.W.Frag} {H : Hp} {Q : VK} {p : Addr} {zs : List Str} {z : Str} (h : SqL K H p (zs.map V.str)) (q : Q (.int (zs.count z : Nat)) H) : rCntS K (.ref p) [.str z] H Q := ⟨p, zs, z, rfl, rfl, h, q⟩
end
end Gs
namespace Gs
open PySem PySem.Spec PyProof.Rows L2
/-! ### a, b, c = x, y, z with plain local names: stored from the right -/
def tPar3 (i j k : Nat) (ta : TA) : TS := fun D σ H => ta σ H fun vs H1 => ∃ v w z, vs = [v, w, z] ∧ D.nx (((σ.set i (some v)).set j (some w)).set k (some z)) H1
section
variable {X : Cx} {pos : Pos}
theorem ps_par3 {i j k : Nat} {x y z : Str} {a b c : PySem.Expr} {ta : TA} {px py pz pt : Pos} {kt k2 pt2} (hc : X.calm = true) (hN : X.N.Nodup) (hi : X.N[i]? = some x) (hj : X.N[j]? = some y) (hk : X.N[k]? = some z) (hij : i ≠ j) (hik : i ≠ k) (hjk : j ≠ k)
    (hx : X.env.scope.names.lookup x = some .local) (hy : X.env.scope.names.lookup y = some .local) (hz : X.env.scope.names.lookup z = some .local) (ha : PA X [a, b, c] ta)
    (hw : swappedStores [.Tuple [.Name x px, .Name y py, .Name z pz] kt pt] (.Tuple [a, b, c] k2 pt2) X.env = pure (some [x, y, z]))
    (hs : swapsWithSole [.Tuple [.Name x px, .Name y py, .Name z pz] kt pt] (.Tuple [a, b, c] k2 pt2) pos.line X.env = pure false := by rfl) :
    PS X (.Assign [.Tuple [.Name x px, .Name y py, .Name z pz] kt pt] (.Tuple [a, b, c] k2 pt2) pos) (tPar3 i j k ta) := by
  refine ⟨fun pins s σ H D I h => ?_⟩
  rw [exec_Assign_arm]
  refine wpAny_bind (wpAny_standAt ?_)
  rw [hs]
  refine wpAny_bind (wpAny_pure ?_)
  rw [if_neg (by decide)]
  refine wpAny_bind (Tuple_ (thn (ha.run _ pins s σ H _ I h) fun us s1 ⟨vs, H1, I1, r1, q1⟩ => ?_))
  obtain ⟨v, w, u, e1, q1⟩ := q1
  subst e1
  obtain ⟨u1, u2, u3, rfl, rv, rw', ru⟩ : ∃ u1 u2 u3, us = [u1, u2, u3] ∧ RelV v u1 ∧ RelV w u2 ∧ RelV u u3 := by
    cases r1 with
    | cons p q =>
      cases q with
      | cons p' q' =>
        cases q' with
        | cons p'' q'' =>
          cases q''
          exact ⟨_, _, _, rfl, p, p', p''⟩
  refine wpAny_newObj_type ?_ (by show 3 ≤ sizeLine; decide)
  have I2 : Inv X pins σ H1 { s1 with heap := s1.heap.push { cls := .type "tuple", data := .seq [u1, u2, u3].toArray } } := I1.kept (t' := s1.toks) fun b o e => Heap.get?_push_of_some _ e
  rw [hw]
  refine wpAny_bind (wpAny_pure ?_)
  show wpAny (model X.prog X.w) X.A (do rule "assign.swapped-stores"; let items ← unpackItems (.ref s1.heap.objs.size) 3 none; assignInOrder [fun v => bindName X.env z v, fun v => bindName X.env y v, fun v => bindName X.env x v] items.reverse; pure Flow.next) _ _ _
  refine wpAny_bind (wpAny_rule (wpAny_bind (unpackItems_tuple (items := #[u1, u2, u3]) (I.ok.hd hc) (IsTup.new s1.heap _) fun h' hx' => ?_)))
  have I3 := I2.kept (h' := h') (t' := s1.toks) fun b o e => hx' b o (Nat.ne_of_lt (Heap.lt_size e)) e
  show wpAny _ _ (assignInOrder [fun v => bindName X.env z v, fun v => bindName X.env y v, fun v => bindName X.env x v] [u3, u2, u1] >>= fun _ => pure Flow.next) _ _ _
  refine wpAny_bind (assignInOrder_cons (wpAny_bindName (store_ok I3 hN hk (.inl hz) ru (fun s2 I4 => ?_) (.inr hz))))
  refine assignInOrder_cons (wpAny_bindName (store_ok I4 hN hj (.inl hy) rw' (fun s3 I5 => ?_) (.inr hy)))
  refine assignInOrder_cons (wpAny_bindName (store_ok I5 hN hi (.inl hx) rv (fun s4 I6 => assignInOrder_nil (wpAny_pure ?_)) (.inr hx)))
  rw [List.set_comm _ _ (Ne.symm hij), List.set_comm _ _ (Ne.symm hik), List.set_comm _ _ (Ne.symm hjk)] at I6
  exact ⟨_, H1, I6, q1⟩
theorem x_par3 {i j k : Nat} {ta : TA} {D : Ends} {σ : L2.St} {H : Hp} (q : ta σ H fun vs H1 => ∃ v w z, vs = [v, w, z] ∧ D.nx (((σ.set i (some v)).set j (some w)).set k (some z)) H1) : tPar3 i j k ta D σ H := q
end
end Gs
open PySem PySem.Spec PyProof.Rows L2 Gs TL
local macro_rules | `(tactic| walk_at "ne") => `(tactic| first | assumption | exact Ne.symm (by assumption) | exact ne_of_none (by assumption) (by assumption) | exact (ne_of_none (by assumption) (by assumption)).symm | exact ne_of_none upd_same (by assumption) | exact (ne_of_none upd_same (by assumption)).symm | (apply ne_of_nn; (next => assumption); (next => walk_at "hn")) | (apply Ne.symm; apply ne_of_nn; (next => assumption); (next => walk_at "hn")))
local macro_rules | `(tactic| walk_at "hx") => `(tactic| first | assumption | exact upd_same | (apply Eq.trans (upd_ne (by walk_at "ne")); walk_at "hx"))
local macro_rules | `(tactic| walk_at "sq") => `(tactic| first | assumption | (apply SqL.of; walk_at "hx") | (apply SqT.of; walk_at "hx") | (with_reducible apply sqT_new; (next => assumption); walk_at "sq") | (with_reducible apply sqL_new; (next => assumption); walk_at "sq"))
local macro_rules | `(tactic| walk_at "sx") => `(tactic| repeat (first
  | ((with_reducible apply x_var); (next => first | rfl | exact rfl)) | with_reducible refine x_c ?_ | with_reducible refine x_op ?_ | with_reducible refine x_un ?_ | with_reducible refine x_i0 ?_ | with_reducible refine x_u ?_
  | with_reducible refine x_nil ?_ | with_reducible refine x_cons ?_ | with_reducible refine x_call ?_ | with_reducible refine x_cb ?_ | with_reducible refine x_test ?_ | with_reducible refine x_B ?_
  | with_reducible refine x_and ?_ | with_reducible refine x_or ?_ | with_reducible refine x_not ?_ | with_reducible refine x_ifE ?_ | with_reducible refine x_andV ?_ | with_reducible refine x_orV ?_ | with_reducible refine x_notV ?_
  | with_reducible refine x_ex ?_ | with_reducible refine x_seq ?_ | with_reducible refine x_next ?_ | with_reducible refine x_brk ?_ | with_reducible refine x_cont ?_ | with_reducible refine x_asg ?_ | with_reducible refine x_drop ?_ | with_reducible refine x_ret ?_ | with_reducible refine x_retN ?_
  | with_reducible refine x_ifS ?_ | with_reducible refine x_gn ?_ | with_reducible refine x_gsub ?_ | ((with_reducible apply x_aug); (next => rfl)) | with_reducible refine x_lst ?_ | with_reducible refine x_tup ?_ | with_reducible refine x_sl ?_ | with_reducible refine x_part ?_ | with_reducible refine x_exI ?_ | with_reducible refine x_nopart ?_
  | with_reducible refine x_bm ?_ | with_reducible refine x_bm0 ?_ | with_reducible refine x_iteF ?_ | with_reducible refine x_iteT ?_ | ((with_reducible apply x_eq); (next => rfl)) | ((with_reducible apply x_ne); (next => rfl))
  | ((with_reducible apply x_ixL); (next => walk_at "sq"); (next => (first | exact at0 rfl | exact at1 rfl | exact at2 rfl | exact at3 rfl | exact at4 rfl | exact at5 rfl | exact at6 rfl | exact at7 rfl | exact at8 rfl | exact at9 rfl))) | ((with_reducible apply x_ixT); (next => walk_at "sq"); (next => (first | exact at0 rfl | exact at1 rfl | exact at2 rfl | exact at3 rfl | exact at4 rfl | exact at5 rfl | exact at6 rfl | exact at7 rfl | exact at8 rfl | exact at9 rfl)))
  | ((with_reducible apply x_setL); (next => walk_at "hx"); (next => (first | exact ix0 (Nat.le_of_ble_eq_true rfl) | exact ix1 (Nat.le_of_ble_eq_true rfl) | exact ix2 (Nat.le_of_ble_eq_true rfl) | exact ix3 (Nat.le_of_ble_eq_true rfl) | exact ix4 (Nat.le_of_ble_eq_true rfl))))
  | ((with_reducible apply x_mod); (next => omega); (intro r h0 h1 h2)) | ((with_reducible apply x_div); (next => first | exact cdivW (by omega) (by omega) | assumption); (intro r h0 h1))
  | ((with_reducible apply x_i); (next => first | assumption | exact cmulW (by omega) (by omega) | exact (show _ ≠ _ by decide) | exact ⟨by decide, by decide, by omega⟩ | exact cdivW (by omega) (by omega) | exact (show _ ≠ _ by omega)))
  | with_reducible refine x_for ?_ | with_reducible refine x_rng1 ?_ | with_reducible refine x_rng2 ?_ | with_reducible refine x_ilist ?_ | with_reducible refine x_itup ?_
  | with_reducible refine x_callN ?_ | with_reducible refine x_ip ?_ | with_reducible refine x_chain ?_ | with_reducible refine x_chain3 ?_ | with_reducible refine x_ckw ?_ | with_reducible refine x_star ?_ | with_reducible refine x_ienumS ?_ | with_reducible refine x_lc ?_ | with_reducible refine x_yes ?_ | with_reducible refine x_m1 ?_ | with_reducible refine x_m0 ?_ | with_reducible refine x_isStr ?_ | ((with_reducible apply x_lenKL); (next => walk_at "sq")) | ((with_reducible apply x_lenKT); (next => walk_at "sq")) | with_reducible refine x_intB ?_ | with_reducible refine x_inS ?_
  | ((with_reducible apply x_tyL); (next => walk_at "sq")) | ((with_reducible apply x_ib); (next => rfl)) | ((with_reducible apply x_if0); (next => rfl))
  | with_reducible refine x_gcons ?_ | with_reducible refine x_gnil ?_ | ((with_reducible apply x_gtup); (next => walk_at "sq"); (next => rfl)) | with_reducible refine x_mkO ?_ | with_reducible refine x_enum ?_ | with_reducible refine x_callS ?_ | ((with_reducible apply x_cat); (next => walk_at "hx"); (next => walk_at "hx"); (next => exact sz (Nat.le_of_ble_eq_true rfl)); (intro b nb))
  | (refine ⟨sz (Nat.le_of_ble_eq_true rfl), fun a na => ?_⟩)
  | dsimp only))
local macro_rules | `(tactic| walk_at "kx") => `(tactic| first | assumption | exact Kx.refl _ | (apply Kx.updp; walk_at "kx") | (apply Kx.updl; walk_at "kx") | (apply Kx.updn; (next => assumption); walk_at "kx") | (apply Kx.trans; rotate_left 1; (next => assumption); walk_at "kx"))
local macro_rules | `(tactic| walk_at "pl") => `(tactic| first | assumption | (refine PoolAt.upd ?_ (by assumption); walk_at "pl"))
local macro_rules | `(tactic| walk_at "sm") => `(tactic| first | assumption | exact same_refl _ | (apply same_updg; (next => walk_at "sm"); (next => assumption)))
local macro_rules | `(tactic| walk_at "hn") => `(tactic| first | assumption | exact nn_same | exact nn_of (by assumption) | (apply nn_upd; walk_at "hn"))
namespace Gs
open PySem PySem.Spec PyProof.Rows L2
abbrev s_law_pool : Stmt := PySem.Challenge.pw_goalstead_k14_goals_by_their_shapes.main.body.getD 67 (.Pass ⟨0, 0, 0, 0⟩)
theorem sc_law_pool : FnScope ["script", "k"] ["script", "k"] (defScope s_law_pool) := ⟨rfl, rfl, rfl, by decide +kernel, rfl, by decide +kernel, by decide +kernel⟩
abbrev s_law_mixed : Stmt := PySem.Challenge.pw_goalstead_k14_goals_by_their_shapes.main.body.getD 68 (.Pass ⟨0, 0, 0, 0⟩)
theorem sc_law_mixed : FnScope ["pool", "turn", "number"] ["pool", "turn"] (defScope s_law_mixed) := ⟨rfl, rfl, rfl, by decide +kernel, rfl, by decide +kernel, by decide +kernel⟩
abbrev s_law_take : Stmt := PySem.Challenge.pw_goalstead_k14_goals_by_their_shapes.main.body.getD 69 (.Pass ⟨0, 0, 0, 0⟩)
theorem sc_law_take : FnScope ["pool", "many", "digit", "number", "turn"] ["pool", "many"] (defScope s_law_take) := ⟨rfl, rfl, rfl, by decide +kernel, rfl, by decide +kernel, by decide +kernel⟩
structure Txt (mg : Str → Option Value) : Prop where
  z_all : mg "all" = none
  z_bool : mg "bool" = none
  z_int : mg "int" = none
  z_isinstance : mg "isinstance" = none
  z_len : mg "len" = none
  z_list : mg "list" = none
  z_max : mg "max" = none
  z_range : mg "range" = none
  z_set : mg "set" = none
  z_str : mg "str" = none
  z_sum : mg "sum" = none
  z_tuple : mg "tuple" = none
  c_BRACKETS : ∃ t, mg "BRACKETS" = some (.int 12 t)
  c_CAPITALS : ∃ t, mg "CAPITALS" = some (.str "ABCDEFGHIJKLMNOPQRSTUVWXYZ" t)
  c_DEEP : ∃ t, mg "DEEP" = some (.int 12 t)
  c_DIGITS : ∃ t, mg "DIGITS" = some (.str "0123456789" t)
  c_FIGURES : ∃ t, mg "FIGURES" = some (.int 60 t)
  c_LEVELS : ∃ t, mg "LEVELS" = some (.int 9 t)
  c_MARKS : ∃ t, mg "MARKS" = some (.str "+-*/<>=&!?^@#:|.$" t)
  c_MARK_SIGNS : ∃ t, mg "MARK_SIGNS" = some (.int 3 t)
  c_PARTS : ∃ t, mg "PARTS" = some (.int 4 t)
  c_PIECES : ∃ t, mg "PIECES" = some (.int 200 t)
  c_RANGES : ∃ t, mg "RANGES" = some (.int 3 t)
  c_SIZE : ∃ t, mg "SIZE" = some (.int 60 t)
  c_SMALLS : ∃ t, mg "SMALLS" = some (.str "abcdefghijklmnopqrstuvwxyz" t)
  c_TESTS : ∃ t, mg "TESTS" = some (.int 4 t)
  c_WORD_SIGNS : ∃ t, mg "WORD_SIGNS" = some (.int 12 t)
section
variable {P : Program} {w : World} {K : PySem.W.Frag} {mg : Str → Option Value} {base : Heap} {f : Addr} {fd : FuncData}
theorem ok_law_mixed (F : Fun K "_law_mixed" "_law_mixed" s_law_mixed f fd) : FnOk P w K mg base CX0 1 f fd ["pool", "turn"] (spMixed K) := by
  refine F.ok sc_law_mixed (fun vs H Q E h => ?_) (fun cdv A outer s H vs Q E hr h => ?_)
  · obtain ⟨p, l, c, t, rfl, _⟩ := h
    rfl
  obtain ⟨p, l, c, t, rfl, ⟨a, n, s, ns, hp, hl, h1, h2, h3, h4, h5, h6⟩, hc, ht, ht2, q⟩ := h
  have hS : SqL K H p [.ref l, .int a, .int n, .int s] := .of hp
  refine ⟨_, (pss_cons (ps_set (i := 2) sc_law_mixed.nd rfl (Or.inl rfl) (pe_op op_modN (pe_op op_pow (pe_op op_add (pe_op op_add (pe_ix (ix_listK (K := K)) (pv 0) pe_int (fun _ _ => rfl)) (pe_op op_mulW pe_int (pe_op op_add (pe_op op_mulW pe_int (pe_ix (ix_listK (K := K)) (pv 0) pe_int (fun _ _ => rfl))) (pv 1)))) pe_int) pe_int) pe_int))
    (pss_one (ps_ret (pe_op op_fdivW (pe_op op_modN (pe_op op_mulW (pe_op op_add (pv 2) (pe_ix (ix_listK (K := K)) (pv 0) pe_int (fun _ _ => rfl))) pe_int) pe_int) pe_int)))), ?_⟩
  walk_at "sx"
  exact q _ (by omega) (by omega)
def HasMixed (P : Program) (w : World) (K : PySem.W.Frag) (mg : Str → Option Value) (base : Heap) : Prop := Has P w K mg base 1 "_law_mixed" ["pool", "turn"] (spMixed K)
theorem ok_law_take (F : Fun K "_law_take" "_law_take" s_law_take f fd) (T : Txt mg) (C_law_mixed : HasMixed P w K mg base) : FnOk P w K mg base CX0 2 f fd ["pool", "many"] (spTake K) := by
  refine F.ok sc_law_take (fun vs H Q E h => ?_) (fun cdv A outer s H vs Q E hr h => ?_)
  · obtain ⟨p, l, c, m, rfl, _⟩ := h
    rfl
  obtain ⟨p, l, c, m, rfl, P0, hc, hm, hm2, q⟩ := h
  have hpl := P0.ne
  obtain ⟨a, n, s, ns, hp, hl, h1, h2, h3, h4, h5, h6⟩ := P0.ex
  have hS : SqL K H p [.ref l, .int a, .int n, .int s] := .of hp
  refine ⟨_, (pss_cons (ps_asg (pe_op op_add (pe_ix (ix_listK (K := K)) (pv 0) pe_int (fun _ _ => rfl)) pe_int) (pg_sub (pv 0) pe_int set_list))
    (Evl.pss_cut (ps_if (PW.pt (pw_and (pt_cmpR op_eq (pe_ix (ix_listK (K := K)) (pv 0) pe_int (fun _ _ => rfl)) pe_int (nomark _)) (pw_and1 (pt_cmpR (op_neDK (K := K) hr.units) (pe_ix (ix_listK (K := K)) (pv 0) pe_int (fun _ _ => rfl)) (pe_lst pa_nil) (nomark _)))))
      (pss_cons (ps_asg (pe_bm PySem.F.plainAttrs_list PySem.F.slot_list_pop PySem.F.type_list_pop mt_popAt (pe_ix (ix_listK (K := K)) (pv 0) pe_int (fun _ _ => rfl)) (pa_cons pe_int pa_nil)) (pg_sub (pv 0) pe_int set_list))
    (pss_one (ps_if (pt_cmpR op_lt (pe_ix (ix_listK (K := K)) (pv 0) pe_int (fun _ _ => rfl)) (pe_op op_pow pe_int pe_int) (nomark _))
      (pss_cons (ps_asg (pe_op op_modN (pe_op op_add (pe_op op_mulW (pe_ix (ix_listK (K := K)) (pv 0) pe_int (fun _ _ => rfl)) pe_int) (pe_ix (ix_listK (K := K)) (pv 0) pe_int (fun _ _ => rfl))) pe_int) (pg_sub (pv 0) pe_int set_list))
    (pss_one (ps_asg pe_int (pg_sub (pv 0) pe_int set_list))))
      pss_nil)))
      pss_nil)
    (pss_cons (ps_if (pt_cmpR op_gt (pe_ix (ix_listK (K := K)) (pv 0) pe_int (fun _ _ => rfl)) pe_int (nomark _))
      (pss_cons (ps_set (i := 2) sc_law_take.nd rfl (Or.inl rfl) (pe_op op_modN (pe_ix (ix_listK (K := K)) (pv 0) pe_int (fun _ _ => rfl)) (pv 1)))
    (pss_cons (ps_asg (pe_op op_fdivW (pe_ix (ix_listK (K := K)) (pv 0) pe_int (fun _ _ => rfl)) (pv 1)) (pg_sub (pv 0) pe_int set_list))
    (pss_one (ps_ret (pv 2)))))
      pss_nil)
    (pss_cons (ps_set (i := 3) sc_law_take.nd rfl (Or.inl rfl) (pe_callH C_law_mixed hr (pa_cons (pv 0) (pa_cons pe_int pa_nil))))
    (Evl.pss_cut (ps_if (pt_cmpR op_gt (pv 1) (pe_op op_pow pe_int pe_int) (nomark _))
      (pss_one (ps_for PassesOwn.never rfl (pi_range2 (by rfl) T.z_range (pa_cons pe_int (pa_cons pe_int pa_nil))) (pg_name (i := 4) sc_law_take.nd rfl (.inl rfl))
      (pss_one (ps_set (i := 3) sc_law_take.nd rfl (Or.inl rfl) (pe_op op_add (pe_op op_mulW (pv 3) pe_int) (pe_callH C_law_mixed hr (pa_cons (pv 0) (pa_cons (pv 4) pa_nil))))))))
      pss_nil)
    (pss_one (ps_ret (pe_op op_modN (pv 3) (pv 1))))))))), ?_⟩
  walk_at "sx"
  refine x_cut (M := fun σ' H' => σ' = [some (.ref p), some (.int m), none, none, none] ∧ Kx p l H H' ∧ ∃ (a s : Int) (ns : List Int), H' p = some (.lst [.ref l, .int a, .int (n + 1), .int s]) ∧ H' l = some (.lst (ns.map V.int)) ∧ 0 ≤ a ∧ 0 ≤ s ∧ s < 2147483647 ∧ ns.length ≤ 1000) ?_ ?_
  · walk_at "sx"
    have kp : ∀ o, Kx p l H (upd H p o) := fun o b u e e1 _ => by
      rw [upd_ne e1]
      exact e
    refine x_ite (fun ca => ?_) (fun ca => ?_)
    · have ha : a = 0 := V.int.inj ca
      walk_at "sx"
      rename_i q hq
      have nlp : l ≠ p := Ne.symm hpl
      have nq1 : p ≠ q := ne_of_none (o := _) upd_same hq
      have nq2 : l ≠ q := ne_of_none (by walk_at "hx") hq
      refine x_neNil (ns := ns) (by walk_at "sq") (by walk_at "sq") ?_
      walk_at "sx"
      refine x_iteN (fun cn => ?_) (fun cn => ?_)
      · walk_at "sx"
        obtain ⟨x, r, rfl⟩ : ∃ x r, ns = x :: r := by
          cases ns with
          | nil => exact absurd rfl cn
          | cons x r => exact ⟨x, r, rfl⟩
        refine ⟨l, _, 0, 0, _, rfl, rfl, by walk_at "hx", by decide, by decide, seqIx0 (by simp), rfl, ?_⟩
        have kq : ∀ (G : Hp), Kx p l H G → Kx p l H G := fun G h => h
        walk_at "sx"
        refine x_ite (fun cx => ?_) (fun cx => ?_)
        · walk_at "sx"
          refine ⟨rfl, by walk_at "kx", 0, _, r, by walk_at "hx", by walk_at "hx", by omega, by assumption, by assumption, ?_⟩
          rw [List.length_cons] at h6
          omega
        · walk_at "sx"
          have cx' : ¬ x < 10 ^ 18 := cx
          refine ⟨rfl, by walk_at "kx", x, s, r, by walk_at "hx", by walk_at "hx", by omega, h4, h5, ?_⟩
          rw [List.length_cons] at h6
          omega
      · walk_at "sx"
        exact ⟨rfl, by walk_at "kx", a, s, ns, by walk_at "hx", by walk_at "hx", h1, h4, h5, h6⟩
    · walk_at "sx"
      exact ⟨rfl, by walk_at "kx", a, s, ns, upd_same, by walk_at "hx", h1, h4, h5, h6⟩
  · rintro σ' H' ⟨rfl, k1, a, s, ns, hp, hl, h1, h4, h5, h6⟩
    have dm : CDivW a m := wide_div (b := 300) hm (by omega) (by decide) (by decide)
    have nlp : l ≠ p := Ne.symm hpl
    have P1 : ∀ G : Hp, G p = some (.lst [.ref l, .int a, .int (n + 1), .int s]) → G l = some (.lst (ns.map V.int)) → PoolAt G p l (c + 1) := fun G g1 g2 => ⟨a, n + 1, s, ns, g1, g2, h1, by omega, by omega, h4, h5, h6⟩
    walk_at "sx"
    refine x_ite (fun ca => ?_) (fun ca => ?_)
    · walk_at "sx"
      rename_i r1 _ _ _ r2 _ hr2
      refine q _ _ (by assumption) (by assumption) ⟨r2, n + 1, s, ns, by walk_at "hx", by walk_at "hx", (hr2 h1).1, by omega, by omega, h4, h5, h6⟩ ?_
      exact k1.trans (by walk_at "kx")
    · walk_at "sx"
      refine ⟨p, l, c + 1, 0, rfl, P1 _ hp hl, hc, by omega, by omega, fun z hz1 hz2 => ?_⟩
      walk_at "sx"
      refine x_cut (M := fun σ' G => ∃ (y : Int) (t : Option V), σ' = [some (.ref p), some (.int m), none, some (.int y), t] ∧ G = H') ?_ ?_
      · walk_at "sx"
        refine x_ite (fun cm => ?_) (fun cm => ?_)
        · walk_at "sx"
          refine x_forR2 (lo := 1) (hi := 8) (fun i σ' G => ∃ (y : Int) (t : Option V), σ' = [some (.ref p), some (.int m), none, some (.int y), t] ∧ G = H' ∧ 0 ≤ y ∧ y < 4294967296 ^ (i + 1)) (by omega) ⟨z, none, rfl, rfl, hz1, by rw [show (4294967296 : Int) ^ (0 + 1) = 4294967296 from rfl]; omega⟩ ?_ ?_
          · rintro i σ' G hi ⟨y, t, rfl, rfl, hy1, hy2⟩
            have hB : (4294967296 : Int) ^ (i + 1) ≤ 4294967296 ^ 7 := by
              rcases (show i = 0 ∨ i = 1 ∨ i = 2 ∨ i = 3 ∨ i = 4 ∨ i = 5 ∨ i = 6 by omega) with rfl | rfl | rfl | rfl | rfl | rfl | rfl <;> decide
            have dy : CMulW y 268435453 := wide_mul (a := 300) (b := 30) (by omega) (by decide) (by decide) (by decide) (by decide)
            walk_at "sx"
            refine ⟨p, l, c + 1, 1 + (i : Int), rfl, P1 _ hp hl, hc, by omega, by omega, fun z' hz1' hz2' => ?_⟩
            walk_at "sx"
            refine ⟨_, _, rfl, rfl, by omega, ?_⟩
            rw [Int.pow_succ]
            generalize (4294967296 : Int) ^ (i + 1) = B at hy2 hB ⊢
            omega
          · rintro σ' G ⟨y, t, rfl, rfl, _⟩
            exact ⟨y, t, rfl, rfl⟩
        · walk_at "sx"
          exact ⟨z, none, rfl, rfl⟩
      · rintro σ' G ⟨y, t, rfl, rfl⟩
        walk_at "sx"
        exact q _ _ (by assumption) (by assumption) (P1 _ hp hl) k1
theorem ok_law_pool (F : Fun K "_law_pool" "_law_pool" s_law_pool f fd) (T : Txt mg) : FnOk P w K mg base CX0 1 f fd ["script", "k"] (spPool K) := by
  refine F.ok sc_law_pool (fun vs H Q E h => ?_) (fun cdv A outer s H vs Q E hr h => ?_)
  · obtain ⟨a, ns, k, rfl, _⟩ := h
    rfl
  obtain ⟨a, ns, k, rfl, hS, hl, hk0, hk1, q⟩ := h
  refine ⟨_, (pss_one (ps_ret (pe_lst (pa_cons (pe_op op_cat (pe_slice (sl_listK (K := K)) (pv 0) (po_some (pv 1)) po_none) (pe_slice (sl_listK (K := K)) (pv 0) po_none (po_some (pv 1)))) (pa_cons pe_int (pa_cons pe_int (pa_cons (pe_op op_mulW pe_int (pv 1)) pa_nil))))))), ?_⟩
  walk_at "sx"
  refine x_slL hS fun p1 n1 => ?_
  walk_at "sx"
  have s1 := same_upd (o := .lst (cutV (ns.map V.int) (some k) none)) n1
  refine x_slL (s1.seq hS) fun p2 n2 => ?_
  have n12 : p1 ≠ p2 := ne_of_none upd_same n2
  have s2 := same_upd (o := .lst (cutV (ns.map V.int) none (some k))) n2
  have L1 := cutV_length (ns.map V.int) (some k) none
  have L2 := cutV_length (ns.map V.int) none (some k)
  rw [List.length_map] at L1 L2
  refine ⟨p1, p2, _, _, rfl, rfl, by walk_at "hx", by walk_at "hx", sz (by omega), fun p3 n3 => ?_⟩
  have s3 := same_upd (o := .lst (cutV (ns.map V.int) (some k) none ++ cutV (ns.map V.int) none (some k))) n3
  walk_at "sx"
  rename_i p4 n4
  have s4 := same_upd (o := .lst [.ref p3, .int 0, .int 0, .int (104729 * k)]) n4
  obtain ⟨m1, e1, l1⟩ := cutV_map ns (some k) none
  obtain ⟨m2, e2, l2⟩ := cutV_map ns none (some k)
  have n34 : p3 ≠ p4 := ne_of_none upd_same n4
  have sall := s1.trans (s2.trans (s3.trans s4))
  refine q p4 p3 _ (s1.free (s2.free (s3.free n4))) (s1.free (s2.free n3)) sall ?_
  · refine ⟨0, 0, 104729 * k, m1 ++ m2, by walk_at "hx", ?_, by omega, by omega, by omega, by omega, by omega, ?_⟩
    · rw [List.map_append, ← e1, ← e2]
      walk_at "hx"
    · rw [List.length_append]
      omega
end
end Gs
namespace Gs
open PySem PySem.Spec PyProof.Rows L2 TL
def spLaw (K : PySem.W.Frag) : Sp := fun vs H Q _ => ∃ (a : Addr) (ns : List Int), vs = [.ref a] ∧ SqL K H a (ns.map V.int) ∧ ns.length ≤ 63 ∧ ∀ H', Q (.bl true) H'
end Gs
namespace Gs
open PySem PySem.Spec PyProof.Rows L2 TL
abbrev s_law_number : Stmt := PySem.Challenge.pw_goalstead_k14_goals_by_their_shapes.main.body.getD 70 (.Pass ⟨0, 0, 0, 0⟩)
theorem sc_law_number : FnScope ["pool", "number"] ["pool"] (defScope s_law_number) := ⟨rfl, rfl, rfl, by decide +kernel, rfl, by decide +kernel, by decide +kernel⟩
abbrev s_law_name : Stmt := PySem.Challenge.pw_goalstead_k14_goals_by_their_shapes.main.body.getD 72 (.Pass ⟨0, 0, 0, 0⟩)
theorem sc_law_name : FnScope ["pool", "way", "some", "size", "head", "text", "turn"] ["pool", "way"] (defScope s_law_name) := ⟨rfl, rfl, rfl, by decide +kernel, rfl, by decide +kernel, by decide +kernel⟩
/-- a law's word, unknown, mark -/
def NameOk (way : Int) (l : List Nat) : Prop := ∃ c t, l = c :: t ∧ ((way = 0 ∧ c ∈ sS ∧ (∀ x ∈ t, x ∈ sS ++ sD) ∧ t.length + 1 ≤ 12) ∨ (way = 1 ∧ c ∈ sC ∧ (∀ x ∈ t, x ∈ sS ++ sD) ∧ t.length + 1 ≤ 12) ∨ (way = 2 ∧ c ∈ sM ∧ (∀ x ∈ t, x ∈ sM) ∧ t.length + 1 ≤ 3))
theorem NameOk.bit {way : Int} {l : List Nat} (h : NameOk way l) : OkBit l := by
  obtain ⟨c, t, rfl, h⟩ := h
  rcases h with ⟨_, hc, ht, hl⟩ | ⟨_, hc, ht, hl⟩ | ⟨_, hc, ht, hl⟩
  · exact ok_word (.inl hc) ht hl
  · exact ok_word (.inr hc) ht hl
  · exact ok_mark hc ht hl
def spNumber (K : PySem.W.Frag) : Sp := fun vs H Q _ => ∃ (p l : Addr) (c : Int), vs = [.ref p] ∧ PoolAt H p l c ∧ c + 4 ≤ 1000000000000 ∧
  ∀ (z : Int) (H' : Hp), z.natAbs < 10 ^ 60 → PoolAt H' p l (c + 4) → Kx p l H H' → Q (.int z) H'
def spName (K : PySem.W.Frag) : Sp := fun vs H Q _ => ∃ (p l : Addr) (c way : Int), vs = [.ref p, .int way] ∧ PoolAt H p l c ∧ c + 20 ≤ 1000000000000 ∧ 0 ≤ way ∧ way ≤ 2 ∧
  ∀ (z : Str) (H' : Hp), NameOk way (tl z) → PoolAt H' p l (c + 20) → Kx p l H H' → Q (.str z) H'
section
variable {P : Program} {w : World} {K : PySem.W.Frag} {mg : Str → Option Value} {base : Heap} {f : Addr} {fd : FuncData}
def HasTake (P : Program) (w : World) (K : PySem.W.Frag) (mg : Str → Option Value) (base : Heap) : Prop := Has P w K mg base 2 "_law_take" ["pool", "many"] (spTake K)
theorem ok_law_number (F : Fun K "_law_number" "_law_number" s_law_number f fd) (T : Txt mg) (C_law_take : HasTake P w K mg base) : FnOk P w K mg base CX0 3 f fd ["pool"] (spNumber K) := by
  refine F.ok sc_law_number (fun vs H Q E h => ?_) (fun cdv A outer s H vs Q E hr h => ?_)
  · obtain ⟨p, l, c, rfl, _⟩ := h
    rfl
  obtain ⟨p, l, c, rfl, P0, hc, q⟩ := h
  refine ⟨_, (pss_cons (ps_set (i := 1) sc_law_number.nd rfl (Or.inl rfl) (pe_callH C_law_take hr (pa_cons (pv 0) (pa_cons pe_int pa_nil))))
    (Evl.pss_cut (ps_if (pt_cmpR op_eq (pe_callH C_law_take hr (pa_cons (pv 0) (pa_cons pe_int pa_nil))) pe_int (nomark _))
      (pss_one (ps_set (i := 1) sc_law_number.nd rfl (Or.inl rfl) (pe_callH C_law_take hr (pa_cons (pv 0) (pa_cons (pe_op op_pow pe_int pe_int) pa_nil)))))
      pss_nil)
    (pss_one (ps_ret (pe_ix (ix_listK (K := K)) (pe_lst (pa_cons (pv 1) (pa_cons (pv 1) (pa_cons (pe_op op_sub pe_int (pv 1)) pa_nil)))) (pe_callH C_law_take hr (pa_cons (pv 0) (pa_cons pe_int pa_nil))) (fun _ _ => rfl)))))), ?_⟩
  walk_at "sx"
  refine ⟨p, l, c, 10, rfl, P0, by omega, by decide, by decide, fun n H1 n0 n1 P1 k1 => ?_⟩
  walk_at "sx"
  refine x_cut (M := fun σ' G => ∃ z : Int, σ' = [some (.ref p), some (.int z)] ∧ 0 ≤ z ∧ z < 10 ^ 60 ∧ PoolAt G p l (c + 3) ∧ Kx p l H G) ?_ ?_
  · walk_at "sx"
    refine ⟨p, l, c + 1, 4, rfl, P1, by omega, by decide, by decide, fun n2 H2 n20 n21 P2 k2 => ?_⟩
    walk_at "sx"
    refine x_ite (fun cn => ?_) (fun cn => ?_)
    · walk_at "sx"
      refine ⟨p, l, c + 1 + 1, _, rfl, P2, by omega, by decide, by decide, fun n3 H3 n30 n31 P3 k3 => ?_⟩
      walk_at "sx"
      exact ⟨n3, rfl, n30, n31, P3.mono (by omega), by walk_at "kx"⟩
    · walk_at "sx"
      exact ⟨n, rfl, n0, by omega, P2.mono (by omega), by walk_at "kx"⟩
  · rintro σ' G ⟨z, rfl, z0, z1, PG, kG⟩
    walk_at "sx"
    refine ⟨p, l, c + 3, 3, rfl, by walk_at "pl", by omega, by decide, by decide, fun n2 H2 n20 n21 P2 k2 => ?_⟩
    walk_at "sx"
    have hA := kxl PG (by assumption) k2
    have kQ : Kx p l H H2 := by walk_at "kx"
    rcases (show n2 = 0 ∨ n2 = 1 ∨ n2 = 2 by omega) with rfl | rfl | rfl
    · exact x_ixL (.of hA) (at0 rfl) (q _ _ (by omega) (P2.mono (by omega)) kQ)
    · exact x_ixL (.of hA) (at1 rfl) (q _ _ (by omega) (P2.mono (by omega)) kQ)
    · exact x_ixL (.of hA) (at2 rfl) (q _ _ (by omega) (P2.mono (by omega)) kQ)
def HeadOk (way : Int) (c : Nat) : Prop := (way = 0 ∧ c ∈ sS) ∨ (way = 1 ∧ c ∈ sC) ∨ (way = 2 ∧ c ∈ sM)
def TailOk (way : Int) (c : Nat) : Prop := if way = 2 then c ∈ sM else c ∈ sS ++ sD
theorem nameOk {way : Int} {l t chars : List Nat} {c : Nat} {n : Int} (e : l = (c :: (t ++ chars)).take 12) (h : HeadOk way c) (ht : ∀ x ∈ t, TailOk way x) (hc : ∀ x ∈ chars, TailOk way x) (h2 : way = 2 → t = [] ∧ chars.length ≤ 2) : NameOk way l := by
  have et : (c :: (t ++ chars)).take 12 = c :: (t ++ chars).take 11 := rfl
  rw [et] at e
  have hl : ((t ++ chars).take 11).length ≤ 11 := by rw [List.length_take]; omega
  have hx : ∀ x ∈ (t ++ chars).take 11, TailOk way x := fun x hx => by
    rcases List.mem_append.mp (List.mem_of_mem_take hx) with h | h
    · exact ht x h
    · exact hc x h
  refine ⟨c, _, e, ?_⟩
  rcases h with ⟨rfl, h⟩ | ⟨rfl, h⟩ | ⟨rfl, h⟩
  · exact .inl ⟨rfl, h, hx, by omega⟩
  · exact .inr (.inl ⟨rfl, h, hx, by omega⟩)
  · refine .inr (.inr ⟨rfl, h, hx, ?_⟩)
    obtain ⟨h3, h4⟩ := h2 rfl
    rw [List.length_take, List.length_append, h3, List.length_nil]
    omega
theorem tl_SD : tl ("abcdefghijklmnopqrstuvwxyz0123456789" : Str) = sS ++ sD := by decide +kernel
theorem tl_len (z : Str) : (tl z).length = z.length := by show z.cps.toList.length = z.cps.size; rw [Array.length_toList]
def resW : List Str := ["op", "mode", "table", "not", "is", "in", "such", "and", "mod"]
theorem resW_ok : ∀ z ∈ resW, ∃ c t, tl z = c :: t ∧ c ∈ sS ∧ (∀ x ∈ t, x ∈ sS ++ sD) ∧ t.length ≤ 4 ∧ z.length ≤ 5 := by
  have h : (resW.all fun z => match tl z with | [] => false | c :: t => decide (c ∈ sS ∧ (∀ x ∈ t, x ∈ sS ++ sD) ∧ t.length ≤ 4 ∧ z.length ≤ 5)) = true := by decide +kernel
  intro z hz
  have h2 := List.all_eq_true.mp h z hz
  cases e : tl z with
  | nil =>
    rw [e] at h2
    cases h2
  | cons c t =>
    rw [e] at h2
    exact ⟨c, t, rfl, of_decide_eq_true h2⟩
theorem joinNil : ∀ xs : List (List Nat), joinL [] xs = xs.flatten
  | [] => rfl
  | [p] => by simp [joinL]
  | p :: q :: r => by
    show p ++ ([] ++ joinL [] (q :: r)) = p ++ (q :: r).flatten
    rw [joinNil (q :: r), List.nil_append]
theorem tl_joined (ys : List Str) : tl (Txt.join ("" : Str) ys) = (ys.map tl).flatten := by
  rw [join_eq, tl_join, show tl ("" : Str) = [] from by decide +kernel, joinNil]
theorem signs_of {P : Nat → Prop} : ∀ {ys : List Str}, (∀ y ∈ ys, ∃ c, tl y = [c] ∧ P c) → (ys.map tl).flatten.length = ys.length ∧ (∀ x ∈ (ys.map tl).flatten, P x) ∧ (ys.map (·.length)).sum = ys.length
  | [], _ => ⟨rfl, (fun x hx => by cases hx), rfl⟩
  | y :: r, h => by
    obtain ⟨c, e, hc⟩ := h y (List.mem_cons_self ..)
    obtain ⟨h1, h2, h3⟩ := signs_of (ys := r) fun z hz => h z (List.mem_cons_of_mem _ hz)
    refine ⟨?_, fun x hx => ?_, ?_⟩
    · rw [List.map_cons, List.flatten_cons, List.length_append, h1, e, List.length_cons, List.length_cons, List.length_nil]
      omega
    · rw [List.map_cons, List.flatten_cons, e] at hx
      rcases List.mem_append.mp hx with hx | hx
      · rw [List.mem_singleton.mp hx]
        exact hc
      · exact h2 x hx
    · rw [List.map_cons, List.sum_cons, h3, ← tl_len y, e, List.length_cons, List.length_cons, List.length_nil]
      omega
theorem cut_to (z : Str) (n : Nat) : tl (cutS z none (some (n : Int))) = (tl z).take n := by
  show (((tl z).drop (HT.sIx z.length 0 none)).take (HT.sIx z.length z.length (some (n : Int)) - HT.sIx z.length 0 none)) = (tl z).take n
  rw [HT.sIx_none, HT.sIx_nat, List.drop_zero, Nat.sub_zero, ← tl_len, ← List.take_eq_take_min]
theorem ok_law_name (F : Fun K "_law_name" "_law_name" s_law_name f fd) (T : Txt mg) (C_law_take : HasTake P w K mg base) : FnOk P w K mg base CX0 3 f fd ["pool", "way"] (spName K) := by
  refine F.ok sc_law_name (fun vs H Q E h => ?_) (fun cdv A outer s H vs Q E hr h => ?_)
  · obtain ⟨p, l, c, way, rfl, _⟩ := h
    rfl
  obtain ⟨p, l, c, way, rfl, P0, hc, hw0, hw2, q⟩ := h
  refine ⟨_, (Evl.pss_cut (ps_set (i := 2) sc_law_name.nd rfl (Or.inr rfl) (pe_ix (ix_listK (K := K)) (pe_lst (pa_cons pe_str (pa_cons pe_str (pa_cons pe_str pa_nil)))) (pv 1) (fun _ _ => rfl)))
    (pss_cons (ps_set (i := 3) sc_law_name.nd rfl (Or.inl rfl) (pe_callH C_law_take hr (pa_cons (pv 0) (pa_cons (pe_ix (ix_listK (K := K)) (pe_lst (pa_cons pe_int (pa_cons pe_int (pa_cons pe_int (pa_cons pe_int pa_nil))))) (pe_callH C_law_take hr (pa_cons (pv 0) (pa_cons pe_int pa_nil))) (fun _ _ => rfl)) pa_nil))))
    (pss_cons (ps_set (i := 4) sc_law_name.nd rfl (Or.inl rfl) (pe_callH C_law_take hr (pa_cons (pv 0) (pa_cons pe_int pa_nil))))
    (pss_cons (ps_set (i := 5) sc_law_name.nd rfl (Or.inl rfl) (pe_ix ix_str (pv 2) (pe_callH C_law_take hr (pa_cons (pv 0) (pa_cons (pe_callB call_len_str (by rfl) T.z_len (by decide +kernel) (pa_cons (pv 2) pa_nil)) pa_nil))) (fun _ _ => rfl)))
    (Evl.pss_cut (ps_if (PW.pt (pw_and (pt_cmpR op_eq (pv 1) pe_int (nomark _)) (pw_and1 (pt_cmpR op_lt (pv 4) pe_int (nomark _)))))
      (pss_one (ps_set (i := 5) sc_law_name.nd rfl (Or.inl rfl) (pe_ix (ix_listK (K := K)) (pe_lst (pa_cons pe_str (pa_cons pe_str (pa_cons pe_str (pa_cons pe_str (pa_cons pe_str (pa_cons pe_str (pa_cons pe_str (pa_cons pe_str (pa_cons pe_str pa_nil)))))))))) (pv 4) (fun _ _ => rfl))))
      pss_nil)
    (Evl.pss_cut (ps_if (PW.pt (pw_and (pt_cmpR op_eq (pv 1) pe_int (nomark _)) (pw_and1 (pt_cmpR op_lt (pv 4) pe_int (nomark _)))))
      (pss_one (ps_ret (pe_ix ix_str pe_str (pe_op op_modN (pv 4) pe_int) (fun _ _ => rfl))))
      pss_nil)
    (Evl.pss_cut (ps_if (pt_cmpR op_eq (pv 1) pe_int (nomark _))
      (pss_one (ps_set (i := 3) sc_law_name.nd rfl (Or.inl rfl) (pe_op op_modN (pv 3) pe_int)))
      (pss_one (ps_set (i := 2) sc_law_name.nd rfl (Or.inr rfl) pe_str)))
    (pss_one (ps_ret (pe_slice sl_str (pe_op op_add_str (pv 5) (pe_join pe_str (pe_lc (own := [("turn", 6)]) (g := gName 6) (tt := tYes) rfl sc_law_name.nd (pi_range1 (by rfl) T.z_range (pa_cons (pv 3) pa_nil)) (blkOk_by (own := [("turn", 6)]) (N := ["pool", "way", "some", "size", "head", "text", "turn"]) (sc := defScope s_law_name) (by decide +kernel)) (fun _ _ _ _ _ => pg_name (i := 6) sc_law_name.nd rfl (Or.inl rfl)) (fun _ _ _ _ _ => pts_nil) (fun _ _ _ _ _ => (pe_ix ix_str (pv 2) (pe_callH C_law_take hr (pa_cons (pv 0) (pa_cons (pe_callB call_len_str (by rfl) T.z_len (by decide +kernel) (pa_cons (pv 2) pa_nil)) pa_nil))) (fun _ _ => rfl)))))) po_none (po_some pe_int))))))))))), ?_⟩
  refine x_cut (M := fun σ' G => ∃ lit : Str, σ' = [some (.ref p), some (.int way), some (.str lit), none, none, none, none] ∧ 0 < lit.length ∧ lit.length ≤ 26 ∧ (∀ x ∈ tl lit, HeadOk way x) ∧ PoolAt G p l c ∧ Kx p l H G) ?_ ?_
  · walk_at "sx"
    rcases (show way = 0 ∨ way = 1 ∨ way = 2 by omega) with rfl | rfl | rfl
    · walk_at "sx"
      refine ⟨_, rfl, by decide +kernel, by decide +kernel, fun x hx => .inl ⟨rfl, ?_⟩, by walk_at "pl", by walk_at "kx"⟩
      rwa [tl_S] at hx
    · walk_at "sx"
      refine ⟨_, rfl, by decide +kernel, by decide +kernel, fun x hx => .inr (.inl ⟨rfl, ?_⟩), by walk_at "pl", by walk_at "kx"⟩
      rwa [tl_C] at hx
    · walk_at "sx"
      refine ⟨_, rfl, by decide +kernel, by decide +kernel, fun x hx => .inr (.inr ⟨rfl, ?_⟩), by walk_at "pl", by walk_at "kx"⟩
      rwa [tl_M] at hx
  rintro σ' G ⟨lit, rfl, lit0, lit1, hlit, PG, kG⟩
  walk_at "sx"
  refine ⟨p, l, c, 4, rfl, by walk_at "pl", by omega, by decide, by decide, fun n2 H2 n20 n21 P2 k2 => ?_⟩
  have hA := kxl PG (by assumption) k2
  have kA : Kx p l H H2 := by walk_at "kx"
  walk_at "sx"
  obtain ⟨sz4, hs4, hat4⟩ := atL (xs := [V.int 4, V.int 4, V.int 4, V.int 12]) n20 n21
  refine x_ixL (.of hA) hat4 ?_
  obtain ⟨m4, rfl, m40, m41⟩ : ∃ m : Int, sz4 = .int m ∧ 0 < m ∧ m ≤ 12 := by
    simp only [List.mem_cons, List.not_mem_nil, or_false] at hs4
    rcases hs4 with e | e | e | e <;> exact ⟨_, e, by decide, by decide⟩
  walk_at "sx"
  refine ⟨p, l, c + 1, m4, rfl, P2, by omega, m40, by omega, fun size H3 n30 n31 P3 k3 => ?_⟩
  walk_at "sx"
  refine ⟨p, l, c + 1 + 1, 24, rfl, P3, by omega, by decide, by decide, fun head H4 n40 n41 P4 k4 => ?_⟩
  walk_at "sx"
  refine x_lenS (sz (by omega)) ?_
  walk_at "sx"
  refine ⟨p, l, c + 1 + 1 + 1, _, rfl, P4, by omega, by omega, by omega, fun n5 H5 n50 n51 P5 k5 => ?_⟩
  obtain ⟨ch, hch, hat5⟩ := atL (xs := tl lit) n50 (by rw [tl_len]; exact n51)
  walk_at "sx"
  refine x_ixS (sz (by omega)) hat5 ?_
  have kB : Kx p l H H5 := by walk_at "kx"
  walk_at "sx"
  have hch' : HeadOk way ch := hlit ch hch
  refine x_cut (M := fun σ' G => ∃ (txt : Str) (cc : Nat) (tt : List Nat), σ' = [some (.ref p), some (.int way), some (.str lit), some (.int size), some (.int head), some (.str txt), none] ∧ tl txt = cc :: tt ∧ HeadOk way cc ∧ (∀ x ∈ tt, TailOk way x) ∧ tt.length ≤ 4 ∧ txt.length ≤ 5 ∧ (way = 2 → tt = []) ∧ PoolAt G p l (c + 4) ∧ Kx p l H G) ?_ ?_
  · have P6 := P5.mono (show c + 1 + 1 + 1 + 1 ≤ c + 4 by omega)
    walk_at "sx"
    refine x_ite (fun cw => ?_) (fun cw => ?_)
    · have hw : way = 0 := V.int.inj cw
      subst hw
      walk_at "sx"
      refine x_ite (fun c9 => ?_) (fun c9 => ?_)
      · walk_at "sx"
        obtain ⟨zv, hzv, hat9⟩ := atL (xs := resW.map V.str) n40 (by show head < (resW.map V.str).length; exact c9)
        refine x_ixL (xs := resW.map V.str) (.of upd_same) hat9 ?_
        obtain ⟨z, hz, rfl⟩ := List.mem_map.mp hzv
        obtain ⟨cc, tt, e1, e2, e3, e4, e5⟩ := resW_ok z hz
        walk_at "sx"
        exact ⟨z, cc, tt, rfl, e1, .inl ⟨rfl, e2⟩, (fun x hx => by unfold TailOk; rw [if_neg (by decide)]; exact e3 x hx), e4, e5, (fun h => by cases h), by walk_at "pl", by walk_at "kx"⟩
      · walk_at "sx"
        exact ⟨_, ch, [], rfl, rfl, hch', (fun x hx => by cases hx), by simp, by show 1 ≤ 5; decide, (fun _ => rfl), P6, kB⟩
    · walk_at "sx"
      exact ⟨_, ch, [], rfl, rfl, hch', (fun x hx => by cases hx), by simp, by show 1 ≤ 5; decide, (fun _ => rfl), P6, kB⟩
  rintro σ' G ⟨txt, cc, tt, rfl, et, hcc, htt, l4, l5, h2, PG, kG⟩
  have last : ∀ (Z : Str) (G' : Hp) (chars : List Nat), tl Z = (cc :: (tt ++ chars)).take 12 → (∀ x ∈ chars, TailOk way x) → (way = 2 → chars.length ≤ 2) → PoolAt G' p l (c + 20) → Kx p l H G' → Q (.str Z) G' := fun Z G' chars eZ hcs h3 PG' kG' =>
    q Z G' (nameOk (n := 0) eZ hcc htt hcs fun hw => ⟨h2 hw, h3 hw⟩) PG' kG'
  refine x_cut (M := fun σ' G' => σ' = [some (.ref p), some (.int way), some (.str lit), some (.int size), some (.int head), some (.str txt), none] ∧ G' = G) ?_ ?_
  · walk_at "sx"
    refine x_ite (fun cw => ?_) (fun cw => ?_)
    · have hw : way = 1 := V.int.inj cw
      subst hw
      walk_at "sx"
      refine x_ite (fun c12 => ?_) (fun c12 => ?_)
      · walk_at "sx"
        rename_i r r0 r1 _
        have e3 : tl ("XYZ" : Str) = [88, 89, 90] := by decide +kernel
        obtain ⟨ch3, hm3, hat3⟩ := atL (xs := tl ("XYZ" : Str)) r0 (by rw [e3]; exact r1)
        refine x_ixS (by decide +kernel) hat3 ?_
        refine q _ _ ⟨ch3, [], rfl, .inr (.inl ⟨rfl, ?_, (fun x hx => by cases hx), by decide⟩)⟩ (PG.mono (by omega)) kG
        rw [e3] at hm3
        rw [sC_iff]
        simp only [List.mem_cons, List.not_mem_nil, or_false] at hm3
        omega
      · walk_at "sx"
        exact ⟨rfl, rfl⟩
    · walk_at "sx"
      exact ⟨rfl, rfl⟩
  rintro σ' G' ⟨rfl, rfl⟩
  refine x_cut (M := fun σ' G => ∃ (some' : Str) (size' : Int), σ' = [some (.ref p), some (.int way), some (.str some'), some (.int size'), some (.int head), some (.str txt), none] ∧ (∀ x ∈ tl some', TailOk way x) ∧ 0 < some'.length ∧ some'.length ≤ 36 ∧ 0 ≤ size' ∧ size' ≤ 11 ∧ (way = 2 → size' ≤ 2) ∧ G = G') ?_ ?_
  · walk_at "sx"
    refine x_ite (fun cw => ?_) (fun cw => ?_)
    · have hw : way = 2 := V.int.inj cw
      subst hw
      walk_at "sx"
      rename_i r r0 r1 _
      refine ⟨lit, r, rfl, fun x hx => ?_, lit0, by omega, r0, by omega, fun _ => by omega, rfl⟩
      unfold TailOk
      rw [if_pos rfl]
      rcases hlit x hx with ⟨h, _⟩ | ⟨h, _⟩ | ⟨_, h⟩
      · cases h
      · cases h
      · exact h
    · walk_at "sx"
      refine ⟨_, size, rfl, fun x hx => ?_, by decide +kernel, by decide +kernel, n30, by omega, fun h => absurd (congrArg V.int h) cw, rfl⟩
      unfold TailOk
      rw [if_neg (fun h => cw (congrArg V.int h))]
      rwa [tl_SD] at hx
  rintro σ' G ⟨some', size', rfl, hs, s0, s36, z0, z11, zw, rfl⟩
  walk_at "sx"
  refine x_lcR1 (n := size') (fun D i H' => ∃ (ys : List Str), H' D = some (.lst (ys.map V.str)) ∧ ys.length = i ∧ (∀ y ∈ ys, ∃ c, tl y = [c] ∧ TailOk way c) ∧ PoolAt H' p l (c + 4 + i) ∧ Kx p l H H') (by omega) (by omega) ?_ ?_ ?_
  · intro D hD
    exact ⟨[], upd_same, rfl, (fun y hy => by cases hy), by (have := PG.mono (show c + 4 ≤ c + 4 + (0 : Nat) by omega); walk_at "pl"), by walk_at "kx"⟩
  · rintro D hD i H' hi ⟨ys, hD', hl, hys, PH, kH⟩
    walk_at "sx"
    refine ⟨rfl, ?_⟩
    walk_at "sx"
    refine x_lenS (sz (by omega)) ?_
    walk_at "sx"
    refine ⟨p, l, c + 4 + i, _, rfl, PH, by omega, by omega, by omega, fun n6 H6 n60 n61 P6 k6 => ?_⟩
    obtain ⟨c6, hc6, hat6⟩ := atL (xs := tl some') n60 (by rw [tl_len]; exact n61)
    walk_at "sx"
    refine x_ixS (sz (by omega)) hat6 ?_
    obtain ⟨dp, dl⟩ := PG.fresh hD
    have eD := k6 D _ hD' dp dl
    have nD := kG.none hD dp dl
    refine ⟨_, eD, szl (by rw [List.length_map]; omega), ys ++ [⟨#[c6]⟩], ?_, by rw [List.length_append]; simp; omega, fun y hy => ?_, (P6.mono (by omega)).updo dp dl, Kx.updf nD (kH.trans k6)⟩
    · rw [upd_same, List.map_append]
      rfl
    · rcases List.mem_append.mp hy with hy | hy
      · exact hys y hy
      · rw [List.mem_singleton.mp hy]
        exact ⟨c6, rfl, hs c6 hc6⟩
  · rintro D hD H' ⟨ys, hD', hl, hys, PH, kH⟩
    obtain ⟨s1, s2, s3⟩ := signs_of hys
    walk_at "sx"
    have ltx : txt.length = (tl txt).length := (tl_len txt).symm
    refine x_join (.of hD') (by rw [s3, hl]; show _ + _ * 0 ≤ _; omega) ?_
    have lj : (Txt.join ("" : Str) ys).length = ys.length := by rw [← tl_len, tl_joined, s1]
    refine x_addS (sz (by rw [lj]; omega)) ?_
    walk_at "sx"
    refine x_slS (sz ?_) ?_
    · rw [← tl_len, tl_append, List.length_append, tl_len, tl_len, lj]
      omega
    · refine last _ H' ((ys.map tl).flatten) ?_ s2 (fun hw => by rw [s1, hl]; have := zw hw; omega) (PH.mono (by omega)) kH
      rw [show (12 : Int) = ((12 : Nat) : Int) from rfl, cut_to, tl_append, tl_joined, et]
      rfl
end
end Gs
namespace Gs
open PySem PySem.Spec PyProof.Rows L2 TL
abbrev s_is_kept : Stmt := PySem.Challenge.pw_goalstead_k14_goals_by_their_shapes.main.body.getD 25 (.Pass ⟨0, 0, 0, 0⟩)
theorem sc_is_kept : FnScope ["part"] ["part"] (defScope s_is_kept) := ⟨rfl, rfl, rfl, by decide +kernel, rfl, by decide +kernel, by decide +kernel⟩
abbrev s_own : Stmt := PySem.Challenge.pw_goalstead_k14_goals_by_their_shapes.main.body.getD 28 (.Pass ⟨0, 0, 0, 0⟩)
theorem sc_own : FnScope [] [] (defScope s_own) := ⟨rfl, rfl, rfl, by decide +kernel, rfl, by decide +kernel, by decide +kernel⟩
abbrev s_law_kept : Stmt := PySem.Challenge.pw_goalstead_k14_goals_by_their_shapes.main.body.getD 73 (.Pass ⟨0, 0, 0, 0⟩)
theorem sc_law_kept : FnScope ["words"] [] (defScope s_law_kept) := ⟨rfl, rfl, rfl, by decide +kernel, rfl, by decide +kernel, by decide +kernel⟩
abbrev s_law_own : Stmt := PySem.Challenge.pw_goalstead_k14_goals_by_their_shapes.main.body.getD 74 (.Pass ⟨0, 0, 0, 0⟩)
theorem sc_law_own : FnScope ["rows", "name"] [] (defScope s_law_own) := ⟨rfl, rfl, rfl, by decide +kernel, rfl, by decide +kernel, by decide +kernel⟩
/-- what the text's constants hold -/
structure TxR (K : PySem.W.Frag) (mg : Str → Option Value) : Prop where
  kept : ∃ p, mg "KEPT" = some (.ref p) ∧ ∀ H, SqT K H p (keptL.map V.str)
  own : ∃ p vs, mg "OWN" = some (.ref p) ∧ (∀ H, SqT K H p vs) ∧ ∀ H, RowsAt K H vs ownL
def spIsKept (K : PySem.W.Frag) : Sp := fun vs H Q _ => ∃ z : Str, vs = [.str z] ∧ Q (.bl (decide (z ∈ keptL))) H
def spOwn (K : PySem.W.Frag) : Sp := fun vs H Q _ => vs = [] ∧ ∀ (p : Addr) (ws : List V) (H' : Hp), H p = none → H' p = some (.lst ws) → Same H H' → RowsAt K H' ws ownL → Q (.ref p) H'
def spKept (K : PySem.W.Frag) : Sp := fun vs H Q _ => vs = [] ∧ ∀ (p : Addr) (H' : Hp), H p = none → H' p = some (.lst (keptL.map V.str)) → Same H H' → Q (.ref p) H'
section
variable {P : Program} {w : World} {K : PySem.W.Frag} {mg : Str → Option Value} {base : Heap} {f : Addr} {fd : FuncData}
def HasIsKept (P : Program) (w : World) (K : PySem.W.Frag) (mg : Str → Option Value) (base : Heap) : Prop := Has P w K mg base 1 "is_kept" ["part"] (spIsKept K)
def HasOwn (P : Program) (w : World) (K : PySem.W.Frag) (mg : Str → Option Value) (base : Heap) : Prop := Has P w K mg base 1 "own" [] (spOwn K)
def HasKept (P : Program) (w : World) (K : PySem.W.Frag) (mg : Str → Option Value) (base : Heap) : Prop := Has P w K mg base 1 "_law_kept" [] (spKept K)
def HasLOwn (P : Program) (w : World) (K : PySem.W.Frag) (mg : Str → Option Value) (base : Heap) : Prop := Has P w K mg base 1 "_law_own" [] (spOwn K)
theorem ok_is_kept (F : Fun K "is_kept" "is_kept" s_is_kept f fd) (TR : TxR K mg) : FnOk P w K mg base CX0 1 f fd ["part"] (spIsKept K) := by
  refine F.ok sc_is_kept (fun vs H Q E h => ?_) (fun cdv A outer s H vs Q E hr h => ?_)
  · obtain ⟨z, rfl, _⟩ := h
    rfl
  obtain ⟨z, rfl, q⟩ := h
  obtain ⟨pK, m_KEPT, sK⟩ := TR.kept
  refine ⟨_, (pss_one (ps_ret (pe_cmpR (op_inK (K := K)) (pv 0) (pe_glob (v := .ref _) rfl m_KEPT rfl) (by first | exact nomark _ | rfl)))), ?_⟩
  walk_at "sx"
  refine ⟨pK, _, rfl, .inr (sK H), rfl, by decide, ?_⟩
  rw [if_neg (by decide), inV_strs]
  exact q
theorem ok_own (F : Fun K "own" "own" s_own f fd) (T : Txt mg) (TR : TxR K mg) : FnOk P w K mg base CX0 1 f fd [] (spOwn K) := by
  refine F.ok sc_own (fun vs H Q E h => ?_) (fun cdv A outer s H vs Q E hr h => ?_)
  · obtain ⟨rfl, _⟩ := h
    rfl
  obtain ⟨rfl, q⟩ := h
  obtain ⟨pO, vO, m_OWN, sO, rO⟩ := TR.own
  refine ⟨_, (pss_one (ps_ret (pe_callTy call_list_of (by rfl) T.z_list (by decide +kernel) (pa_cons (pe_glob (v := .ref _) rfl m_OWN rfl) pa_nil)))), ?_⟩
  walk_at "sx"
  exact ⟨pO, vO, rfl, .inr (sO H), fun l hl => q l vO _ hl upd_same (same_upd hl) (rO _)⟩
theorem ok_law_kept (F : Fun K "_law_kept" "_law_kept" s_law_kept f fd) : FnOk P w K mg base CX0 1 f fd [] (spKept K) := by
  refine F.ok sc_law_kept (fun vs H Q E h => ?_) (fun cdv A outer s H vs Q E hr h => ?_)
  · obtain ⟨rfl, _⟩ := h
    rfl
  obtain ⟨rfl, q⟩ := h
  refine ⟨_, (pss_cons (ps_set (i := 0) sc_law_kept.nd rfl (Or.inl rfl) (pe_lst (pa_cons pe_str (pa_cons pe_str (pa_cons pe_str (pa_cons pe_str (pa_cons pe_str (pa_cons pe_str (pa_cons pe_str (pa_cons pe_str pa_nil))))))))))
    (pss_one (ps_ret (pe_op op_cat (pv 0) (pe_lst (pa_cons pe_str (pa_cons pe_str (pa_cons pe_str (pa_cons pe_str (pa_cons pe_str (pa_cons pe_str (pa_cons pe_str pa_nil)))))))))))), ?_⟩
  walk_at "sx"
  rename_i a na c nc b nb
  exact q b _ ((same_upd na).free ((same_upd nc).free nb)) upd_same ((same_upd na).trans ((same_upd nc).trans (same_upd nb)))
def seven : List Str := ["=", "is", "<", "=<", "==", "=/=", ".."]
theorem ok_law_own (F : Fun K "_law_own" "_law_own" s_law_own f fd) : FnOk P w K mg base CX0 1 f fd [] (spOwn K) := by
  refine F.ok sc_law_own (fun vs H Q E h => ?_) (fun cdv A outer s H vs Q E hr h => ?_)
  · obtain ⟨rfl, _⟩ := h
    rfl
  obtain ⟨rfl, q⟩ := h
  refine ⟨_, (pss_cons (ps_set (i := 0) sc_law_own.nd rfl (Or.inl rfl) (pe_lst (pa_cons (pe_tup (pa_cons pe_int (pa_cons pe_str (pa_cons pe_str pa_nil)))) (pa_cons (pe_tup (pa_cons pe_int (pa_cons pe_str (pa_cons pe_str pa_nil)))) (pa_cons (pe_tup (pa_cons pe_int (pa_cons pe_str (pa_cons pe_str pa_nil)))) (pa_cons (pe_tup (pa_cons pe_int (pa_cons pe_str (pa_cons pe_str pa_nil)))) pa_nil))))))
    (Evl.pss_cut (ps_set (i := 0) sc_law_own.nd rfl (Or.inl rfl) (pe_op op_cat (pv 0) (pe_lc (own := [("name", 1)]) (g := gName 1) (tt := tYes) rfl sc_law_own.nd (pi_list (pe_lst (pa_cons pe_str (pa_cons pe_str (pa_cons pe_str (pa_cons pe_str (pa_cons pe_str (pa_cons pe_str (pa_cons pe_str pa_nil))))))))) (blkOk_by (own := [("name", 1)]) (N := ["rows", "name"]) (sc := defScope s_law_own) (by decide +kernel)) (fun _ _ _ _ _ => pg_name (i := 1) sc_law_own.nd rfl (Or.inl rfl)) (fun _ _ _ _ _ => pts_nil) (fun _ _ _ _ _ => (pe_tup (pa_cons pe_int (pa_cons pe_str (pa_cons (pv 1) pa_nil))))))))
    (pss_cons (ps_set (i := 0) sc_law_own.nd rfl (Or.inl rfl) (pe_op op_cat (pv 0) (pe_lst (pa_cons (pe_tup (pa_cons pe_int (pa_cons pe_str (pa_cons pe_str pa_nil)))) (pa_cons (pe_tup (pa_cons pe_int (pa_cons pe_str (pa_cons pe_str pa_nil)))) (pa_cons (pe_tup (pa_cons pe_int (pa_cons pe_str (pa_cons pe_str pa_nil)))) (pa_cons (pe_tup (pa_cons pe_int (pa_cons pe_str (pa_cons pe_str pa_nil)))) pa_nil)))))))
    (pss_one (ps_ret (pe_op op_cat (pv 0) (pe_lst (pa_cons (pe_tup (pa_cons pe_int (pa_cons pe_str (pa_cons pe_str pa_nil)))) pa_nil)))))))), ?_⟩
  walk_at "sx"
  rename_i t1 n1 t2 n2 t3 n3 t4 n4 l4 m4
  refine x_cut (M := fun σ' G => ∃ p ws, σ' = [some (.ref p), none] ∧ G p = some (.lst ws) ∧ Same H G ∧ H p = none ∧ RowsAt K G ws (ownL.take 11)) ?_ ?_
  · walk_at "sx"
    rename_i c mc
    have r4 : RowsAt K (upd (upd (upd (upd (upd (upd H t1 (.tup [.int 9, .str "none", .str "such"])) t2 (.tup [.int 8, .str "right", .str "and"])) t3 (.tup [.int 7, .str "none", .str "in"])) t4 (.tup [.int 7, .str "ahead", .str "not"])) l4 (.lst [.ref t1, .ref t2, .ref t3, .ref t4])) c (.lst (seven.map V.str))) [.ref t1, .ref t2, .ref t3, .ref t4] (ownL.take 4) :=
      .cons (by walk_at "sq") (.cons (by walk_at "sq") (.cons (by walk_at "sq") (.cons (by walk_at "sq") .nil)))
    have e4 : (upd (upd (upd (upd (upd (upd H t1 (.tup [.int 9, .str "none", .str "such"])) t2 (.tup [.int 8, .str "right", .str "and"])) t3 (.tup [.int 7, .str "none", .str "in"])) t4 (.tup [.int 7, .str "ahead", .str "not"])) l4 (.lst [.ref t1, .ref t2, .ref t3, .ref t4])) c (.lst (seven.map V.str))) l4 = some (.lst [.ref t1, .ref t2, .ref t3, .ref t4]) := by walk_at "hx"
    have s4 : Same H (upd (upd (upd (upd (upd (upd H t1 (.tup [.int 9, .str "none", .str "such"])) t2 (.tup [.int 8, .str "right", .str "and"])) t3 (.tup [.int 7, .str "none", .str "in"])) t4 (.tup [.int 7, .str "ahead", .str "not"])) l4 (.lst [.ref t1, .ref t2, .ref t3, .ref t4])) c (.lst (seven.map V.str))) := by walk_at "sm"
    refine x_lcL (K := K) (a := c) (xs := seven.map V.str) (fun D i G => ∃ ws, G D = some (.lst ws) ∧ Same H G ∧ H D = none ∧ G c = some (.lst (seven.map V.str)) ∧ G l4 = some (.lst [.ref t1, .ref t2, .ref t3, .ref t4]) ∧ RowsAt K G [.ref t1, .ref t2, .ref t3, .ref t4] (ownL.take 4) ∧ RowsAt K G ws ((seven.take i).map fun z => (⟨6, "none", z⟩ : Op))) (.of upd_same) ?_ ?_ ?_ ?_
    · intro D hD
      exact ⟨[], upd_same, by walk_at "sm", s4.free hD, by walk_at "hx", by walk_at "hx", r4.same (same_upd hD), .nil⟩
    · rintro D hD i G _ ⟨ws, h1, h2, h3, h4, h5, h6, h7⟩
      exact .of h4
    · rintro D hD i x G hx ⟨ws, h1, h2, h3, h4, h5, h6, h7⟩
      obtain ⟨z, hz, rfl⟩ : ∃ z, seven[i]? = some z ∧ x = .str z := by
        rw [List.getElem?_map] at hx
        cases e : seven[i]? with
        | none =>
          rw [e] at hx
          cases hx
        | some z =>
          rw [e] at hx
          exact ⟨z, rfl, (Option.some.inj hx).symm⟩
      have hi : i < 7 := (List.getElem?_eq_some_iff.mp hz).1
      have hl := h7.1
      rw [List.length_map, List.length_take] at hl
      walk_at "sx"
      refine ⟨rfl, ?_⟩
      walk_at "sx"
      rename_i t nt
      have nD : D ≠ t := ne_of_none h1 nt
      have dc : c ≠ D := ne_of_none upd_same hD
      have dl : l4 ≠ D := ne_of_none e4 hD
      refine ⟨ws, by walk_at "hx", szl (by omega), ws ++ [.ref t], upd_same, same_updf (by walk_at "sm") h3, h3, by walk_at "hx", by walk_at "hx", (h6.same (same_upd nt)).lst (ys := ws) (by walk_at "hx"), ?_⟩
      rw [take_more hz, List.map_append]
      refine RowsAt.append ((h7.same (same_upd nt)).lst (ys := ws) (by walk_at "hx")) (.cons ?_ .nil)
      exact sqT_lst (ys := ws) (by walk_at "hx") (.of upd_same)
    · rintro D hD G ⟨ws, h1, h2, h3, h4, h5, h6, h7⟩
      walk_at "sx"
      have hl := h7.1
      rw [List.length_map, List.length_take] at hl
      refine x_cat h5 h1 (sz (by rw [hl]; show 4 + min _ 7 ≤ _; omega)) fun p np => ?_
      walk_at "sx"
      refine ⟨p, _, rfl, upd_same, by walk_at "sm", h2.free np, ?_⟩
      exact (h6.same (same_upd np)).append (h7.same (same_upd np))
  · rintro σ' G ⟨p, ws, rfl, hp, sG, np, rG⟩
    walk_at "sx"
    rename_i t1 n1 t2 n2 t3 n3 t4 n4 l4 m4
    have hl := rG.1
    have hl' : ws.length = 11 := by
      rw [hl]
      decide
    refine x_cat (xs := ws) (by walk_at "hx") upd_same (sz (by rw [hl']; show 11 + 4 ≤ _; omega)) fun p2 np2 => ?_
    have r15 : RowsAt K (upd (upd (upd (upd (upd (upd G t1 (.tup [.int 4, .str "left", .str "+"])) t2 (.tup [.int 4, .str "left", .str "-"])) t3 (.tup [.int 3, .str "left", .str "*"])) t4 (.tup [.int 3, .str "left", .str "//"])) l4 (.lst [.ref t1, .ref t2, .ref t3, .ref t4])) p2 (.lst (ws ++ [.ref t1, .ref t2, .ref t3, .ref t4]))) (ws ++ [.ref t1, .ref t2, .ref t3, .ref t4]) (ownL.take 15) :=
      RowsAt.append (rG.same (by walk_at "sm")) (.cons (o := ⟨4, "left", "+"⟩) (by walk_at "sq") (.cons (o := ⟨4, "left", "-"⟩) (by walk_at "sq") (.cons (o := ⟨3, "left", "*"⟩) (by walk_at "sq") (.cons (o := ⟨3, "left", "//"⟩) (by walk_at "sq") .nil))))
    have s15 : Same H (upd (upd (upd (upd (upd (upd G t1 (.tup [.int 4, .str "left", .str "+"])) t2 (.tup [.int 4, .str "left", .str "-"])) t3 (.tup [.int 3, .str "left", .str "*"])) t4 (.tup [.int 3, .str "left", .str "//"])) l4 (.lst [.ref t1, .ref t2, .ref t3, .ref t4])) p2 (.lst (ws ++ [.ref t1, .ref t2, .ref t3, .ref t4]))) := by walk_at "sm"
    walk_at "sx"
    rename_i t5 n5 l5 m5
    refine x_cat (xs := ws ++ [.ref t1, .ref t2, .ref t3, .ref t4]) (by walk_at "hx") upd_same (sz (by rw [List.length_append, hl']; show 11 + 4 + 1 ≤ _; omega)) fun p3 np3 => ?_
    have s16 := (s15.trans (same_upd (o := .tup [.int 3, .str "left", .str "mod"]) n5)).trans (same_upd (o := .lst [.ref t5]) m5)
    refine q p3 _ _ (s16.free np3) upd_same (s16.trans (same_upd np3)) ?_
    exact RowsAt.append (ops := ownL.take 15) (r15.same (((same_upd n5).trans (same_upd m5)).trans (same_upd np3))) (.cons (o := ⟨3, "left", "mod"⟩) (by walk_at "sq") .nil)
end
end Gs
namespace Gs
open PySem PySem.Spec PyProof.Rows L2 TL
abbrev s_run : Stmt := PySem.Challenge.pw_goalstead_k14_goals_by_their_shapes.main.body.getD 32 (.Pass ⟨0, 0, 0, 0⟩)
theorem sc_run : FnScope ["line", "at", "signs"] ["line", "at", "signs"] (defScope s_run) := ⟨rfl, rfl, rfl, by decide +kernel, rfl, by decide +kernel, by decide +kernel⟩
abbrev s_end_of_piece : Stmt := PySem.Challenge.pw_goalstead_k14_goals_by_their_shapes.main.body.getD 33 (.Pass ⟨0, 0, 0, 0⟩)
theorem sc_end_of_piece : FnScope ["line", "at", "sign"] ["line", "at"] (defScope s_end_of_piece) := ⟨rfl, rfl, rfl, by decide +kernel, rfl, by decide +kernel, by decide +kernel⟩
abbrev s_is_piece : Stmt := PySem.Challenge.pw_goalstead_k14_goals_by_their_shapes.main.body.getD 34 (.Pass ⟨0, 0, 0, 0⟩)
theorem sc_is_piece : FnScope ["text", "sign"] ["text"] (defScope s_is_piece) := ⟨rfl, rfl, rfl, by decide +kernel, rfl, by decide +kernel, by decide +kernel⟩
abbrev s_most_open : Stmt := PySem.Challenge.pw_goalstead_k14_goals_by_their_shapes.main.body.getD 35 (.Pass ⟨0, 0, 0, 0⟩)
theorem sc_most_open : FnScope ["pieces", "most", "now", "piece"] ["pieces"] (defScope s_most_open) := ⟨rfl, rfl, rfl, by decide +kernel, rfl, by decide +kernel, by decide +kernel⟩
/-! ### what the program's own defs say of a line -/
def runL (S L : List Nat) (k : Nat) : Nat := ((L.drop k).takeWhile fun x => decide (x ∈ S)).length
theorem runL_yes {S L : List Nat} {k c : Nat} (h : L[k]? = some c) (hc : c ∈ S) : runL S L k = runL S L (k + 1) + 1 := by
  obtain ⟨hk, e⟩ := List.getElem?_eq_some_iff.mp h
  unfold runL
  rw [List.drop_eq_getElem_cons hk, e, List.takeWhile_cons_of_pos (by simpa using hc), List.length_cons]
theorem runL_no {S L : List Nat} {k c : Nat} (h : L[k]? = some c) (hc : c ∉ S) : runL S L k = 0 := by
  obtain ⟨hk, e⟩ := List.getElem?_eq_some_iff.mp h
  unfold runL
  rw [List.drop_eq_getElem_cons hk, e, List.takeWhile_cons_of_neg (by simpa using hc)]
  rfl
theorem runL_end {S L : List Nat} {k : Nat} (h : L.length ≤ k) : runL S L k = 0 := by
  unfold runL
  rw [List.drop_eq_nil_of_le h]
  rfl
theorem takeWhile_len (p : Nat → Bool) : ∀ l : List Nat, (l.takeWhile p).length ≤ l.length
  | [] => Nat.le_refl _
  | x :: r => by
    rw [List.takeWhile_cons]
    split
    · rw [List.length_cons, List.length_cons]
      exact Nat.succ_le_succ (takeWhile_len p r)
    · exact Nat.zero_le _
theorem runL_le (S L : List Nat) (k : Nat) (h : k ≤ L.length) : k + runL S L k ≤ L.length := by
  have h1 := takeWhile_len (fun x => decide (x ∈ S)) (L.drop k)
  rw [List.length_drop] at h1
  unfold runL
  omega
theorem one_eq {c : Nat} {z : Str} : (V.str ⟨#[c]⟩ = V.str z) ↔ tl z = [c] := by
  constructor
  · intro h
    rw [← V.str.inj h]
  · intro h
    rw [ext_tl (x := ⟨#[c]⟩) (y := z) h.symm]
def mo (s : Int × Int) (z : Str) : Int × Int := let n := if z = "(" then s.2 + 1 else if z = ")" then s.2 - 1 else s.2; (if n > s.1 then n else s.1, n)
def mostOpen (zs : List Str) : Int := (zs.foldl mo (0, 0)).1
def spRun (K : PySem.W.Frag) : Sp := fun vs H Q _ => ∃ (line signs : Str) (k : Nat), vs = [.str line, .int (k : Int), .str signs] ∧ k ≤ line.length ∧ line.length ≤ 100000 ∧ Q (.int ((k + runL (tl signs) (tl line) k : Nat) : Int)) H
def spEnd (K : PySem.W.Frag) : Sp := fun vs H Q _ => ∃ (line : Str) (k c : Nat), vs = [.str line, .int (k : Int)] ∧ line.length ≤ 100000 ∧ (tl line)[k]? = some c ∧ Q (.int ((k + 1 + runL (cls c) (tl line) (k + 1) : Nat) : Int)) H
def spIsPiece (K : PySem.W.Frag) : Sp := fun vs H Q _ => ∃ (z : Str), vs = [.str z] ∧ 0 < z.length ∧ z.length ≤ 100000 ∧ Q (.bl (isPc (tl z))) H
def spMostOpen (K : PySem.W.Frag) : Sp := fun vs H Q _ => ∃ (a : Addr) (zs : List Str), vs = [.ref a] ∧ SqL K H a (zs.map V.str) ∧ Q (.int (mostOpen zs)) H
section
variable {P : Program} {w : World} {K : PySem.W.Frag} {mg : Str → Option Value} {base : Heap} {f : Addr} {fd : FuncData}
theorem ok_run (F : Fun K "_run" "_run" s_run f fd) (T : Txt mg) : FnOk P w K mg base CX0 1 f fd ["line", "at", "signs"] (spRun K) := by
  refine F.ok sc_run (fun vs H Q E h => ?_) (fun cdv A outer s H vs Q E hr h => ?_)
  · obtain ⟨line, signs, k, rfl, _⟩ := h
    rfl
  obtain ⟨line, signs, k, rfl, hk, hl, q⟩ := h
  refine ⟨_, (pss_cons (ps_while PassesOwn.never (PW.pt (pw_and (pt_cmpR op_lt (pv 1) (pe_callB call_len_str (by rfl) T.z_len (by decide +kernel) (pa_cons (pv 0) pa_nil)) (nomark _)) (pw_and1 (pt_cmpR op_in_sign (pe_ix ix_str (pv 0) (pv 1) (fun _ _ => rfl)) (pv 2) (by rfl)))))
      (pss_one (ps_aug (i := 1) sc_run.nd rfl (.inl rfl) pe_int ip_add)))
    (pss_one (ps_ret (pv 1)))), ?_⟩
  walk_at "sx"
  refine x_while (fun m σ' H' => ∃ j : Nat, σ' = [some (.str line), some (.int (j : Int)), some (.str signs)] ∧ H' = H ∧ m = line.length - j ∧ j ≤ line.length ∧ j + runL (tl signs) (tl line) j = k + runL (tl signs) (tl line) k) _ ⟨k, rfl, rfl, rfl, hk, rfl⟩ ?_
  rintro m σ' H' ⟨j, rfl, rfl, rfl, hj, ej⟩
  walk_at "sx"
  refine x_lenS (sz hl) ?_
  walk_at "sx"
  refine x_ite (fun c => ?_) (fun c => ?_)
  · have hj2 : j < (tl line).length := by rw [tl_len]; omega
    have e1 : (tl line)[j]? = some (tl line)[j] := List.getElem?_eq_getElem hj2
    walk_at "sx"
    refine x_ixS (sz hl) (atI_nat e1) ?_
    walk_at "sx"
    refine x_ite (fun cs => ?_) (fun cs => ?_)
    · refine ⟨fun σ' H'' => σ' = [some (.str line), some (.int ((j + 1 : Nat) : Int)), some (.str signs)] ∧ H'' = H', fun σ2 H2 h => ?_, ?_⟩
      · obtain ⟨rfl, rfl⟩ := h
        rw [tl_len] at hj2
        have r := runL_yes (S := tl signs) e1 cs
        exact ⟨line.length - (j + 1), by omega, j + 1, rfl, rfl, rfl, by omega, by omega⟩
      · walk_at "sx"
        exact ⟨rfl, rfl⟩
    · walk_at "sx"
      rw [runL_no e1 cs] at ej
      rw [← ej] at q
      exact q
  · walk_at "sx"
    rw [runL_end (by rw [tl_len]; omega)] at ej
    rw [← ej] at q
    exact q
def HasRun (P : Program) (w : World) (K : PySem.W.Frag) (mg : Str → Option Value) (base : Heap) : Prop := Has P w K mg base 1 "_run" ["line", "at", "signs"] (spRun K)
theorem ok_end (F : Fun K "_end_of_piece" "_end_of_piece" s_end_of_piece f fd) (T : Txt mg) (C_run : HasRun P w K mg base) : FnOk P w K mg base CX0 2 f fd ["line", "at"] (spEnd K) := by
  refine F.ok sc_end_of_piece (fun vs H Q E h => ?_) (fun cdv A outer s H vs Q E hr h => ?_)
  · obtain ⟨line, k, c, rfl, _⟩ := h
    rfl
  obtain ⟨line, k, c, rfl, hl, hk, q⟩ := h
  have hk2 : k < line.length := by rw [← tl_len]; exact (List.getElem?_eq_some_iff.mp hk).1
  refine ⟨_, (pss_cons (ps_set (i := 2) sc_end_of_piece.nd rfl (Or.inl rfl) (pe_ix ix_str (pv 0) (pv 1) (fun _ _ => rfl)))
    (pss_cons (ps_if (PW.pt (pw_or (pt_cmpR op_in_sign (pv 2) (pe_globS rfl T.c_DIGITS) (by rfl)) (pw_or1 (pt_cmpR op_eq (pv 2) pe_str (nomark _)))))
      (pss_one (ps_ret (pe_callH C_run hr (pa_cons (pv 0) (pa_cons (pe_op op_add (pv 1) pe_int) (pa_cons (pe_globS rfl T.c_DIGITS) pa_nil))))))
      pss_nil)
    (pss_cons (ps_if (PW.pt (pw_or (pt_cmpR op_in_sign (pv 2) (pe_globS rfl T.c_SMALLS) (by rfl)) (pw_or1 (pt_cmpR op_in_sign (pv 2) (pe_globS rfl T.c_CAPITALS) (by rfl)))))
      (pss_one (ps_ret (pe_callH C_run hr (pa_cons (pv 0) (pa_cons (pe_op op_add (pv 1) pe_int) (pa_cons (pe_op op_add_str (pe_globS rfl T.c_SMALLS) (pe_globS rfl T.c_DIGITS)) pa_nil))))))
      pss_nil)
    (pss_cons (ps_if (pt_cmpR op_in_sign (pv 2) (pe_globS rfl T.c_MARKS) (by rfl))
      (pss_one (ps_ret (pe_callH C_run hr (pa_cons (pv 0) (pa_cons (pe_op op_add (pv 1) pe_int) (pa_cons (pe_globS rfl T.c_MARKS) pa_nil))))))
      pss_nil)
    (pss_one (ps_ret (pe_op op_add (pv 1) pe_int))))))), ?_⟩
  walk_at "sx"
  refine x_ixS (sz hl) (atI_nat hk) ?_
  walk_at "sx"
  have qq : ∀ (S : List Nat) (v : Int), cls c = S → v = ((k + 1 + runL S (tl line) (k + 1) : Nat) : Int) → Q (.int v) H := fun S v e1 e2 => by
    rw [e2, ← e1]
    exact q
  refine x_ite (fun cd => ?_) (fun cd => ?_)
  · rw [show ("0123456789" : Str).cps.toList = sD from tl_D] at cd
    walk_at "sx"
    exact ⟨line, _, k + 1, rfl, by omega, hl, qq _ _ (by rw [tl_D]; exact cls_D (.inl cd)) rfl⟩
  rw [show ("0123456789" : Str).cps.toList = sD from tl_D] at cd
  walk_at "sx"
  refine x_ite (fun ct => ?_) (fun ct => ?_)
  · have ct' : c = 126 := by
      have h := one_eq.mp ct
      rw [show tl ("~" : Str) = [126] from by decide +kernel] at h
      exact (List.cons.inj h).1.symm
    walk_at "sx"
    exact ⟨line, _, k + 1, rfl, by omega, hl, qq _ _ (by rw [tl_D]; exact cls_D (.inr ct')) rfl⟩
  have ct' : c ≠ 126 := fun h => ct (one_eq.mpr (by rw [h]; decide +kernel))
  walk_at "sx"
  refine x_ite (fun cs => ?_) (fun cs => ?_)
  · rw [show ("abcdefghijklmnopqrstuvwxyz" : Str).cps.toList = sS from tl_S] at cs
    walk_at "sx"
    refine x_addS (by decide +kernel) ?_
    walk_at "sx"
    exact ⟨line, _, k + 1, rfl, by omega, hl, qq _ _ (by rw [tl_append, tl_S, tl_D]; exact cls_W (.inl cs)) rfl⟩
  rw [show ("abcdefghijklmnopqrstuvwxyz" : Str).cps.toList = sS from tl_S] at cs
  walk_at "sx"
  refine x_ite (fun cc => ?_) (fun cc => ?_)
  · rw [show ("ABCDEFGHIJKLMNOPQRSTUVWXYZ" : Str).cps.toList = sC from tl_C] at cc
    walk_at "sx"
    refine x_addS (by decide +kernel) ?_
    walk_at "sx"
    exact ⟨line, _, k + 1, rfl, by omega, hl, qq _ _ (by rw [tl_append, tl_S, tl_D]; exact cls_W (.inr cc)) rfl⟩
  rw [show ("ABCDEFGHIJKLMNOPQRSTUVWXYZ" : Str).cps.toList = sC from tl_C] at cc
  walk_at "sx"
  refine x_ite (fun cm => ?_) (fun cm => ?_)
  · rw [show ("+-*/<>=&!?^@#:|.$" : Str).cps.toList = sM from tl_M] at cm
    walk_at "sx"
    exact ⟨line, _, k + 1, rfl, by omega, hl, qq _ _ (by rw [tl_M]; exact cls_M cm) rfl⟩
  rw [show ("+-*/<>=&!?^@#:|.$" : Str).cps.toList = sM from tl_M] at cm
  walk_at "sx"
  refine qq [] _ (cls_N cd ct' cs cc cm) ?_
  have e0 : ∀ l : List Nat, l.takeWhile (fun x => decide (x ∈ ([] : List Nat))) = [] := fun l => by
    cases l with
    | nil => rfl
    | cons x r => rw [List.takeWhile_cons_of_neg (by simp)]
  have e1 : runL [] (tl line) (k + 1) = 0 := by
    unfold runL
    rw [e0]
    rfl
  rw [e1]
  rfl
theorem ok_is_piece (F : Fun K "_is_piece" "_is_piece" s_is_piece f fd) (T : Txt mg) : FnOk P w K mg base CX0 1 f fd ["text"] (spIsPiece K) := by
  refine F.ok sc_is_piece (fun vs H Q E h => ?_) (fun cdv A outer s H vs Q E hr h => ?_)
  · obtain ⟨z, rfl, _⟩ := h
    rfl
  obtain ⟨z, rfl, h0, hl, q⟩ := h
  obtain ⟨c, t, e⟩ : ∃ c t, tl z = c :: t := by
    cases e : tl z with
    | nil =>
      rw [← tl_len, e] at h0
      cases h0
    | cons c t => exact ⟨c, t, rfl⟩
  have lz : z.length = t.length + 1 := by rw [← tl_len, e, List.length_cons]
  have e' : z.cps.toList = c :: t := e
  rw [e, isPc_cons] at q
  refine ⟨_, (pss_cons (ps_set (i := 1) sc_is_piece.nd rfl (Or.inl rfl) (pe_ix ix_str (pv 0) pe_int (fun _ _ => rfl)))
    (pss_cons (ps_if (pt_cmpR op_eq (pv 1) pe_str (nomark _))
      (pss_one (ps_ret (pe_and (pe_chain op_le op_le pe_int (pe_op op_sub (pe_callB call_len_str (by rfl) T.z_len (by decide +kernel) (pa_cons (pv 0) pa_nil)) pe_int) (pe_globI rfl T.c_FIGURES)) (pe_one (pe_cmpR op_ne (pe_ix ix_str (pv 0) pe_int (fun _ _ => rfl)) pe_str (nomark _))))))
      pss_nil)
    (pss_cons (ps_if (pt_cmpR op_in_sign (pv 1) (pe_globS rfl T.c_DIGITS) (by rfl))
      (pss_one (ps_ret (pe_and (pe_cmpR op_le (pe_callB call_len_str (by rfl) T.z_len (by decide +kernel) (pa_cons (pv 0) pa_nil)) (pe_globI rfl T.c_FIGURES) (nomark _)) (pe_one (pe_or (pe_cmpR op_ne (pv 1) pe_str (nomark _)) (pe_one (pe_cmpR op_eq (pe_callB call_len_str (by rfl) T.z_len (by decide +kernel) (pa_cons (pv 0) pa_nil)) pe_int (nomark _))))))))
      pss_nil)
    (pss_cons (ps_if (PW.pt (pw_or (pt_cmpR op_in_sign (pv 1) (pe_globS rfl T.c_SMALLS) (by rfl)) (pw_or1 (pt_cmpR op_in_sign (pv 1) (pe_globS rfl T.c_CAPITALS) (by rfl)))))
      (pss_one (ps_ret (pe_cmpR op_le (pe_callB call_len_str (by rfl) T.z_len (by decide +kernel) (pa_cons (pv 0) pa_nil)) (pe_globI rfl T.c_WORD_SIGNS) (nomark _))))
      pss_nil)
    (pss_cons (ps_if (pt_cmpR op_in_sign (pv 1) (pe_globS rfl T.c_MARKS) (by rfl))
      (pss_one (ps_ret (pe_cmpR op_le (pe_callB call_len_str (by rfl) T.z_len (by decide +kernel) (pa_cons (pv 0) pa_nil)) (pe_globI rfl T.c_MARK_SIGNS) (nomark _))))
      pss_nil)
    (pss_one (ps_ret (pe_cmpR op_in_sign (pv 1) pe_str (by rfl))))))))), ?_⟩
  walk_at "sx"
  refine x_ixS (c := c) (sz hl) (at0 (by rw [e']; rfl)) ?_
  walk_at "sx"
  refine x_ite (fun ct => ?_) (fun ct => ?_)
  · have ct' : c = 126 := by
      have h := one_eq.mp ct
      rw [show tl ("~" : Str) = [126] from by decide +kernel] at h
      exact (List.cons.inj h).1.symm
    rw [if_pos ct'] at q
    have qb : ∀ b : Bool, (b = true ↔ (1 ≤ t.length ∧ t.length ≤ 60 ∧ t.head? ≠ some 48)) → Q (.bl b) H := fun b hb => by
      rw [show b = decide (1 ≤ t.length ∧ t.length ≤ 60 ∧ t.head? ≠ some 48) by rw [Bool.eq_iff_iff, hb, decide_eq_true_iff]]
      exact q
    walk_at "sx"
    refine x_lenS (sz hl) ?_
    rw [lz]
    walk_at "sx"
    refine x_ite (fun c1 => ?_) (fun c1 => ?_)
    · walk_at "sx"
      refine x_ite (fun c2 => ?_) (fun c2 => ?_)
      · walk_at "sx"
        obtain ⟨d, r, rfl⟩ : ∃ d r, t = d :: r := by
          cases t with
          | nil =>
            rw [List.length_nil] at c1
            omega
          | cons d r => exact ⟨d, r, rfl⟩
        refine x_ixS (c := d) (sz hl) (at1 (by rw [e']; rfl)) ?_
        walk_at "sx"
        refine qb _ ?_
        rw [Bool.not_eq_true', decide_eq_false_iff_not, one_eq, show tl ("0" : Str) = [48] from by decide +kernel]
        constructor
        · intro h
          exact ⟨by omega, by omega, fun h2 => h (by rw [show d = 48 from Option.some.inj h2])⟩
        · intro h h2
          exact h.2.2 (by rw [(List.cons.inj h2).1]; rfl)
      · walk_at "sx"
        exact qb false ⟨(fun h => by cases h), (fun h => by omega)⟩
    · walk_at "sx"
      exact qb false ⟨(fun h => by cases h), (fun h => by omega)⟩
  have ct' : c ≠ 126 := fun h => ct (one_eq.mpr (by rw [h]; decide +kernel))
  rw [if_neg ct'] at q
  walk_at "sx"
  refine x_ite (fun cd => ?_) (fun cd => ?_)
  · rw [show ("0123456789" : Str).cps.toList = sD from tl_D] at cd
    rw [if_pos cd] at q
    have qb : ∀ b : Bool, (b = true ↔ (t.length + 1 ≤ 60 ∧ (c ≠ 48 ∨ t = []))) → Q (.bl b) H := fun b hb => by
      rw [show b = decide (t.length + 1 ≤ 60 ∧ (c ≠ 48 ∨ t = [])) by rw [Bool.eq_iff_iff, hb, decide_eq_true_iff]]
      exact q
    have e48 : (V.str ⟨#[c]⟩ = V.str ("0" : Str)) ↔ c = 48 := by
      rw [one_eq, show tl ("0" : Str) = [48] from by decide +kernel]
      exact ⟨fun h => (List.cons.inj h).1.symm, fun h => by rw [h]⟩
    walk_at "sx"
    refine x_lenS (sz hl) ?_
    rw [lz]
    walk_at "sx"
    refine x_ite (fun c1 => ?_) (fun c1 => ?_)
    · walk_at "sx"
      refine x_iteN (fun c2 => ?_) (fun c2 => ?_)
      · rw [e48] at c2
        exact qb true ⟨fun _ => ⟨by omega, .inl c2⟩, fun _ => rfl⟩
      · rw [e48] at c2
        walk_at "sx"
        refine x_lenS (sz hl) ?_
        rw [lz]
        walk_at "sx"
        refine qb _ ?_
        rw [decide_eq_true_iff]
        constructor
        · intro h
          have h' := V.int.inj h
          refine ⟨by omega, .inr ?_⟩
          cases t with
          | nil => rfl
          | cons d r =>
            rw [List.length_cons] at h'
            omega
        · intro h
          rcases h.2 with h2 | h2
          · exact absurd c2 h2
          · rw [h2]
            rfl
    · walk_at "sx"
      exact qb false ⟨(fun h => by cases h), (fun h => by omega)⟩
  rw [show ("0123456789" : Str).cps.toList = sD from tl_D] at cd
  rw [if_neg cd] at q
  walk_at "sx"
  have word : (c ∈ sS ∨ c ∈ sC) → Q (.bl (decide (((t.length + 1 : Nat) : Int) ≤ 12))) H := fun h => by
    rw [if_pos h] at q
    rw [show decide (((t.length + 1 : Nat) : Int) ≤ 12) = decide (t.length + 1 ≤ 12) by rw [decide_eq_decide]; omega]
    exact q
  refine x_ite (fun cs => ?_) (fun cs => ?_)
  · rw [show ("abcdefghijklmnopqrstuvwxyz" : Str).cps.toList = sS from tl_S] at cs
    walk_at "sx"
    refine x_lenS (sz hl) ?_
    rw [lz]
    walk_at "sx"
    exact word (.inl cs)
  rw [show ("abcdefghijklmnopqrstuvwxyz" : Str).cps.toList = sS from tl_S] at cs
  walk_at "sx"
  refine x_ite (fun cc => ?_) (fun cc => ?_)
  · rw [show ("ABCDEFGHIJKLMNOPQRSTUVWXYZ" : Str).cps.toList = sC from tl_C] at cc
    walk_at "sx"
    refine x_lenS (sz hl) ?_
    rw [lz]
    walk_at "sx"
    exact word (.inr cc)
  rw [show ("ABCDEFGHIJKLMNOPQRSTUVWXYZ" : Str).cps.toList = sC from tl_C] at cc
  rw [if_neg (by simp [cs, cc])] at q
  walk_at "sx"
  refine x_ite (fun cm => ?_) (fun cm => ?_)
  · rw [show ("+-*/<>=&!?^@#:|.$" : Str).cps.toList = sM from tl_M] at cm
    rw [if_pos cm] at q
    walk_at "sx"
    refine x_lenS (sz hl) ?_
    rw [lz]
    walk_at "sx"
    rw [show decide (((t.length + 1 : Nat) : Int) ≤ 3) = decide (t.length + 1 ≤ 3) by rw [decide_eq_decide]; omega]
    exact q
  rw [show ("+-*/<>=&!?^@#:|.$" : Str).cps.toList = sM from tl_M] at cm
  rw [if_neg cm] at q
  walk_at "sx"
  rw [show ("()," : Str).cps.toList = [40, 41, 44] from by decide +kernel]
  exact q
theorem ok_most_open (F : Fun K "_most_open" "_most_open" s_most_open f fd) (T : Txt mg) : FnOk P w K mg base CX0 1 f fd ["pieces"] (spMostOpen K) := by
  refine F.ok sc_most_open (fun vs H Q E h => ?_) (fun cdv A outer s H vs Q E hr h => ?_)
  · obtain ⟨a, zs, rfl, _⟩ := h
    rfl
  obtain ⟨a, zs, rfl, hS, q⟩ := h
  refine ⟨_, (pss_cons (ps_set (i := 1) sc_most_open.nd rfl (Or.inl rfl) pe_int)
    (pss_cons (ps_set (i := 2) sc_most_open.nd rfl (Or.inl rfl) pe_int)
    (pss_cons (ps_for PassesOwn.never rfl (pi_list (pv 0)) (pg_name (i := 3) sc_most_open.nd rfl (.inl rfl))
      (pss_cons (ps_if (pt_cmpR op_eq (pv 3) pe_str (nomark _))
      (pss_one (ps_aug (i := 2) sc_most_open.nd rfl (.inl rfl) pe_int ip_add))
      (pss_one (ps_if (pt_cmpR op_eq (pv 3) pe_str (nomark _))
      (pss_one (ps_aug (i := 2) sc_most_open.nd rfl (.inl rfl) pe_int ip_sub))
      pss_nil)))
    (pss_one (ps_set (i := 1) sc_most_open.nd rfl (Or.inl rfl) (pe_callB (call_max2 rfl) (by rfl) T.z_max (by decide +kernel) (pa_cons (pv 1) (pa_cons (pv 2) pa_nil)))))))
    (pss_one (ps_ret (pv 1)))))), ?_⟩
  walk_at "sx"
  refine x_forL (a := a) (xs := zs.map V.str) (fun i σ' H' => ∃ x, σ' = [some (.ref a), some (.int ((zs.take i).foldl mo (0, 0)).1), some (.int ((zs.take i).foldl mo (0, 0)).2), x] ∧ H' = H) ⟨none, rfl, rfl⟩ (fun i σ' H' _ h => ?_) (fun i x σ' H' hx h => ?_) (fun σ' H' h => ?_) hS
  · obtain ⟨x, _, rfl⟩ := h
    exact hS
  · obtain ⟨x0, rfl, rfl⟩ := h
    obtain ⟨z, hz, rfl⟩ : ∃ z, zs[i]? = some z ∧ x = .str z := by
      rw [List.getElem?_map] at hx
      cases e : zs[i]? with
      | none =>
        rw [e] at hx
        cases hx
      | some z =>
        rw [e] at hx
        exact ⟨z, rfl, (Option.some.inj hx).symm⟩
    have st : (zs.take (i + 1)).foldl mo (0, 0) = mo ((zs.take i).foldl mo (0, 0)) z := by
      rw [List.take_add_one, hz, List.foldl_append]
      rfl
    rw [st]
    generalize (zs.take i).foldl mo (0, 0) = s
    have ez : ∀ u : Str, (V.str z = V.str u) ↔ z = u := fun u => ⟨V.str.inj, congrArg V.str⟩
    walk_at "sx"
    refine x_ite (fun c1 => ?_) (fun c1 => ?_)
    · rw [ez] at c1
      walk_at "sx"
      refine x_ii ?_
      walk_at "sx"
      refine ⟨some (.str z), ?_, rfl⟩
      unfold mo
      rw [if_pos c1]
      rfl
    · rw [ez] at c1
      walk_at "sx"
      refine x_ite (fun c2 => ?_) (fun c2 => ?_)
      · rw [ez] at c2
        walk_at "sx"
        refine x_ii ?_
        walk_at "sx"
        refine ⟨some (.str z), ?_, rfl⟩
        unfold mo
        rw [if_neg c1, if_pos c2]
        rfl
      · rw [ez] at c2
        walk_at "sx"
        refine x_ii ?_
        walk_at "sx"
        refine ⟨some (.str z), ?_, rfl⟩
        unfold mo
        rw [if_neg c1, if_neg c2]
        rfl
  · obtain ⟨x, rfl, rfl⟩ := h
    rw [List.length_map, List.take_length] at *
    walk_at "sx"
    exact q
end
end Gs
namespace Gs
open PySem PySem.Spec PyProof.Rows L2 TL
abbrev s_pieces_of : Stmt := PySem.Challenge.pw_goalstead_k14_goals_by_their_shapes.main.body.getD 31 (.Pass ⟨0, 0, 0, 0⟩)
theorem sc_pieces_of : FnScope ["line", "most", "pieces", "at", "end"] ["line", "most"] (defScope s_pieces_of) := ⟨rfl, rfl, rfl, by decide +kernel, rfl, by decide +kernel, by decide +kernel⟩
theorem drop_tw (p : Nat → Bool) : ∀ l : List Nat, l.drop (l.takeWhile p).length = l.dropWhile p
  | [] => rfl
  | x :: r => by
    rw [List.takeWhile_cons, List.dropWhile_cons]
    split
    · rw [List.length_cons, List.drop_succ_cons]
      exact drop_tw p r
    · rfl
theorem cut_mid {z : Str} {i j : Nat} (h1 : i ≤ j) (h2 : j ≤ z.length) : tl (cutS z (some (i : Int)) (some (j : Int))) = ((tl z).drop i).take (j - i) := by
  show (((tl z).drop (HT.sIx z.length 0 (some (i : Int)))).take (HT.sIx z.length z.length (some (j : Int)) - HT.sIx z.length 0 (some (i : Int)))) = _
  rw [HT.sIx_nat, HT.sIx_nat, Nat.min_eq_left h2, Nat.min_eq_left (Nat.le_trans h1 h2)]
theorem run_blanks {L : List Nat} {k : Nat} {ts : List (List Nat)} (h : Cut (L.drop k) ts) : Cut (L.drop (k + runL [32] L k)) ts ∧ ∀ r, L.drop (k + runL [32] L k) ≠ 32 :: r := by
  have e : L.drop (k + runL [32] L k) = (L.drop k).dropWhile fun x => decide (x ∈ [32]) := by
    rw [← List.drop_drop]
    exact drop_tw _ _
  rw [e]
  refine ⟨h.drop, fun r hr => ?_⟩
  have : ∀ l : List Nat, l.dropWhile (fun x => decide (x ∈ [32])) ≠ 32 :: r := by
    intro l
    induction l with
    | nil => exact fun z => by cases z
    | cons y l ih =>
      by_cases hy : y = 32
      · rw [List.dropWhile_cons_of_pos (by simp [hy])]
        exact ih
      · rw [List.dropWhile_cons_of_neg (by simp [hy])]
        exact fun z => hy (List.cons.inj z).1
  exact this _ hr
theorem Cut.len {l : List Nat} {ts : List (List Nat)} (h : Cut l ts) : ts.length ≤ l.length := by
  induction h with
  | nil => exact Nat.le_refl _
  | blank h ih => rw [List.length_cons]; omega
  | piece _ _ _ h ih => rw [List.length_cons, List.length_cons, List.length_append]; omega
section
variable {P : Program} {w : World} {K : PySem.W.Frag} {mg : Str → Option Value} {base : Heap} {f : Addr} {fd : FuncData}
def HasEnd (P : Program) (w : World) (K : PySem.W.Frag) (mg : Str → Option Value) (base : Heap) : Prop := Has P w K mg base 2 "_end_of_piece" ["line", "at"] (spEnd K)
def HasIsPiece (P : Program) (w : World) (K : PySem.W.Frag) (mg : Str → Option Value) (base : Heap) : Prop := Has P w K mg base 1 "_is_piece" ["text"] (spIsPiece K)
def HasMostOpen (P : Program) (w : World) (K : PySem.W.Frag) (mg : Str → Option Value) (base : Heap) : Prop := Has P w K mg base 1 "_most_open" ["pieces"] (spMostOpen K)
end
end Gs
namespace Gs
open PySem PySem.Spec PyProof.Rows L2 TL
abbrev s_law_row : Stmt := PySem.Challenge.pw_goalstead_k14_goals_by_their_shapes.main.body.getD 75 (.Pass ⟨0, 0, 0, 0⟩)
theorem sc_law_row : FnScope ["name", "many", "ops", "row"] ["name", "many", "ops"] (defScope s_law_row) := ⟨rfl, rfl, rfl, by decide +kernel, rfl, by decide +kernel, by decide +kernel⟩
abbrev s_law_ops : Stmt := PySem.Challenge.pw_goalstead_k14_goals_by_their_shapes.main.body.getD 76 (.Pass ⟨0, 0, 0, 0⟩)
theorem sc_law_ops : FnScope ["pool", "ops", "turn", "level", "side", "name", "sides", "many", "row"] ["pool"] (defScope s_law_ops) := ⟨rfl, rfl, rfl, by decide +kernel, rfl, by decide +kernel, by decide +kernel⟩
def keyOf (o : Op) : Str × Bool := (o.n, decide (o.s = ("ahead" : Str)))
/-- a text of a word, an unknown, a mark -/
def NmOk (z : Str) : Prop := ∃ way, NameOk way (tl z)
/-- operators as a law draws them -/
structure OpsOk (ops : List Op) : Prop where
  len : ops.length ≤ 8
  lv : ∀ o ∈ ops, 1 ≤ o.l ∧ o.l ≤ 9
  nm : ∀ o ∈ ops, NmOk o.n
  nd : ((ownL ++ ops).map keyOf).Nodup
  sd : ∀ o ∈ ops, PyData.strOk o.s = true
  sid : SideOk (ownL ++ ops)
  lc : ∀ o ∈ ops, ∀ c t, tl o.n = c :: t → c ∉ sC
  nk : ∀ o ∈ ops, o.n ∉ keptL
theorem own_lv : ∀ o ∈ ownL, 1 ≤ o.l ∧ o.l ≤ 9 := by decide +kernel
theorem own_nd : (ownL.map keyOf).Nodup := by decide +kernel
theorem own_sd : ∀ o ∈ ownL, PyData.strOk o.s = true := by decide +kernel
theorem own_side : SideOk ownL := by
  unfold SideOk
  decide +kernel
theorem OpsOk.nil : OpsOk [] := ⟨by simp, (fun o h => by cases h), (fun o h => by cases h), by rw [List.append_nil]; exact own_nd, (fun o h => by cases h), by rw [List.append_nil]; exact own_side, (fun o h => by cases h), (fun o h => by cases h)⟩
theorem many_of (s : Str) : (2 : Int) - (if decide (V.str s = V.str ("ahead" : Str)) = true then 1 else 0) = ((if s = ("ahead" : Str) then 1 else 2 : Nat) : Int) := by
  by_cases h : s = ("ahead" : Str)
  · rw [if_pos (by rw [h]; exact decide_eq_true rfl), if_pos h]
    rfl
  · rw [if_neg (by rw [decide_eq_false (fun z => h (V.str.inj z))]; decide), if_neg h]
    rfl
theorem keys_new {R : List Op} {o : Op} (h : rowOf R o.n (if o.s = ("ahead" : Str) then 1 else 2) = none) : keyOf o ∉ R.map keyOf := by
  intro hm
  obtain ⟨e, he, ek⟩ := List.mem_map.mp hm
  have h' : R.find? (isRow o.n (if o.s = ("ahead" : Str) then 1 else 2)) = none := h
  have h2 := List.find?_eq_none.mp h' e he
  refine h2 ?_
  unfold keyOf at ek
  obtain ⟨e1, e2⟩ := Prod.mk.inj ek
  unfold isRow
  refine decide_eq_true ⟨e1, ?_⟩
  by_cases hs : o.s = ("ahead" : Str)
  · rw [decide_eq_true hs] at e2
    rw [if_pos hs, if_pos (of_decide_eq_true e2)]
  · rw [decide_eq_false hs] at e2
    rw [if_neg hs, if_neg (of_decide_eq_false e2)]
theorem OpsOk.more {ops : List Op} {o : Op} (k : OpsOk ops) (h6 : ops.length ≤ 7) (hl : 1 ≤ o.l ∧ o.l ≤ 9) (hn : NmOk o.n) (hsd : PyData.strOk o.s = true) (hlc : ∀ c t, tl o.n = c :: t → c ∉ sC) (hnk : o.n ∉ keptL) (hsi : ∀ e ∈ ownL ++ ops, e.s ≠ ("ahead" : Str) → e.l = o.l → o.s ≠ ("ahead" : Str) → e.s = o.s) (h : rowOf (ownL ++ ops) o.n (if o.s = ("ahead" : Str) then 1 else 2) = none) : OpsOk (ops ++ [o]) := by
  refine ⟨by rw [List.length_append]; show ops.length + 1 ≤ 8; omega, fun e he => ?_, fun e he => ?_, ?_, fun e he => ?_, ?_, fun e he => ?_, fun e he => ?_⟩
  · rcases List.mem_append.mp he with he | he
    · exact k.lv e he
    · rw [List.mem_singleton.mp he]
      exact hl
  · rcases List.mem_append.mp he with he | he
    · exact k.nm e he
    · rw [List.mem_singleton.mp he]
      exact hn
  · rw [← List.append_assoc, List.map_append]
    refine List.nodup_append.mpr ⟨k.nd, by simp, fun a ha b hb e => ?_⟩
    rw [List.map_cons, List.map_nil, List.mem_singleton] at hb
    rw [e, hb] at ha
    exact keys_new h ha
  · rcases List.mem_append.mp he with he | he
    · exact k.sd e he
    · rw [List.mem_singleton.mp he]
      exact hsd
  · rw [← List.append_assoc]
    intro a ha b hb na nb el
    rcases List.mem_append.mp ha with ha | ha
    · rcases List.mem_append.mp hb with hb | hb
      · exact k.sid a ha b hb na nb el
      · rw [List.mem_singleton.mp hb] at nb el ⊢
        exact hsi a ha na el nb
    · rcases List.mem_append.mp hb with hb | hb
      · rw [List.mem_singleton.mp ha] at na el ⊢
        exact (hsi b hb nb el.symm na).symm
      · rw [List.mem_singleton.mp ha, List.mem_singleton.mp hb]
  · rcases List.mem_append.mp he with he | he
    · exact k.lc e he
    · rw [List.mem_singleton.mp he]
      exact hlc
  · rcases List.mem_append.mp he with he | he
    · exact k.nk e he
    · rw [List.mem_singleton.mp he]
      exact hnk
theorem nm_nocap {way : Int} {l : List Nat} (h : NameOk way l) (hw : way ≠ 1) {c : Nat} {t : List Nat} (e : l = c :: t) : c ∉ sC := by
  obtain ⟨c', t', e', h⟩ := h
  rw [e] at e'
  obtain ⟨rfl, _⟩ := List.cons.inj e'
  rw [sC_iff]
  rcases h with ⟨_, hc, _⟩ | ⟨h, _⟩ | ⟨_, hc, _⟩
  · have := sS_iff.mp hc
    omega
  · exact absurd h hw
  · have := sM_all hc
    omega
def spRow (K : PySem.W.Frag) : Sp := fun vs H Q _ => ∃ (nm : Str) (many : Nat) (b : Addr) (es : List V) (ops : List Op), vs = [.str nm, .int (many : Int), .ref b] ∧ H b = some (.lst es) ∧ RowsAt K H es ops ∧ ops.length ≤ 15 ∧
  (rowOf (ownL ++ ops) nm many = none → ∀ H', Same H H' → Q .non H') ∧ ∀ o, rowOf (ownL ++ ops) nm many = some o → ∀ t H', Same H H' → SqT K H' t (rowV o) → Q (.ref t) H'
def spOps (K : PySem.W.Frag) : Sp := fun vs H Q _ => ∃ (p l : Addr) (c : Int), vs = [.ref p] ∧ PoolAt H p l c ∧ c + 300 ≤ 1000000000000 ∧
  ∀ (a : Addr) (es : List V) (ops : List Op) (H' : Hp), H a = none → H' a = some (.lst es) → Kx p l H H' → RowsAt K H' es ops → OpsOk ops → PoolAt H' p l (c + 300) → ops.length ≤ 7 → Q (.ref a) H'
theorem find_more {R : List Op} {f : Op → Bool} {i : Nat} {o : Op} (h : R[i]? = some o) (hn : (R.take i).find? f = none) (hf : f o = false) : (R.take (i + 1)).find? f = none := by
  rw [take_more h, List.find?_append, hn, Option.none_or, List.find?_cons_of_neg (by simp [hf])]
  rfl
theorem find_hit {R : List Op} {f : Op → Bool} {i : Nat} {o : Op} (h : R[i]? = some o) (hn : (R.take i).find? f = none) (hf : f o = true) : R.find? f = some o := by
  have e : R = R.take (i + 1) ++ R.drop (i + 1) := (List.take_append_drop ..).symm
  rw [e, take_more h, List.find?_append, List.find?_append, hn, Option.none_or, List.find?_cons_of_pos hf]
  rfl
section
variable {P : Program} {w : World} {K : PySem.W.Frag} {mg : Str → Option Value} {base : Heap} {f : Addr} {fd : FuncData}
def HasRow (P : Program) (w : World) (K : PySem.W.Frag) (mg : Str → Option Value) (base : Heap) : Prop := Has P w K mg base 2 "_law_row" ["name", "many", "ops"] (spRow K)
def HasName (P : Program) (w : World) (K : PySem.W.Frag) (mg : Str → Option Value) (base : Heap) : Prop := Has P w K mg base 3 "_law_name" ["pool", "way"] (spName K)
def HasOps (P : Program) (w : World) (K : PySem.W.Frag) (mg : Str → Option Value) (base : Heap) : Prop := Has P w K mg base 4 "_law_ops" ["pool"] (spOps K)
theorem ok_law_row (F : Fun K "_law_row" "_law_row" s_law_row f fd) (T : Txt mg) (C_law_own : HasLOwn P w K mg base) : FnOk P w K mg base CX0 2 f fd ["name", "many", "ops"] (spRow K) := by
  refine F.ok sc_law_row (fun vs H Q E h => ?_) (fun cdv A outer s H vs Q E hr h => ?_)
  · obtain ⟨nm, many, b, es, ops, rfl, _⟩ := h
    rfl
  obtain ⟨nm, many, b, es, ops, rfl, hb, hro, hl, qn, qs⟩ := h
  refine ⟨_, (pss_cons (ps_for PassesOwn.never rfl (pi_list (pe_op op_cat (pe_callH0 C_law_own hr) (pv 2))) (pg_name (i := 3) sc_law_row.nd rfl (.inl rfl))
      (pss_one (ps_if (PW.pt (pw_and (pt_cmpR op_eq (pe_ix (ix_tupK (K := K)) (pv 3) pe_int (fun _ _ => rfl)) (pv 0) (nomark _)) (pw_and1 (pt_cmpR op_eq (pv 1) (pe_ix (ix_listK (K := K)) (pe_lst (pa_cons pe_int (pa_cons pe_int pa_nil))) (pe_callTy call_int1 (by rfl) T.z_int (by decide +kernel) (pa_cons (pe_cmpR op_eq (pe_ix (ix_tupK (K := K)) (pv 3) pe_int (fun _ _ => rfl)) pe_str (nomark _)) pa_nil)) (fun _ _ => rfl)) (nomark _)))))
      (pss_one (ps_ret (pv 3)))
      pss_nil)))
    (pss_one (ps_ret pe_non))), ?_⟩
  walk_at "sx"
  refine ⟨rfl, fun o ws G no ho sG rw1 => ?_⟩
  have b1 := sG _ _ hb
  have r1 := hro.same sG
  have hws : ws.length = 16 := rw1.1
  have hes : es.length = ops.length := hro.1
  walk_at "sx"
  refine x_cat ho b1 (sz (by omega)) fun u nu => ?_
  have r2 := (rw1.append r1).same (same_upd (o := .lst (ws ++ es)) nu)
  have s2 : Same H (upd G u (.lst (ws ++ es))) := sG.trans (same_upd nu)
  have u2 : upd G u (.lst (ws ++ es)) u = some (.lst (ws ++ es)) := upd_same
  generalize upd G u (.lst (ws ++ es)) = G2 at *
  refine x_forL (K := K) (a := u) (xs := ws ++ es) (fun i σ' G' => Same G2 G' ∧ ((ownL ++ ops).take i).find? (isRow nm many) = none ∧ ∃ x, σ' = [some (.str nm), some (.int (many : Int)), some (.ref b), x]) ⟨same_refl _, rfl, none, rfl⟩ (fun i σ' G' _ h => .of (h.1 _ _ u2)) ?_ ?_ (.of u2)
  · rintro i v σ' G' hi ⟨s3, hn, x, rfl⟩
    obtain ⟨r, e, rfl, he, sr⟩ := r2.at hi
    have sr' := Same.sqT s3 sr
    have fin : isRow nm many e = true → ∀ H', Same G' H' → Q (.ref r) H' := fun hf H' sH => qs e (find_hit he hn hf) r H' ((s2.trans s3).trans sH) (Same.sqT sH sr')
    have go : isRow nm many e = false → ∀ H', Same G' H' → (Same G2 H' ∧ ((ownL ++ ops).take (i + 1)).find? (isRow nm many) = none ∧ ∃ x, [some (V.str nm), some (.int (many : Int)), some (.ref b), some (.ref r)] = [some (V.str nm), some (.int (many : Int)), some (.ref b), x]) := fun hf H' sH => ⟨s3.trans sH, find_more he hn hf, _, rfl⟩
    walk_at "sx"
    refine x_ite (fun c1 => ?_) (fun c1 => ?_)
    · have e1 : e.n = nm := V.str.inj c1
      walk_at "sx"
      rename_i l2 nl2
      have sl := same_upd (o := .lst [.int 2, .int 1]) nl2
      by_cases ha : e.s = ("ahead" : Str)
      · rw [if_pos (c := decide (V.str e.s = V.str ("ahead" : Str)) = true) (by rw [ha]; exact decide_eq_true rfl)]
        refine x_ixL (xs := [V.int 2, V.int 1]) (.of upd_same) (at1 rfl) ?_
        walk_at "sx"
        refine x_ite (fun c2 => ?_) (fun c2 => ?_)
        · walk_at "sx"
          have : (many : Int) = 1 := V.int.inj c2
          exact fin (decide_eq_true ⟨e1, by rw [if_pos ha]; omega⟩) _ sl
        · walk_at "sx"
          exact go (decide_eq_false fun z => c2 (by rw [z.2, if_pos ha]; rfl)) _ sl
      · rw [if_neg (by rw [decide_eq_false (fun z => ha (V.str.inj z))]; decide)]
        refine x_ixL (xs := [V.int 2, V.int 1]) (.of upd_same) (at0 rfl) ?_
        walk_at "sx"
        refine x_ite (fun c2 => ?_) (fun c2 => ?_)
        · walk_at "sx"
          have : (many : Int) = 2 := V.int.inj c2
          exact fin (decide_eq_true ⟨e1, by rw [if_neg ha]; omega⟩) _ sl
        · walk_at "sx"
          exact go (decide_eq_false fun z => c2 (by rw [z.2, if_neg ha]; rfl)) _ sl
    · walk_at "sx"
      exact go (decide_eq_false fun z => c1 (congrArg V.str z.1)) _ (same_refl _)
  · rintro σ' G' ⟨s3, hn, x, rfl⟩
    rw [r2.1, List.take_length] at hn
    walk_at "sx"
    exact qn hn _ (s2.trans s3)
theorem ok_law_ops (F : Fun K "_law_ops" "_law_ops" s_law_ops f fd) (T : Txt mg) (C_law_take : HasTake P w K mg base) (C_law_name : HasName P w K mg base) (C_law_kept : HasKept P w K mg base) (C_law_own : HasLOwn P w K mg base) (C_law_row : HasRow P w K mg base) : FnOk P w K mg base CX0 4 f fd ["pool"] (spOps K) := by
  refine F.ok sc_law_ops (fun vs H Q E h => ?_) (fun cdv A outer s H vs Q E hr h => ?_)
  · obtain ⟨p, l, c, rfl, _⟩ := h
    rfl
  obtain ⟨p, l, c, rfl, P0, hc, q⟩ := h
  refine ⟨_, (pss_cons (ps_set (i := 1) sc_law_ops.nd rfl (Or.inl rfl) (pe_lst pa_nil))
    (pss_cons (ps_for PassesOwn.never rfl (pi_range1 (by rfl) T.z_range (pa_cons (pe_callH C_law_take hr (pa_cons (pv 0) (pa_cons pe_int pa_nil))) pa_nil)) (pg_name (i := 2) sc_law_ops.nd rfl (.inl rfl))
      (pss_cons (ps_set (i := 3) sc_law_ops.nd rfl (Or.inr rfl) (pe_op op_add pe_int (pe_callH C_law_take hr (pa_cons (pv 0) (pa_cons pe_int pa_nil)))))
    (pss_cons (ps_set (i := 4) sc_law_ops.nd rfl (Or.inl rfl) (pe_ix (ix_listK (K := K)) (pe_lst (pa_cons pe_str (pa_cons pe_str (pa_cons pe_str (pa_cons pe_str (pa_cons pe_str pa_nil)))))) (pe_callH C_law_take hr (pa_cons (pv 0) (pa_cons pe_int pa_nil))) (fun _ _ => rfl)))
    (pss_cons (ps_set (i := 5) sc_law_ops.nd rfl (Or.inl rfl) (pe_callH C_law_name hr (pa_cons (pv 0) (pa_cons (pe_op op_mulW pe_int (pe_callH C_law_take hr (pa_cons (pv 0) (pa_cons pe_int pa_nil)))) pa_nil))))
    (pss_cons (ps_setLc (i := 6) (own := [("row", 8)]) (g := gName 8) rfl sc_law_ops.nd rfl rfl (sw_true rfl rfl rfl (by decide +kernel)) (pi_list (pe_op op_cat (pe_callH0 C_law_own hr) (pv 1))) (blkOk_by (own := [("row", 8)]) (N := ["pool", "ops", "turn", "level", "side", "name", "sides", "many", "row"]) (sc := defScope s_law_ops) (by decide +kernel)) (fun _ _ _ _ _ => pg_name (i := 8) sc_law_ops.nd rfl (Or.inl rfl)) (fun _ _ _ _ _ => (pts_one (PW.pt (pw_and (pt_cmpR op_eq (pe_ix (ix_tupK (K := K)) (pv 8) pe_int (fun _ _ => rfl)) (pv 3) (nomark _)) (pw_and1 (pt_cmpR op_ne (pe_ix (ix_tupK (K := K)) (pv 8) pe_int (fun _ _ => rfl)) pe_str (nomark _))))))) (fun _ _ _ _ _ => (pe_ix (ix_tupK (K := K)) (pv 8) pe_int (fun _ _ => rfl))))
    (Evl.pss_cut (ps_if (pt_cmpR op_ne (pv 4) pe_str (nomark _))
      (pss_one (ps_set (i := 4) sc_law_ops.nd rfl (Or.inl rfl) (pe_ix (ix_listK (K := K)) (pe_op op_cat (pv 6) (pe_lst (pa_cons (pv 4) pa_nil))) pe_int (fun _ _ => rfl))))
      pss_nil)
    (pss_cons (ps_set (i := 7) sc_law_ops.nd rfl (Or.inl rfl) (pe_op op_sub pe_int (pe_callTy call_int1 (by rfl) T.z_int (by decide +kernel) (pa_cons (pe_cmpR op_eq (pv 4) pe_str (nomark _)) pa_nil))))
    (pss_one (ps_if (PW.pt (pw_and (pt_cmpR (op_notInK (K := K)) (pv 5) (pe_callH0 C_law_kept hr) (by first | exact nomark _ | rfl)) (pw_and1 (pt_cmpR op_isN (pe_callH C_law_row hr (pa_cons (pv 5) (pa_cons (pv 7) (pa_cons (pv 1) pa_nil)))) pe_non (nomark _)))))
      (pss_one (ps_expr (pe_bm PySem.F.plainAttrs_list PySem.F.slot_list_append PySem.F.type_list_append mt_append (pv 1) (pa_cons (pe_tup (pa_cons (pv 3) (pa_cons (pv 4) (pa_cons (pv 5) pa_nil)))) pa_nil))))
      pss_nil)))))))))
    (pss_one (ps_ret (pv 1))))), ?_⟩
  walk_at "sx"
  rename_i a na
  have ap := P0.fresh na
  refine ⟨p, l, c, 8, rfl, by walk_at "pl", by omega, by decide, by decide, fun n1 H1 n10 n11 P1 k1 => ?_⟩
  have a1 := kxl P0 na k1
  have k01 : Kx p l H H1 := by walk_at "kx"
  walk_at "sx"
  refine x_forR1 (n := n1) (fun i σ' G => ∃ (x1 x2 x3 x4 x5 x6 : Option V) (es : List V) (ops : List Op), σ' = [some (.ref p), some (.ref a), x1, x2, x3, x4, x5, x6, none] ∧ G a = some (.lst es) ∧ RowsAt K G es ops ∧ ops.length ≤ i ∧ OpsOk ops ∧ PoolAt G p l (c + 1 + 24 * i) ∧ Kx p l H G) (by omega) (by omega) ?_ (fun i σ' G hi h => ?_) (fun σ' G h => ?_)
  · exact ⟨none, none, none, none, none, none, [], [], rfl, a1, .nil, Nat.le_refl _, .nil, P1.mono (by omega), k01⟩
  · obtain ⟨x1, x2, x3, x4, x5, x6, es, ops, rfl, aG, rG, lG, okG, PG, kG⟩ := h
    have hi7 : (i : Int) < 8 := by omega
    walk_at "sx"
    refine ⟨p, l, _, 9, rfl, PG, by omega, by decide, by decide, fun n3 H3 n30 n31 P3 k3 => ?_⟩
    walk_at "sx"
    rename_i b nb
    refine ⟨p, l, c + 1 + 24 * i + 1, 5, rfl, by walk_at "pl", by omega, by decide, by decide, fun n4 H4 n40 n41 P4 k4 => ?_⟩
    have bf := P3.fresh nb
    have b4 := kxl P3 nb k4
    have k34 : Kx p l G H4 := by walk_at "kx"
    obtain ⟨zv, hzv, hat⟩ := atL (xs := [V.str ("left" : Str), V.str ("right" : Str), V.str ("none" : Str), V.str ("ahead" : Str), V.str ("ahead" : Str)]) n40 (by show n4 < 5; exact n41)
    obtain ⟨sd, rfl, hsd⟩ : ∃ sd : Str, zv = .str sd ∧ PyData.strOk sd = true := by
      simp only [List.mem_cons, List.not_mem_nil, or_false] at hzv
      rcases hzv with rfl | rfl | rfl | rfl | rfl <;> exact ⟨_, rfl, by decide +kernel⟩
    refine x_ixL (.of b4) hat ?_
    have a4 := k34 _ _ aG ap.1 ap.2
    have r4 := rG.kx k34 PG
    walk_at "sx"
    refine ⟨p, l, c + 1 + 24 * i + 1 + 1, 2, rfl, P4, by omega, by decide, by decide, fun n5 H5 n50 n51 P5 k5 => ?_⟩
    walk_at "sx"
    refine ⟨p, l, c + 1 + 24 * i + 1 + 1 + 1, 2 * n5, rfl, P5, by omega, by omega, by omega, fun nm H6 hnm P6 k6 => ?_⟩
    have k46 : Kx p l G H6 := (k34.trans k5).trans k6
    have a6 := k46 _ _ aG ap.1 ap.2
    have r6 := rG.kx k46 PG
    have k06 : Kx p l H H6 := kG.trans k46
    have hes : es.length = ops.length := rG.1
    walk_at "sx"
    refine ⟨rfl, fun o ws G5 no ho sG rw5 => ?_⟩
    have a7 := sG _ _ a6
    have r7 := r6.same sG
    have P7 := P6.same sG
    have k07 := k06.trans (Kx.of sG)
    have hws : ws.length = 16 := rw5.1
    walk_at "sx"
    refine x_cat ho a7 (sz (by omega)) fun u nu => ?_
    have r8 := (rw5.append r7).same (same_upd (o := .lst (ws ++ es)) nu)
    have s8 := same_upd (o := .lst (ws ++ es)) nu
    have P8 := P7.upd (o := .lst (ws ++ es)) nu
    have u8 : upd G5 u (.lst (ws ++ es)) u = some (.lst (ws ++ es)) := upd_same
    have a8 := s8 _ _ a7
    have k08 := k07.trans (Kx.of s8)
    have r8' := r7.same s8
    generalize upd G5 u (.lst (ws ++ es)) = G6 at *
    refine x_lcL (K := K) (a := u) (xs := ws ++ es) (fun D j G => ∃ us : List Str, Same G6 G ∧ G D = some (.lst (us.map V.str)) ∧ us.length ≤ j ∧ (∀ z ∈ us, PyData.strOk z = true) ∧ (∀ z ∈ us, ∃ f ∈ ownL ++ ops, f.s = z ∧ f.l = 1 + n3 ∧ f.s ≠ ("ahead" : Str)) ∧ ∀ e ∈ (ownL ++ ops).take j, e.s ≠ ("ahead" : Str) → e.l = 1 + n3 → us ≠ []) (.of u8) ?_ ?_ ?_ ?_
    · intro D hD
      exact ⟨[], same_upd hD, upd_same, Nat.le_refl _, (fun z hz => by cases hz), (fun z hz => by cases hz), (fun z hz => by cases hz)⟩
    · rintro D hD j G' _ ⟨us, h1, h2, h3⟩
      exact .of (h1 _ _ u8)
    · rintro D hD j x G' hx ⟨us, h1, h2, h3, h4, h5, h6⟩
      obtain ⟨t, e, rfl, he, st⟩ := r8.at hx
      have st' := Same.sqT h1 st
      have hj : j < (ws ++ es).length := (List.getElem?_eq_some_iff.mp hx).1
      rw [List.length_append] at hj
      walk_at "sx"
      refine ⟨rfl, ?_⟩
      walk_at "sx"
      refine x_ite (fun c1 => ?_) (fun c1 => ?_)
      · walk_at "sx"
        refine x_iteN (fun c2 => ?_) (fun c2 => ?_)
        · walk_at "sx"
          refine ⟨_, h2, szl (by rw [List.length_map]; omega), us ++ [e.s], same_updf h1 hD, ?_, by rw [List.length_append]; show us.length + 1 ≤ _; omega, fun z hz => ?_, fun z hz => ?_, fun _ _ _ _ => by simp⟩
          · rw [upd_same, List.map_append]
            rfl
          · rcases List.mem_append.mp hz with hz | hz
            · exact h4 z hz
            · rw [List.mem_singleton.mp hz]
              rcases List.mem_append.mp (List.mem_of_getElem? he) with hm | hm
              · exact own_sd e hm
              · exact okG.sd e hm
          · rcases List.mem_append.mp hz with hz | hz
            · exact h5 z hz
            · rw [List.mem_singleton.mp hz]
              exact ⟨e, List.mem_of_getElem? he, rfl, V.int.inj c1, fun z => c2 (congrArg V.str z)⟩
        · walk_at "sx"
          refine ⟨us, h1, h2, by omega, h4, h5, fun e' he' ns el => ?_⟩
          rw [take_more he] at he'
          rcases List.mem_append.mp he' with he' | he'
          · exact h6 e' he' ns el
          · rw [List.mem_singleton.mp he'] at ns
            exact absurd (V.str.inj c2) ns
      · walk_at "sx"
        refine ⟨us, h1, h2, by omega, h4, h5, fun e' he' ns el => ?_⟩
        rw [take_more he] at he'
        rcases List.mem_append.mp he' with he' | he'
        · exact h6 e' he' ns el
        · rw [List.mem_singleton.mp he'] at el
          exact absurd (congrArg V.int el) c1
    · rintro D hD G7 ⟨us, h1, h2, h3, h4, h5, h6⟩
      rw [r8.1, List.take_length] at h6
      rw [List.length_append] at h3
      have P9 := P8.same h1
      have a9 := h1 _ _ a8
      have r9 := r8'.same h1
      have k09 := k08.trans (Kx.of h1)
      walk_at "sx"
      refine x_cut (M := fun σ' G => ∃ (sd' : Str) (x6 : Option V), σ' = [some (.ref p), some (.ref a), some (.int (i : Int)), some (.int (1 + n3)), some (.str sd'), some (.str nm), some (.ref D), x6, none] ∧ Same G7 G ∧ PyData.strOk sd' = true ∧ ∀ e ∈ ownL ++ ops, e.s ≠ ("ahead" : Str) → e.l = 1 + n3 → sd' ≠ ("ahead" : Str) → e.s = sd') ?_ ?_
      · walk_at "sx"
        refine x_iteN (fun c1 => ?_) (fun c1 => ?_)
        · walk_at "sx"
          rename_i b2 nb2
          have hd : b2 ≠ D := (ne_of_none h2 nb2).symm
          refine x_cat (xs := us.map V.str) (zs := [.str sd]) (by walk_at "hx") upd_same (sz (by rw [List.length_map]; show us.length + 1 ≤ _; omega)) fun u2 nu2 => ?_
          obtain ⟨sd', e', hsd'⟩ : ∃ sd', (us ++ [sd]).head? = some sd' ∧ PyData.strOk sd' = true := by
            cases us with
            | nil => exact ⟨sd, rfl, hsd⟩
            | cons y r => exact ⟨y, rfl, h4 y (List.mem_cons_self ..)⟩
          have e2 : (us.map V.str ++ [V.str sd])[0]? = some (.str sd') := by
            cases us with
            | nil =>
              cases e'
              rfl
            | cons y r =>
              cases e'
              rfl
          walk_at "sx"
          refine x_ixL (.of upd_same) (at0 e2) ?_
          walk_at "sx"
          refine ⟨sd', _, rfl, (same_upd nb2).trans (same_upd nu2), hsd', fun e he ns el _ => ?_⟩
          have hne := h6 e he ns el
          cases us with
          | nil => exact absurd rfl hne
          | cons y r =>
            have : y = sd' := Option.some.inj e'
            obtain ⟨f, hf, f1, f2, f3⟩ := h5 y (List.mem_cons_self ..)
            rw [← this, ← f1]
            exact okG.sid e he f hf ns f3 (by omega)
        · walk_at "sx"
          exact ⟨sd, _, rfl, same_refl _, hsd, fun e he ns el na => absurd (V.str.inj c1) na⟩
      · rintro σ' G8 ⟨sd', x6, rfl, s10, hsd', hsi⟩
        have P10 := P9.same s10
        have a10 := s10 _ _ a9
        have r10 := r9.same s10
        have k10 := k09.trans (Kx.of s10)
        walk_at "sx"
        rw [many_of]
        generalize hmm : (if sd' = ("ahead" : Str) then 1 else 2) = mm
        have stop : ∀ (y : Option V) (G : Hp), Same G8 G → ∃ (x1 x2 x3 x4 x5 x6 : Option V) (es : List V) (ops : List Op), [some (V.ref p), some (.ref a), some (.int (i : Int)), some (.int (1 + n3)), some (.str sd'), some (.str nm), some (.ref D), y, none] = [some (.ref p), some (.ref a), x1, x2, x3, x4, x5, x6, none] ∧ G a = some (.lst es) ∧ RowsAt K G es ops ∧ ops.length ≤ i + 1 ∧ OpsOk ops ∧ PoolAt G p l (c + 1 + 24 * ((i + 1 : Nat) : Int)) ∧ Kx p l H G := fun y G sG =>
          ⟨_, _, _, _, _, _, es, ops, rfl, sG _ _ a10, r10.same sG, by omega, okG, (P10.same sG).mono (by omega), k10.trans (Kx.of sG)⟩
        refine ⟨rfl, fun kq G9 nk hk sk => ?_⟩
        walk_at "sx"
        refine ⟨kq, keptL.map V.str, rfl, .inl (.of hk), rfl, by decide, ?_⟩
        rw [inV_strs]
        cases hkp : decide (nm ∈ keptL) with
        | true =>
          walk_at "sx"
          exact stop _ _ sk
        | false =>
          walk_at "sx"
          refine ⟨nm, _, a, es, ops, rfl, sk _ _ a10, r10.same sk, by omega, fun hn G10 s11 => ?_, fun o ho t G10 s11 st => ?_⟩
          · refine ⟨rfl, _, rfl, ?_⟩
            rw [if_pos (decide_eq_true rfl)]
            rw [← hmm] at hn
            have s12 := sk.trans s11
            have a12 := s12 _ _ a10
            walk_at "sx"
            rename_i t nt
            refine x_app (xs := es) (by walk_at "hx") (szl (by omega)) ?_
            refine ⟨_, _, _, _, _, _, es ++ [.ref t], ops ++ [⟨1 + n3, sd', nm⟩], rfl, upd_same, ?_, by rw [List.length_append]; show ops.length + 1 ≤ _; omega, ?_, ?_, ?_⟩
            · refine ((r10.same s12).same (same_upd nt)).append (.cons (.of upd_same) .nil) |>.lst (ys := es) (by walk_at "hx")
            · exact okG.more (by omega) ⟨by show 1 ≤ 1 + n3; omega, by show 1 + n3 ≤ 9; omega⟩ ⟨_, hnm⟩ hsd' (fun c t e => nm_nocap hnm (by omega) e) (of_decide_eq_false hkp) hsi hn
            · exact (((P10.same s12).upd nt).updo ap.1 ap.2).mono (by omega)
            · exact (((k10.trans (Kx.of s12)).updn nt)).updf na
          · refine ⟨rfl, _, rfl, ?_⟩
            rw [if_neg (by simp)]
            walk_at "sx"
            exact stop _ _ (sk.trans s11)
  · obtain ⟨x1, x2, x3, x4, x5, x6, es, ops, rfl, aG, rG, lG, okG, PG, kG⟩ := h
    walk_at "sx"
    exact q a es ops G na aG kG rG okG (PG.mono (by omega)) (by omega)
end
end Gs
namespace Gs
open PySem PySem.Spec PyProof.Rows L2 TL SrtK
abbrev s_law_figure : Stmt := PySem.Challenge.pw_goalstead_k14_goals_by_their_shapes.main.body.getD 71 (.Pass ⟨0, 0, 0, 0⟩)
theorem sc_law_figure : FnScope ["thing"] ["thing"] (defScope s_law_figure) := ⟨rfl, rfl, rfl, by decide +kernel, rfl, by decide +kernel, by decide +kernel⟩
abbrev s_law_weight : Stmt := PySem.Challenge.pw_goalstead_k14_goals_by_their_shapes.main.body.getD 78 (.Pass ⟨0, 0, 0, 0⟩)
theorem sc_law_weight : FnScope ["thing", "parts", "part", "one"] ["thing"] (defScope s_law_weight) := ⟨rfl, rfl, rfl, by decide +kernel, rfl, by decide +kernel, by decide +kernel⟩
abbrev s_law_alike : Stmt := PySem.Challenge.pw_goalstead_k14_goals_by_their_shapes.main.body.getD 85 (.Pass ⟨0, 0, 0, 0⟩)
theorem sc_law_alike : FnScope ["found", "due", "k"] ["found", "due"] (defScope s_law_alike) := ⟨rfl, rfl, rfl, by decide +kernel, rfl, by decide +kernel, by decide +kernel⟩
theorem strLog20 {i : Int} (h : i.natAbs < 10 ^ 60) : i.natAbs.log2 < 1920 := Nat.lt_trans (log_of (a := 200) (by omega) (by decide)) (by decide)
theorem tl_neg20 {n : Int} (h : n < 0) : tl (("~" : Str) ++ toString (0 - n)) = 126 :: numL (0 - n).toNat := by
  rw [tl_append, show tl ("~" : Str) = [126] from by decide +kernel]
  have e : (0 - n) = (((0 - n).toNat : Nat) : Int) := by omega
  show 126 :: tl (Str.ofString (toString (0 - n))) = _
  rw [e, tl_num]
  rfl
theorem tl_pos20 {n : Int} (h : ¬ n < 0) : tl (Str.ofString (toString n)) = numL n.toNat := by
  have e : n = ((n.toNat : Nat) : Int) := by omega
  rw [e, tl_num, Int.toNat_natCast]
def Len12 (z : Str) : Prop := z.length ≤ 12
theorem NmOk.len {z : Str} (h : NmOk z) : Len12 z := by
  obtain ⟨way, c, t, e, h⟩ := h
  have el : z.length = t.length + 1 := by rw [← tl_lenP, e, List.length_cons]
  unfold Len12
  rcases h with ⟨_, _, _, h⟩ | ⟨_, _, _, h⟩ | ⟨_, _, _, h⟩ <;> omega
mutual
theorem okT_imp {T N T' N' : Str → Prop} (h1 : ∀ z, T z → T' z) (h2 : ∀ z, N z → N' z) : ∀ {p : Pt}, okT T N p → okT T' N' p
  | .i _, h => h
  | .s _, h => by
    rw [okT] at h ⊢
    exact h1 _ h
  | .t _ _, h => by
    rw [okT] at h ⊢
    exact ⟨h2 _ h.1, h.2.1, h.2.2.1, okL_imp h1 h2 h.2.2.2⟩
theorem okL_imp {T N T' N' : Str → Prop} (h1 : ∀ z, T z → T' z) (h2 : ∀ z, N z → N' z) : ∀ {ps : List Pt}, okL T N ps → okL T' N' ps
  | [], _ => by simp [okL]
  | _ :: _, h => by
    rw [okL] at h ⊢
    exact ⟨okT_imp h1 h2 h.1, okL_imp h1 h2 h.2⟩
end
def leafAt (x : V) (u : Pt) : Prop := (∃ n, x = .int n ∧ u = .i n ∧ n.natAbs < 10 ^ 60) ∨ ∃ z, x = .str z ∧ u = .s z
def spFig (K : PySem.W.Frag) : Sp := fun vs H Q _ => ∃ (x : V) (u : Pt), vs = [x] ∧ leafAt x u ∧ ∀ z : Str, tl z = figT u → Q (.str z) H
def Two (K : PySem.W.Frag) (H : Hp) (v : V) : Prop := ∃ a b, TvAt K H 3 v (twoI a b)
def spWt (K : PySem.W.Frag) (k : Nat) : Sp := fun vs H Q _ => ∃ (x : V) (u : Pt), vs = [x] ∧ PtAt K H k x u ∧ okT NmOk NmOk u ∧ ∀ v H', Same H H' → TvAt K H' 3 v (twoI (szT u : Int) (dpT u : Int)) → Q v H'
def spLAlike20 (K : PySem.W.Frag) (k : Nat) : Sp := fun vs H Q _ => ∃ (x y : V) (p q : Pt), vs = [x, y] ∧ PtAt K H k x p ∧ PtAt K H k y q ∧ okT NmOk NmOk p ∧ okT NmOk NmOk q ∧ ∀ (b : Bool) H', Same H H' → (b = true ↔ p = q) → Q (.bl b) H'
theorem two_ex {K : PySem.W.Frag} {H : Hp} {t : Addr} {a b : Int} (h : SqT K H t [.int a, .int b]) : TvAt K H 3 (.ref t) (twoI a b) := by
  refine ⟨t, _, rfl, h, by simp, rfl, fun i y u h1 h2 => ?_⟩
  match i with
  | 0 =>
    cases h1
    cases h2
    rfl
  | 1 =>
    cases h1
    cases h2
    rfl
  | i + 2 => cases h1
theorem two_inv {K : PySem.W.Frag} {H : Hp} {v : V} {a b : Int} (h : TvAt K H 3 v (twoI a b)) : ∃ t, v = .ref t ∧ SqT K H t [.int a, .int b] := by
  obtain ⟨t, vs, rfl, s, _, hl, f⟩ := h
  match vs, hl with
  | [x, y], _ =>
    have e1 : x = .int a := f 0 x (.i a) rfl rfl
    have e2 : y = .int b := f 1 y (.i b) rfl rfl
    subst e1 e2
    exact ⟨t, rfl, s⟩
theorem Two.mono {K : PySem.W.Frag} {H H' : Hp} {v : V} (g : ∀ a xs, SqT K H a xs → SqT K H' a xs) : Two K H v → Two K H' v := fun ⟨a, b, h⟩ => ⟨a, b, h.mono g⟩
theorem stb_two {K : PySem.W.Frag} : Stb2 K (fun H v (p : Pt) => TvAt K H 3 v (twoI (szT p : Int) (dpT p : Int))) := fun _ _ _ _ g h => h.mono g
theorem ints_ex {vs : List V} {ns : List Int} (h : AllAt (fun v (n : Int) => v = .int n) vs ns) : vs = ns.map V.int := by
  refine List.ext_getElem? fun i => ?_
  rw [List.getElem?_map]
  cases e : vs[i]? with
  | none =>
    have h1 := List.getElem?_eq_none_iff.mp e
    rw [List.getElem?_eq_none (by have := h.1; omega)]
    rfl
  | some v =>
    have hi := (List.getElem?_eq_some_iff.mp e).1
    have h2 : ns[i]? = some (ns[i]'(by have := h.1; omega)) := List.getElem?_eq_getElem _
    rw [h2, h.2 i v _ e h2]
    rfl
theorem sum_sz : ∀ ps : List Pt, (ps.map fun p => (szT p : Int)).sum = (szL ps : Int)
  | [] => rfl
  | x :: r => by
    rw [List.map_cons, List.sum_cons, sum_sz r, szL]
    omega
theorem max_dp {ps : List Pt} {mx : Int} (h1 : mx ∈ ps.map fun p => (dpT p : Int)) (h2 : ∀ y, y ∈ (ps.map fun p => (dpT p : Int)) → y ≤ mx) : mx = (dpL ps : Int) := by
  obtain ⟨p, hp, rfl⟩ := List.mem_map.mp h1
  have a := dpL_mem hp
  have b := dpL_le (ps := ps) (k := dpT p) fun q hq => by
    have := h2 _ (List.mem_map.mpr ⟨q, hq, rfl⟩)
    omega
  omega
section
variable {P : Program} {w : World} {K : PySem.W.Frag} {mg : Str → Option Value} {base : Heap} {f : Addr} {fd : FuncData}
def HasFig (P : Program) (w : World) (K : PySem.W.Frag) (mg : Str → Option Value) (base : Heap) : Prop := Has P w K mg base 1 "_law_figure" ["thing"] (spFig K)
def HasWt (k : Nat) (P : Program) (w : World) (K : PySem.W.Frag) (mg : Str → Option Value) (base : Heap) : Prop := Has P w K mg base k "_law_weight" ["thing"] (spWt K k)
def HasLAlike20 (k : Nat) (P : Program) (w : World) (K : PySem.W.Frag) (mg : Str → Option Value) (base : Heap) : Prop := Has P w K mg base k "_law_alike" ["found", "due"] (spLAlike20 K k)
theorem ok_law_figure20 (F : Fun K "_law_figure" "_law_figure" s_law_figure f fd) (T : Txt mg) : FnOk P w K mg base CX0 1 f fd ["thing"] (spFig K) := by
  refine F.ok sc_law_figure (fun vs H Q E h => ?_) (fun cdv A outer s H vs Q E hr h => ?_)
  · obtain ⟨x, u, rfl, _⟩ := h
    rfl
  obtain ⟨x, u, rfl, hx, q⟩ := h
  refine ⟨_, (pss_cons (ps_if (pt_val (pe_callB (call_isiKK (K := K)) (by rfl) T.z_isinstance (by decide +kernel) (pa_cons (pv 0) (pa_cons (pe_bltn (v := .ty "str") (by rfl) T.z_str (by decide +kernel) rfl) pa_nil))))
      (pss_one (ps_ret (pv 0)))
      pss_nil)
    (pss_cons (ps_if (pt_cmpR op_lt (pv 0) pe_int (nomark _))
      (pss_one (ps_ret (pe_op op_add_str pe_str (pe_callTy call_str_int (by rfl) T.z_str (by decide +kernel) (pa_cons (pe_op op_sub pe_int (pv 0)) pa_nil)))))
      pss_nil)
    (pss_one (ps_ret (pe_callTy call_str_int (by rfl) T.z_str (by decide +kernel) (pa_cons (pv 0) pa_nil)))))), ?_⟩
  walk_at "sx"
  rcases hx with ⟨n, rfl, rfl, hn⟩ | ⟨z, rfl, rfl⟩
  · refine x_isT (t := .type "int") (c := false) (.base (.int n)) (kit_ty (by decide +kernel)) ?_
    walk_at "sx"
    refine x_ite (fun c => ?_) (fun c => ?_)
    · walk_at "sx"
      have hl := congrArg List.length (tl_neg20 c)
      have h60 := numL_len (k := 60) (n := (0 - n).toNat) (by decide) (by omega)
      rw [tl_append, List.length_append, tl_lenP, tl_lenP, List.length_cons] at hl
      refine x_strI (strLog20 (by omega)) ?_
      refine x_addS (sz (by
        show _ + (Str.ofString (toString (0 - n))).length ≤ _
        have : (toString (0 - n) : String) = toString (0 - n) := rfl
        omega)) (q _ ?_)
      rw [figT, if_pos c]
      exact tl_neg20 c
    · walk_at "sx"
      refine x_strI (strLog20 hn) (q _ ?_)
      rw [figT, if_neg c]
      exact tl_pos20 c
  · refine x_isT (t := .type "str") (c := true) (.base (.str z)) (kit_ty (by decide +kernel)) ?_
    walk_at "sx"
    exact q z rfl
theorem ok_law_weight (F : Fun K "_law_weight" "_law_weight" s_law_weight f fd) (T : Txt mg) (b : Binds K fd ["thing"] []) (kp : PySem.W.keepIn K (.ref f) = true) (m : mg "_law_weight" = some (.ref f)) : ∀ k, FnOk P w K mg base CX0 k f fd ["thing"] (spWt K k)
  | 0 => ⟨fun vs H Q E h => by
      obtain ⟨v, p, _, h, _⟩ := h
      exact h.elim, fun A outer s H args us vs Q E _ _ _ _ h => by
      obtain ⟨v, p, _, h, _⟩ := h
      exact h.elim⟩
  | k + 1 => by
    have C_law_weight : HasWt k P w K mg base := ⟨f, fd, ok_law_weight F T b kp m k, b, kp, m⟩
    refine F.ok sc_law_weight (fun vs H Q E h => ?_) (fun cdv A outer s H vs Q E hr h => ?_)
    · obtain ⟨v, p, rfl, _⟩ := h
      rfl
    obtain ⟨v, p, rfl, hp, ok, q⟩ := h
    refine ⟨_, (pss_cons (ps_if (pt_not (pt_val (pe_callB (call_isiKK (K := K)) (by rfl) T.z_isinstance (by decide +kernel) (pa_cons (pv 0) (pa_cons (pe_bltn (v := .ty "tuple") (by rfl) T.z_tuple (by decide +kernel) rfl) pa_nil)))))
      (pss_one (ps_ret (pe_tup (pa_cons pe_int (pa_cons pe_int pa_nil)))))
      pss_nil)
    (pss_cons (ps_setLc (i := 1) (own := [("part", 2)]) (g := gName 2) (tt := tYes) rfl sc_law_weight.nd rfl rfl (sw_true rfl rfl rfl (by decide +kernel)) (pi_tup (pe_slice (sl_tupAK (K := K)) (pv 0) (po_some pe_int) po_none)) (blkOk_by (own := [("part", 2)]) (N := ["thing", "parts", "part", "one"]) (sc := defScope s_law_weight) (by decide +kernel)) (fun _ _ _ _ _ => pg_name (i := 2) sc_law_weight.nd rfl (Or.inl rfl)) (fun _ _ _ _ _ => pts_nil) (fun _ _ _ _ _ => (pe_callH C_law_weight hr (pa_cons (pv 2) pa_nil) (hk := Nat.le_refl _))))
    (pss_one (ps_ret (pe_tup (pa_cons (pe_op op_add pe_int (pe_callB (cr_sum rfl) (by rfl) T.z_sum (by decide +kernel) (pa_cons (pe_lc (own := [("one", 3)]) (g := gName 3) (tt := tYes) rfl sc_law_weight.nd (pi_list (pv 1)) (blkOk_by (own := [("one", 3)]) (N := ["thing", "parts", "part", "one"]) (sc := defScope s_law_weight) (by decide +kernel)) (fun _ _ _ _ _ => pg_name (i := 3) sc_law_weight.nd rfl (Or.inl rfl)) (fun _ _ _ _ _ => pts_nil) (fun _ _ _ _ _ => (pe_ix (ix_tupK (K := K)) (pv 3) pe_int (fun _ _ => rfl)))) pa_nil))) (pa_cons (pe_op op_add pe_int (pe_callB (cr_maxKK (K := K) rfl) (by rfl) T.z_max (by decide +kernel) (pa_cons (pe_lc (own := [("one", 3)]) (g := gName 3) (tt := tYes) rfl sc_law_weight.nd (pi_list (pv 1)) (blkOk_by (own := [("one", 3)]) (N := ["thing", "parts", "part", "one"]) (sc := defScope s_law_weight) (by decide +kernel)) (fun _ _ _ _ _ => pg_name (i := 3) sc_law_weight.nd rfl (Or.inl rfl)) (fun _ _ _ _ _ => pts_nil) (fun _ _ _ _ _ => (pe_ix (ix_tupK (K := K)) (pv 3) pe_int (fun _ _ => rfl)))) pa_nil))) pa_nil))))))), ?_⟩
    walk_at "sx"
    rcases hp.three with ⟨n, rfl, rfl⟩ | ⟨z, rfl, rfl⟩ | ⟨j, nm, ps, a, ys, ej, rfl, rfl, sa, pq⟩
    · refine x_isT (t := .type "int") (c := false) (.base (.int n)) (kit_ty (by decide +kernel)) ?_
      walk_at "sx"
      rename_i t nt
      exact q _ _ (same_upd nt) (two_ex (.of upd_same))
    · refine x_isT (t := .type "str") (c := false) (.base (.str z)) (kit_ty (by decide +kernel)) ?_
      walk_at "sx"
      rename_i t nt
      exact q _ _ (same_upd nt) (two_ex (.of upd_same))
    · have ej' : j = k := by omega
      subst ej'
      rw [okT] at ok
      obtain ⟨_, l0, l4, okl⟩ := ok
      refine x_isT (t := .type "tuple") (c := true) (ty_tup sa) (kit_ty (by decide +kernel)) ?_
      walk_at "sx"
      refine x_slA sa fun r H1 k1 sr => ?_
      rw [cut_tail] at sr
      have pq1 := pq.same k1
      refine x_lcMT (R := fun H v p => PtAt K H j v p) (S := fun H v (p : Pt) => TvAt K H 3 v (twoI (szT p : Int) (dpT p : Int))) id sr ⟨pq1.1, pq1.2⟩ (fun s h => h.same s) stb_two (by omega) (fun G v x kG hx hv Q' P' q' => ?_) (fun D G us' hD kG eD hu => ?_)
      · walk_at "sx"
        refine ⟨rfl, ?_⟩
        walk_at "sx"
        exact ⟨v, x, rfl, hv, okL_mem.mp okl x hx, fun v' H' k' tv => q' _ _ k' tv⟩
      · rw [List.map_id] at hu
        walk_at "sx"
        refine x_lcML (R := fun H v (p : Pt) => TvAt K H 3 v (twoI (szT p : Int) (dpT p : Int))) (S := fun H v (n : Int) => v = .int n) (fun p => (szT p : Int)) (.of eD) (fun G' k' => .of (k' _ _ eD)) hu (fun s h => h.mono fun _ _ z => Same.sqT s z) (fun _ _ _ _ _ h => h) (by omega) (fun G2 v x kG2 hx hv Q' P' q' => ?_) (fun D2 G2 us2 hD2 kG2 eD2 hu2 => ?_)
        · obtain ⟨t, rfl, st⟩ := two_inv hv
          walk_at "sx"
          refine ⟨rfl, ?_⟩
          walk_at "sx"
          exact q' _ _ (same_refl _) rfl
        · obtain rfl := ints_ex hu2
          walk_at "sx"
          refine ⟨D2, ps.map fun p => (szT p : Int), rfl, .of eD2, ?_⟩
          walk_at "sx"
          refine x_lcML (R := fun H v (p : Pt) => TvAt K H 3 v (twoI (szT p : Int) (dpT p : Int))) (S := fun H v (n : Int) => v = .int n) (fun p => (dpT p : Int)) (.of (kG2 _ _ eD)) (fun G' k' => .of (k' _ _ (kG2 _ _ eD))) (hu.mono fun v b h => h.mono fun _ _ z => Same.sqT kG2 z) (fun s h => h.mono fun _ _ z => Same.sqT s z) (fun _ _ _ _ _ h => h) (by omega) (fun G3 v x kG3 hx hv Q' P' q' => ?_) (fun D3 G3 us3 hD3 kG3 eD3 hu3 => ?_)
          · obtain ⟨t, rfl, st⟩ := two_inv hv
            walk_at "sx"
            refine ⟨rfl, ?_⟩
            walk_at "sx"
            exact q' _ _ (same_refl _) rfl
          · obtain rfl := ints_ex hu3
            walk_at "sx"
            refine x_max (.of eD3) (by rw [List.length_map]; omega) fun mx hm1 hm2 => ?_
            walk_at "sx"
            rename_i t nt
            have e1 : (1 : Int) + (ps.map fun p => (szT p : Int)).sum = ((szT (.t nm ps) : Nat) : Int) := by
              rw [szT, sum_sz]
              omega
            have e2 : (1 : Int) + mx = ((dpT (.t nm ps) : Nat) : Int) := by
              rw [dpT, max_dp hm1 hm2]
              omega
            rw [← e1, ← e2] at q
            exact q _ _ ((((k1.trans kG).trans kG2).trans kG3).trans (same_upd nt)) (two_ex (.of upd_same))
theorem ok_law_alike20 (F : Fun K "_law_alike" "_law_alike" s_law_alike f fd) (T : Txt mg) (b : Binds K fd ["found", "due"] []) (kp : PySem.W.keepIn K (.ref f) = true) (m : mg "_law_alike" = some (.ref f)) : ∀ k, FnOk P w K mg base CX0 k f fd ["found", "due"] (spLAlike20 K k)
  | 0 => ⟨fun vs H Q E h => by
      obtain ⟨x, y, u, _, _, h, _⟩ := h
      exact h.elim, fun A outer s H args us vs Q E _ _ _ _ h => by
      obtain ⟨x, y, u, _, _, h, _⟩ := h
      exact h.elim⟩
  | k + 1 => by
    have C_law_alike : HasLAlike20 k P w K mg base := ⟨f, fd, ok_law_alike20 F T b kp m k, b, kp, m⟩
    refine F.ok sc_law_alike (fun vs H Q E h => ?_) (fun cdv A outer s H vs Q E hr h => ?_)
    · obtain ⟨x, y, p, q', rfl, _⟩ := h
      rfl
    obtain ⟨x, y, p, q', rfl, hp, hq, op, oq, q⟩ := h
    have hk : k ≤ k := Nat.le_refl k
    refine ⟨_, (pss_cons (ps_if (pt_val (pe_callB (call_isiKK (K := K)) (by rfl) T.z_isinstance (by decide +kernel) (pa_cons (pv 1) (pa_cons (pe_bltn (v := .ty "tuple") (by rfl) T.z_tuple (by decide +kernel) rfl) pa_nil))))
      (pss_cons (ps_if (PW.pt (pw_or (pt_not (pt_val (pe_callB (call_isiKK (K := K)) (by rfl) T.z_isinstance (by decide +kernel) (pa_cons (pv 0) (pa_cons (pe_bltn (v := .ty "tuple") (by rfl) T.z_tuple (by decide +kernel) rfl) pa_nil))))) (pw_or1 (pt_cmpR op_ne (pe_callB (call_lenK (K := K)) (by rfl) T.z_len (by decide +kernel) (pa_cons (pv 0) pa_nil)) (pe_callB (call_lenK (K := K)) (by rfl) T.z_len (by decide +kernel) (pa_cons (pv 1) pa_nil)) (nomark _)))))
      (pss_one (ps_ret pe_bl))
      pss_nil)
    (pss_one (ps_ret (pe_callB (cr_allK (K := K) rfl) (by rfl) T.z_all (by decide +kernel) (pa_cons (pe_lc (own := [("k", 2)]) (g := gName 2) (tt := tYes) rfl sc_law_alike.nd (pi_range1 (by rfl) T.z_range (pa_cons (pe_callB (call_lenK (K := K)) (by rfl) T.z_len (by decide +kernel) (pa_cons (pv 1) pa_nil)) pa_nil)) (blkOk_by (own := [("k", 2)]) (N := ["found", "due", "k"]) (sc := defScope s_law_alike) (by decide +kernel)) (fun _ _ _ _ _ => pg_name (i := 2) sc_law_alike.nd rfl (Or.inl rfl)) (fun _ _ _ _ _ => pts_nil) (fun _ _ _ _ _ => (pe_callH C_law_alike hr (pa_cons (pe_ix (ix_tupK (K := K)) (pv 0) (pv 2) (fun _ _ => rfl)) (pa_cons (pe_ix (ix_tupK (K := K)) (pv 1) (pv 2) (fun _ _ => rfl)) pa_nil)) (hk := Nat.le_refl _)))) pa_nil)))))
      pss_nil)
    (pss_cons (ps_if (pt_val (pe_callB (call_isiKK (K := K)) (by rfl) T.z_isinstance (by decide +kernel) (pa_cons (pv 1) (pa_cons (pe_bltn (v := .ty "str") (by rfl) T.z_str (by decide +kernel) rfl) pa_nil))))
      (pss_one (ps_ret (pe_and (pe_callB (call_isiKK (K := K)) (by rfl) T.z_isinstance (by decide +kernel) (pa_cons (pv 0) (pa_cons (pe_bltn (v := .ty "str") (by rfl) T.z_str (by decide +kernel) rfl) pa_nil))) (pe_one (pe_cmpR op_eq (pv 0) (pv 1) (nomark _))))))
      pss_nil)
    (pss_one (ps_ret (pe_and (pe_callB (call_isiKK (K := K)) (by rfl) T.z_isinstance (by decide +kernel) (pa_cons (pv 0) (pa_cons (pe_bltn (v := .ty "int") (by rfl) T.z_int (by decide +kernel) rfl) pa_nil))) (pe_and (pe_not (pe_callB (call_isiKK (K := K)) (by rfl) T.z_isinstance (by decide +kernel) (pa_cons (pv 0) (pa_cons (pe_bltn (v := .ty "bool") (by rfl) T.z_bool (by decide +kernel) rfl) pa_nil)))) (pe_one (pe_cmpR op_eq (pv 0) (pv 1) (nomark _))))))))), ?_⟩
    walk_at "sx"
    rcases hq.three with ⟨n, rfl, rfl⟩ | ⟨z, rfl, rfl⟩ | ⟨j, nm, qs, b, ys, ej, rfl, rfl, sb, qq⟩
    · refine x_isT (t := .type "int") (c := false) (.base (.int n)) (kit_ty (by decide +kernel)) ?_
      walk_at "sx"
      refine x_isT (t := .type "int") (c := false) (.base (.int n)) (kit_ty (by decide +kernel)) ?_
      walk_at "sx"
      rcases hp.three with ⟨n', rfl, rfl⟩ | ⟨z, rfl, rfl⟩ | ⟨j, nm, ps, a, xs, ej, rfl, rfl, sa, pp⟩
      · refine x_isT (t := .type "int") (c := true) (.base (.int n')) (kit_ty (by decide +kernel)) ?_
        walk_at "sx"
        refine x_isT (t := .type "int") (c := false) (.base (.int n')) (kit_ty (by decide +kernel)) ?_
        walk_at "sx"
        exact q _ _ (same_refl _) ⟨fun h => by rw [V.int.inj (of_decide_eq_true h)], fun h => decide_eq_true (by rw [Pt.i.inj h])⟩
      · refine x_isT (t := .type "str") (c := false) (.base (.str z)) (kit_ty (by decide +kernel)) ?_
        walk_at "sx"
        exact q _ _ (same_refl _) ⟨(fun h => by cases h), (fun h => by cases h)⟩
      · refine x_isT (t := .type "tuple") (c := false) (ty_tup sa) (kit_ty (by decide +kernel)) ?_
        walk_at "sx"
        exact q _ _ (same_refl _) ⟨(fun h => by cases h), (fun h => by cases h)⟩
    · refine x_isT (t := .type "str") (c := false) (.base (.str z)) (kit_ty (by decide +kernel)) ?_
      walk_at "sx"
      refine x_isT (t := .type "str") (c := true) (.base (.str z)) (kit_ty (by decide +kernel)) ?_
      walk_at "sx"
      rcases hp.three with ⟨n', rfl, rfl⟩ | ⟨z', rfl, rfl⟩ | ⟨j, nm, ps, a, xs, ej, rfl, rfl, sa, pp⟩
      · refine x_isT (t := .type "int") (c := false) (.base (.int n')) (kit_ty (by decide +kernel)) ?_
        walk_at "sx"
        exact q _ _ (same_refl _) ⟨(fun h => by cases h), (fun h => by cases h)⟩
      · refine x_isT (t := .type "str") (c := true) (.base (.str z')) (kit_ty (by decide +kernel)) ?_
        walk_at "sx"
        exact q _ _ (same_refl _) ⟨fun h => by rw [V.str.inj (of_decide_eq_true h)], fun h => decide_eq_true (by rw [Pt.s.inj h])⟩
      · refine x_isT (t := .type "tuple") (c := false) (ty_tup sa) (kit_ty (by decide +kernel)) ?_
        walk_at "sx"
        exact q _ _ (same_refl _) ⟨(fun h => by cases h), (fun h => by cases h)⟩
    · have ej' : j = k := by omega
      subst ej'
      refine x_isT (t := .type "tuple") (c := true) (ty_tup sb) (kit_ty (by decide +kernel)) ?_
      walk_at "sx"
      rcases hp.three with ⟨n', rfl, rfl⟩ | ⟨z', rfl, rfl⟩ | ⟨j', nm', ps, a, xs, ej, rfl, rfl, sa, pp⟩
      · refine x_isT (t := .type "int") (c := false) (.base (.int n')) (kit_ty (by decide +kernel)) ?_
        walk_at "sx"
        exact q _ _ (same_refl _) ⟨(fun h => by cases h), (fun h => by cases h)⟩
      · refine x_isT (t := .type "str") (c := false) (.base (.str z')) (kit_ty (by decide +kernel)) ?_
        walk_at "sx"
        exact q _ _ (same_refl _) ⟨(fun h => by cases h), (fun h => by cases h)⟩
      · have ej' : j' = j := by omega
        subst ej'
        rw [okT] at op oq
        have lq := qq.1
        have lp := pp.1
        have l4 := oq.2.2.1
        have j0 : 0 < j' := by
          have hy : ys[0]? = some (ys[0]'(by have := oq.2.1; omega)) := List.getElem?_eq_getElem _
          obtain ⟨u, _, pu⟩ := qq.at hy
          cases j' with
          | zero => exact pu.elim
          | succ j => omega
        have nmAt : ∀ (H : Hp) (z : Str), PtAt K H j' (.str z) (.s z) := fun H z => by
          cases j' with
          | zero => omega
          | succ j => rfl
        have okA : ∀ u ∈ (Pt.s nm' :: ps), okT NmOk NmOk u := fun u hu => by
          rcases List.mem_cons.mp hu with rfl | hu
          · exact op.1
          · exact okL_mem.mp op.2.2.2 u hu
        have okB : ∀ u ∈ (Pt.s nm :: qs), okT NmOk NmOk u := fun u hu => by
          rcases List.mem_cons.mp hu with rfl | hu
          · exact oq.1
          · exact okL_mem.mp oq.2.2.2 u hu
        have pA : PtsAt K H j' (.str nm' :: xs) (.s nm' :: ps) := ⟨by rw [List.length_cons, List.length_cons, lp], fun i y u h1 h2 => by
          cases i with
          | zero =>
            cases h1
            cases h2
            exact nmAt H nm'
          | succ i => exact pp.2 i y u h1 h2⟩
        have pB : PtsAt K H j' (.str nm :: ys) (.s nm :: qs) := ⟨by rw [List.length_cons, List.length_cons, lq], fun i y u h1 h2 => by
          cases i with
          | zero =>
            cases h1
            cases h2
            exact nmAt H nm
          | succ i => exact qq.2 i y u h1 h2⟩
        have whole : ((Pt.s nm' :: ps) = (Pt.s nm :: qs)) ↔ Pt.t nm' ps = Pt.t nm qs := ⟨fun h => by
          obtain ⟨h1, h2⟩ := List.cons.inj h
          rw [Pt.s.inj h1, h2], fun h => by
          obtain ⟨h1, h2⟩ := Pt.t.inj h
          rw [h1, h2]⟩
        generalize hA : (Pt.s nm' :: ps) = pa at *
        generalize hB : (Pt.s nm :: qs) = qb at *
        have lA : (V.str nm' :: xs).length = pa.length := pA.1
        have lB : (V.str nm :: ys).length = qb.length := pB.1
        have lb5 : qb.length ≤ 5 := by rw [← hB, List.length_cons]; omega
        refine x_isT (t := .type "tuple") (c := true) (ty_tup sa) (kit_ty (by decide +kernel)) ?_
        walk_at "sx"
        refine x_iteN (fun c => ?_) (fun c => ?_)
        · walk_at "sx"
          refine q _ _ (same_refl _) ⟨fun h => (by cases h), fun h => absurd ?_ c⟩
          have := whole.mpr h
          rw [lA, lB, this]
        · have ll : pa.length = qb.length := by
            have := V.int.inj c
            omega
          walk_at "sx"
          refine x_lcR1 (n := (V.str nm :: ys).length) (fun D i H' => Same H H' ∧ ∃ bs : List Bool, H' D = some (.lst (bs.map V.bl)) ∧ bs.length = i ∧ (bs.all id = true ↔ pa.take i = qb.take i)) (by omega) (by omega) ?_ ?_ ?_
          · intro D hD
            exact ⟨same_upd hD, [], upd_same, rfl, by simp⟩
          · rintro D hD i H' hi ⟨sH, bs, eD, lbs, hbs⟩
            have hi2 : i < (V.str nm :: ys).length := by omega
            have hi1 : i < (V.str nm' :: xs).length := by omega
            have hi3 : i < pa.length := by omega
            have hi4 : i < qb.length := by omega
            walk_at "sx"
            refine ⟨rfl, ?_⟩
            walk_at "sx"
            refine x_ixT (xs := .str nm' :: xs) (v := (V.str nm' :: xs)[i]) (Same.sqT sH sa) (atI_nat (List.getElem?_eq_getElem hi1)) ?_
            walk_at "sx"
            refine x_ixT (xs := .str nm :: ys) (v := (V.str nm :: ys)[i]) (Same.sqT sH sb) (atI_nat (List.getElem?_eq_getElem hi2)) ?_
            walk_at "sx"
            refine ⟨_, _, pa[i], qb[i], rfl, (pA.2 i _ _ (List.getElem?_eq_getElem hi1) (List.getElem?_eq_getElem hi3)).same sH, (pB.2 i _ _ (List.getElem?_eq_getElem hi2) (List.getElem?_eq_getElem hi4)).same sH, okA _ (List.getElem_mem hi3), okB _ (List.getElem_mem hi4), fun t G sG ht => ?_⟩
            refine ⟨_, sG _ _ eD, szl (by rw [List.length_map]; omega), same_updf (sH.trans sG) hD, bs ++ [t], ?_, by rw [List.length_append, lbs]; rfl, ?_⟩
            · rw [upd_same, List.map_append]
              rfl
            · rw [List.all_append, List.take_succ_eq_append_getElem hi3, List.take_succ_eq_append_getElem hi4, Bool.and_eq_true, hbs]
              have e1 : ([t].all id = true) ↔ t = true := by simp
              rw [e1, ht]
              refine ⟨fun ⟨h1, h2⟩ => by rw [h1, h2], fun h => ?_⟩
              obtain ⟨h1, h2⟩ := List.append_inj' h rfl
              exact ⟨h1, (List.cons.inj h2).1⟩
          · rintro D hD H' ⟨sH, bs, eD, lbs, hbs⟩
            walk_at "sx"
            refine ⟨D, _, rfl, .of eD, ?_⟩
            refine q _ _ sH (hbs.trans ?_)
            rw [lB, Int.toNat_natCast, List.take_length, ← ll, List.take_length]
            exact whole
end
end Gs
namespace Gs
open PySem PySem.Spec PyProof.Rows L2 TL
theorem rows_lv {ops : List Op} (h : OpsOk ops) : ∀ o ∈ ownL ++ ops, 1 ≤ o.l ∧ o.l ≤ 9 := fun o ho => by
  rcases List.mem_append.mp ho with ho | ho
  · exact own_lv o ho
  · exact h.lv o ho
theorem tl_op : tl ("(" : Str) = [40] := by decide +kernel
theorem tl_cl : tl (")" : Str) = [41] := by decide +kernel
end Gs
namespace Gs
open PySem PySem.Spec PyProof.Rows L2 TL
/-! ### the pieces of a written text: how it is cut, how it is read, how many there are -/
theorem figS_tl (n : Int) : tl (figS n) = figT (.i n) := by
  unfold figS
  rw [figT]
  split
  · rename_i h
    rw [tl_append, show tl ("~" : Str) = [126] from by decide +kernel]
    have e : (0 - n) = (((0 - n).toNat : Nat) : Int) := by omega
    show 126 :: tl (Str.ofString (toString (0 - n))) = _
    rw [e, tl_num]
    rfl
  · rename_i h
    have e : n = ((n.toNat : Nat) : Int) := by omega
    show tl (Str.ofString (toString n)) = _
    rw [e, tl_num, Int.toNat_natCast]
/-- what may follow a piece that stands at the end of a part -/
def Edge (l : List Nat) : Prop := ∀ c t, l = c :: t → c = 32 ∨ c = 41 ∨ c = 44
theorem Edge.stop {c : Nat} {l : List Nat} (h : Edge l) (k : ∀ e, e = 32 ∨ e = 40 ∨ e = 41 ∨ e = 44 → e ∉ cls c) : Stop c l := by
  cases l with
  | nil => trivial
  | cons x r =>
    have := h x r rfl
    exact k x (by omega)
end Gs
namespace Gs
open PySem PySem.Spec PyProof.Rows L2 TL
abbrev s_OperatorTable_init : Stmt := (clsBody (PySem.Challenge.pw_goalstead_k14_goals_by_their_shapes.main.body.getD 29 (.Pass ⟨0, 0, 0, 0⟩))).getD 0 (.Pass ⟨0, 0, 0, 0⟩)
theorem sc_OperatorTable_init : FnScope ["self", "operators", "level", "side", "name"] ["self", "operators"] (defScope s_OperatorTable_init) := ⟨rfl, rfl, rfl, by decide +kernel, rfl, by decide +kernel, by decide +kernel⟩
abbrev s_OperatorTable_left_bound : Stmt := (clsBody (PySem.Challenge.pw_goalstead_k14_goals_by_their_shapes.main.body.getD 29 (.Pass ⟨0, 0, 0, 0⟩))).getD 5 (.Pass ⟨0, 0, 0, 0⟩)
theorem sc_OperatorTable_left_bound : FnScope ["self", "name", "level", "side"] ["self", "name"] (defScope s_OperatorTable_left_bound) := ⟨rfl, rfl, rfl, by decide +kernel, rfl, by decide +kernel, by decide +kernel⟩
abbrev s_OperatorTable_right_bound : Stmt := (clsBody (PySem.Challenge.pw_goalstead_k14_goals_by_their_shapes.main.body.getD 29 (.Pass ⟨0, 0, 0, 0⟩))).getD 6 (.Pass ⟨0, 0, 0, 0⟩)
theorem sc_OperatorTable_right_bound : FnScope ["self", "name", "level", "side"] ["self", "name"] (defScope s_OperatorTable_right_bound) := ⟨rfl, rfl, rfl, by decide +kernel, rfl, by decide +kernel, by decide +kernel⟩
abbrev s_OperatorTable_ahead_bound : Stmt := (clsBody (PySem.Challenge.pw_goalstead_k14_goals_by_their_shapes.main.body.getD 29 (.Pass ⟨0, 0, 0, 0⟩))).getD 7 (.Pass ⟨0, 0, 0, 0⟩)
theorem sc_OperatorTable_ahead_bound : FnScope ["self", "name"] ["self", "name"] (defScope s_OperatorTable_ahead_bound) := ⟨rfl, rfl, rfl, by decide +kernel, rfl, by decide +kernel, by decide +kernel⟩
theorem fab : ¬ (("between" : Str) = "ahead") := by decide +kernel
/-- the table's attributes -/
def fldsT (b h : Addr) : List (Str × V) := L2.putF "ahead" (.ref h) (L2.putF "between" (.ref b) [])
theorem flds_b (b h : Addr) : (fldsT b h).lookup ("between" : Str) = some (.ref b) := by
  unfold fldsT
  rw [lookup_putF, if_neg fab, lookup_putF, if_pos rfl]
theorem flds_a (b h : Addr) : (fldsT b h).lookup ("ahead" : Str) = some (.ref h) := by
  unfold fldsT
  rw [lookup_putF, if_pos rfl]
theorem flds_no (b h : Addr) {m : Str} (h1 : ¬ m = "ahead") (h2 : ¬ m = "between") : (fldsT b h).lookup m = none := by
  unfold fldsT
  rw [lookup_putF, if_neg h1, lookup_putF, if_neg h2]
  all_goals rfl
structure TabC (K : PySem.W.Frag) (C : Addr) : Prop where
  cl : Cls K C
  nB : NoAttr K C "between"
  nA : NoAttr K C "ahead"
/-- what the two dicts of a table hold -/
structure DictsAt (K : PySem.W.Frag) (H : Hp) (kb ka : List (Key × V)) (R : List Op) : Prop where
  bn : ∀ nm, rowOf R nm 2 = none → valV kb (Sum.inr nm : Key) = none
  bs : ∀ nm o, rowOf R nm 2 = some o → ∃ t, valV kb (Sum.inr nm : Key) = some (.ref t) ∧ SqT K H t [.int o.l, .str o.s]
  an : ∀ nm, rowOf R nm 1 = none → valV ka (Sum.inr nm : Key) = none
  as : ∀ nm o, rowOf R nm 1 = some o → valV ka (Sum.inr nm : Key) = some (.int o.l)
theorem DictsAt.mono {K : PySem.W.Frag} {H H' : Hp} {kb ka : List (Key × V)} {R : List Op} (d : DictsAt K H kb ka R) (g : ∀ a xs, SqT K H a xs → SqT K H' a xs) : DictsAt K H' kb ka R :=
  ⟨d.bn, fun nm o h => by
    obtain ⟨t, e, s⟩ := d.bs nm o h
    exact ⟨t, e, g _ _ s⟩, d.an, d.as⟩
def TabAt (K : PySem.W.Frag) (C : Addr) (H : Hp) (a : Addr) (R : List Op) : Prop := ∃ (dx b h : Addr) (kb ka : List (Key × V)), H a = some (.ins C dx (fldsT b h)) ∧ H b = some (.dK kb) ∧ H h = some (.dK ka) ∧ DictsAt K H kb ka R
theorem TabAt.same {K : PySem.W.Frag} {C : Addr} {H H' : Hp} {a : Addr} {R : List Op} (t : TabAt K C H a R) (s : Same H H') : TabAt K C H' a R := by
  obtain ⟨dx, b, h, kb, ka, h1, h2, h3, h4⟩ := t
  exact ⟨dx, b, h, kb, ka, s _ _ h1, s _ _ h2, s _ _ h3, h4.mono fun _ _ z => Same.sqT s z⟩
def spTabInit (K : PySem.W.Frag) (C : Addr) : Sp := fun vs H Q _ => ∃ (p l dx : Addr) (es : List V) (R : List Op), vs = [.ref p, .ref l] ∧ H p = some (.ins C dx []) ∧ H l = some (.lst es) ∧ RowsAt K H es R ∧ R.length ≤ 100 ∧ (R.map keyOf).Nodup ∧
  ∀ H', TabAt K C H' p R → (∀ b o, H b = some o → b ≠ p → H' b = some o) → Q .non H'
def spBound (K : PySem.W.Frag) (C : Addr) (s : Str) : Sp := fun vs H Q _ => ∃ (p : Addr) (R : List Op) (nm : Str) (o : Op), vs = [.ref p, .str nm] ∧ TabAt K C H p R ∧ rowOf R nm 2 = some o ∧ Q (.int (if o.s = s then o.l else o.l - 1)) H
def spABound (K : PySem.W.Frag) (C : Addr) : Sp := fun vs H Q _ => ∃ (p : Addr) (R : List Op) (nm : Str) (o : Op), vs = [.ref p, .str nm] ∧ TabAt K C H p R ∧ rowOf R nm 1 = some o ∧ Q (.int (o.l - 1)) H
theorem x_fldB {K : PySem.W.Frag} {C a dx b h : Addr} {σ : L2.St} {H : Hp} {Q : VK} {i : Nat} (TC : TabC K C) (hs : σ[i]? = some (some (.ref a))) (ha : H a = some (.ins C dx (fldsT b h))) (q : Q (.ref b) H) : tFld K (tVar i) "between" σ H Q :=
  ⟨.ref a, hs, a, C, dx, _, _, rfl, ha, TC.cl, TC.nB, flds_b b h, q⟩
theorem x_fldA {K : PySem.W.Frag} {C a dx b h : Addr} {σ : L2.St} {H : Hp} {Q : VK} {i : Nat} (TC : TabC K C) (hs : σ[i]? = some (some (.ref a))) (ha : H a = some (.ins C dx (fldsT b h))) (q : Q (.ref h) H) : tFld K (tVar i) "ahead" σ H Q :=
  ⟨.ref a, hs, a, C, dx, _, _, rfl, ha, TC.cl, TC.nA, flds_a b h, q⟩
theorem x_mt {C a dx : Addr} {m : Str} {sp : Sp} {t : TA} {σ : L2.St} {H : Hp} {Q : VK} {E : XK} {i : Nat} {fs : List (Str × V)} (hs : σ[i]? = some (some (.ref a))) (ha : H a = some (.ins C dx fs)) (hm : fs.lookup m = none) (q : t σ H fun vs H2 => sp (.ref a :: (vs ++ [])) H2 Q E) : tMeth C m sp [] E (tVar i) t σ H Q :=
  ⟨.ref a, hs, a, dx, fs, rfl, ha, hm, q⟩
theorem x_din {td ty : TE} {σ : L2.St} {H : Hp} {Q : VK} (q : ty σ H fun y H1 => td σ H1 fun x H2 => ∃ a o, x = .ref a ∧ DGet H2 a y o ∧ Q (.bl o.isSome) H2) : tDIn ty td σ H Q := q
theorem row_fresh {R : List Op} {i : Nat} {o : Op} (h : R[i]? = some o) (nd : (R.map keyOf).Nodup) {nm : Str} {many : Nat} (c : isRow nm many o = true) : rowOf (R.take i) nm many = none := by
  cases e2 : rowOf (R.take i) nm many with
  | none => rfl
  | some o' =>
    exfalso
    obtain ⟨h1, h2, h3⟩ := rowOf_some e2
    have c' := of_decide_eq_true c
    obtain ⟨j, hj⟩ := List.getElem?_of_mem h1
    have hj' := (List.getElem?_eq_some_iff.mp hj).1
    have hi' := (List.getElem?_eq_some_iff.mp h).1
    rw [List.length_take] at hj'
    rw [List.getElem?_take_of_lt (by omega)] at hj
    have k1 : (R.map keyOf)[j]? = some (keyOf o') := by rw [List.getElem?_map, hj]; rfl
    have k2 : (R.map keyOf)[i]? = some (keyOf o) := by rw [List.getElem?_map, h]; rfl
    have ke : keyOf o' = keyOf o := by
      unfold keyOf
      refine Prod.ext (h2.trans c'.1.symm) ?_
      show decide (o'.s = ("ahead" : Str)) = decide (o.s = ("ahead" : Str))
      rw [decide_eq_decide]
      have c2 := c'.2
      rw [h3] at c2
      by_cases z1 : o'.s = ("ahead" : Str)
      · by_cases z2 : o.s = ("ahead" : Str)
        · simp [z1, z2]
        · rw [if_pos z1, if_neg z2] at c2
          omega
      · by_cases z2 : o.s = ("ahead" : Str)
        · rw [if_neg z1, if_pos z2] at c2
          omega
        · simp [z1, z2]
    rw [ke] at k1
    have := (List.getElem?_inj (by rw [List.length_map]; omega) nd).mp (k1.trans k2.symm)
    omega
theorem row_take {R : List Op} {i : Nat} {o : Op} (h : R[i]? = some o) (nd : (R.map keyOf).Nodup) (nm : Str) (many : Nat) : rowOf (R.take (i + 1)) nm many = if isRow nm many o = true then some o else rowOf (R.take i) nm many := by
  have e : rowOf (R.take (i + 1)) nm many = (rowOf (R.take i) nm many).or (if isRow nm many o = true then some o else none) := by
    unfold rowOf
    rw [take_more h, List.find?_append]
    congr 1
    rw [List.find?_cons]
    cases isRow nm many o <;> rfl
  rw [e]
  by_cases c : isRow nm many o = true
  · rw [if_pos c, if_pos c, row_fresh h nd c]
    rfl
  · rw [if_neg c, if_neg c, Option.or_none]
theorem sqT_but {K : PySem.W.Frag} {H G : Hp} {p C dx a : Addr} {fs : List (Str × V)} {xs : List V} (hp : H p = some (.ins C dx fs)) (k : ∀ b o, H b = some o → b ≠ p → G b = some o) (s : SqT K H a xs) : SqT K G a xs := by
  rcases s with (s | ⟨u, s⟩) | s
  · exact .inl (.inl (k _ _ s (ne_of s hp (by intro z; cases z))))
  · exact .inl (.inr ⟨u, k _ _ s (ne_of s hp (by intro z; cases z))⟩)
  · exact .inr s
section
variable {P : Program} {w : World} {K : PySem.W.Frag} {mg : Str → Option Value} {base : Heap} {f C : Addr} {fd : FuncData}
def HasLB (C : Addr) (P : Program) (w : World) (K : PySem.W.Frag) (mg : Str → Option Value) (base : Heap) : Prop := C8.Met P w K mg base 1 C "left_bound" (spBound K C "left") []
def HasRB (C : Addr) (P : Program) (w : World) (K : PySem.W.Frag) (mg : Str → Option Value) (base : Heap) : Prop := C8.Met P w K mg base 1 C "right_bound" (spBound K C "right") []
def HasAB (C : Addr) (P : Program) (w : World) (K : PySem.W.Frag) (mg : Str → Option Value) (base : Heap) : Prop := C8.Met P w K mg base 1 C "ahead_bound" (spABound K C) []
def HasTab (C : Addr) (P : Program) (w : World) (K : PySem.W.Frag) (mg : Str → Option Value) (base : Heap) : Prop := C8.Mak P w K mg base 1 "OperatorTable" C (spTabInit K C) []
theorem ok_left_bound (F : Fun K "left_bound" "OperatorTable.left_bound" s_OperatorTable_left_bound f fd) (T : Txt mg) (TC : TabC K C) : FnOk P w K mg base CX0 1 f fd ["self", "name"] (spBound K C "left") := by
  refine F.ok sc_OperatorTable_left_bound (fun vs H Q E h => ?_) (fun cdv A outer s H vs Q E hr h => ?_)
  · obtain ⟨p, R, nm, o, rfl, _⟩ := h
    rfl
  obtain ⟨p, R, nm, o, rfl, tb, ho, q⟩ := h
  obtain ⟨dx, b, h, kb, ka, h1, h2, h3, h4⟩ := tb
  obtain ⟨t, et, st⟩ := h4.bs nm o ho
  refine ⟨_, (pss_cons (ps_asg (pe_dget (hu_of hr) (pe_fld (pv 0) rfl) (pv 1) (fun _ _ => rfl)) (pg_tup (by rfl) (pgs_cons (pg_name (i := 2) sc_OperatorTable_left_bound.nd rfl (.inl rfl)) (pgs_cons (pg_name (i := 3) sc_OperatorTable_left_bound.nd rfl (.inl rfl)) pgs_nil))))
    (pss_one (ps_ret (pe_ifExp (pt_cmpR op_eq (pv 3) pe_str (nomark _)) (pv 2) (pe_op op_sub (pv 2) pe_int))))), ?_⟩
  walk_at "sx"
  refine x_dget ?_
  refine x_fldB TC rfl h1 ?_
  walk_at "sx"
  refine ⟨b, .ref t, rfl, et ▸ DGet.k (k := Sum.inr nm) h2, ?_⟩
  walk_at "sx"
  refine x_ite (fun c => ?_) (fun c => ?_)
  · walk_at "sx"
    rw [if_pos (V.str.inj c)] at q
    exact q
  · walk_at "sx"
    rw [if_neg fun z => c (congrArg V.str z)] at q
    exact q
theorem ok_right_bound (F : Fun K "right_bound" "OperatorTable.right_bound" s_OperatorTable_right_bound f fd) (T : Txt mg) (TC : TabC K C) : FnOk P w K mg base CX0 1 f fd ["self", "name"] (spBound K C "right") := by
  refine F.ok sc_OperatorTable_right_bound (fun vs H Q E h => ?_) (fun cdv A outer s H vs Q E hr h => ?_)
  · obtain ⟨p, R, nm, o, rfl, _⟩ := h
    rfl
  obtain ⟨p, R, nm, o, rfl, tb, ho, q⟩ := h
  obtain ⟨dx, b, h, kb, ka, h1, h2, h3, h4⟩ := tb
  obtain ⟨t, et, st⟩ := h4.bs nm o ho
  refine ⟨_, (pss_cons (ps_asg (pe_dget (hu_of hr) (pe_fld (pv 0) rfl) (pv 1) (fun _ _ => rfl)) (pg_tup (by rfl) (pgs_cons (pg_name (i := 2) sc_OperatorTable_right_bound.nd rfl (.inl rfl)) (pgs_cons (pg_name (i := 3) sc_OperatorTable_right_bound.nd rfl (.inl rfl)) pgs_nil))))
    (pss_one (ps_ret (pe_ifExp (pt_cmpR op_eq (pv 3) pe_str (nomark _)) (pv 2) (pe_op op_sub (pv 2) pe_int))))), ?_⟩
  walk_at "sx"
  refine x_dget ?_
  refine x_fldB TC rfl h1 ?_
  walk_at "sx"
  refine ⟨b, .ref t, rfl, et ▸ DGet.k (k := Sum.inr nm) h2, ?_⟩
  walk_at "sx"
  refine x_ite (fun c => ?_) (fun c => ?_)
  · walk_at "sx"
    rw [if_pos (V.str.inj c)] at q
    exact q
  · walk_at "sx"
    rw [if_neg fun z => c (congrArg V.str z)] at q
    exact q
theorem ok_ahead_bound (F : Fun K "ahead_bound" "OperatorTable.ahead_bound" s_OperatorTable_ahead_bound f fd) (T : Txt mg) (TC : TabC K C) : FnOk P w K mg base CX0 1 f fd ["self", "name"] (spABound K C) := by
  refine F.ok sc_OperatorTable_ahead_bound (fun vs H Q E h => ?_) (fun cdv A outer s H vs Q E hr h => ?_)
  · obtain ⟨p, R, nm, o, rfl, _⟩ := h
    rfl
  obtain ⟨p, R, nm, o, rfl, tb, ho, q⟩ := h
  obtain ⟨dx, b, h, kb, ka, h1, h2, h3, h4⟩ := tb
  have et := h4.as nm o ho
  refine ⟨_, (pss_one (ps_ret (pe_op op_sub (pe_dget (hu_of hr) (pe_fld (pv 0) rfl) (pv 1) (fun _ _ => rfl)) pe_int))), ?_⟩
  walk_at "sx"
  refine x_dget ?_
  refine x_fldA TC rfl h1 ?_
  walk_at "sx"
  refine ⟨h, .int o.l, rfl, et ▸ DGet.k (k := Sum.inr nm) h3, ?_⟩
  walk_at "sx"
  exact q
theorem ok_tab_init (F : Fun K "__init__" "OperatorTable.__init__" s_OperatorTable_init f fd) (T : Txt mg) (TC : TabC K C) : FnOk P w K mg base CX0 1 f fd ["self", "operators"] (spTabInit K C) := by
  refine F.ok sc_OperatorTable_init (fun vs H Q E h => ?_) (fun cdv A outer s H vs Q E hr h => ?_)
  · obtain ⟨p, l, dx, es, R, rfl, _⟩ := h
    rfl
  obtain ⟨p, l, dx, es, R, rfl, hp, hl, hro, hlen, nd, q⟩ := h
  refine ⟨_, (pss_cons (ps_fld (pv 0) pe_dnewK rfl)
    (pss_cons (ps_fld (pv 0) pe_dnewK rfl)
    (pss_one (ps_for PassesOwn.never rfl (pi_list (pv 1)) (pg_tup (by rfl) (pgs_cons (pg_name (i := 2) sc_OperatorTable_init.nd rfl (.inl rfl)) (pgs_cons (pg_name (i := 3) sc_OperatorTable_init.nd rfl (.inl rfl)) (pgs_cons (pg_name (i := 4) sc_OperatorTable_init.nd rfl (.inl rfl)) pgs_nil))))
      (pss_one (ps_if (pt_cmpR op_eq (pv 3) pe_str (nomark _))
      (pss_one (ps_asg (pv 2) (pg_sub (pe_fld (pv 0) rfl) (pv 4) (set_dict (Nat.lt_of_le_of_lt (Nat.add_le_add_left (by decide : 1 ≤ 64) _) hr.units)))))
      (pss_one (ps_asg (pe_tup (pa_cons (pv 2) (pa_cons (pv 3) pa_nil))) (pg_sub (pe_fld (pv 0) rfl) (pv 4) (set_dict (Nat.lt_of_le_of_lt (Nat.add_le_add_left (by decide : 1 ≤ 64) _) hr.units))))))))))), ?_⟩
  intro d hd
  have ndp : p ≠ d := ne_of_none hp hd
  refine ⟨.ref p, rfl, p, C, dx, [], rfl, (by rw [upd_ne ndp]; exact hp), TC.cl, TC.nB, (by show 0 < 1000; decide), ?_⟩
  intro d2 hd2
  have hd2p : d2 ≠ p := fun z => by rw [z, upd_same] at hd2; cases hd2
  have hd2d : d2 ≠ d := fun z => by rw [z, upd_ne ndp.symm, upd_same] at hd2; cases hd2
  have hd20 : H d2 = none := by
    rw [upd_ne hd2p, upd_ne hd2d] at hd2
    exact hd2
  refine ⟨.ref p, rfl, p, C, dx, _, rfl, (by rw [upd_ne hd2p.symm]; exact upd_same), TC.cl, TC.nA, (by show 1 < 1000; decide), ?_⟩
  have g1 : upd (upd (upd (upd H d (.dK [])) p (.ins C dx (L2.putF "between" (.ref d) []))) d2 (.dK [])) p (.ins C dx (L2.putF "ahead" (.ref d2) (L2.putF "between" (.ref d) []))) p = some (.ins C dx (fldsT d d2)) := upd_same
  have g2 : upd (upd (upd (upd H d (.dK [])) p (.ins C dx (L2.putF "between" (.ref d) []))) d2 (.dK [])) p (.ins C dx (L2.putF "ahead" (.ref d2) (L2.putF "between" (.ref d) []))) d = some (.dK []) := by
    rw [upd_ne ndp.symm, upd_ne hd2d.symm, upd_ne ndp.symm, upd_same]
  have g3 : upd (upd (upd (upd H d (.dK [])) p (.ins C dx (L2.putF "between" (.ref d) []))) d2 (.dK [])) p (.ins C dx (L2.putF "ahead" (.ref d2) (L2.putF "between" (.ref d) []))) d2 = some (.dK []) := by
    rw [upd_ne hd2p, upd_same]
  have g4 : ∀ b o, H b = some o → b ≠ p → upd (upd (upd (upd H d (.dK [])) p (.ins C dx (L2.putF "between" (.ref d) []))) d2 (.dK [])) p (.ins C dx (L2.putF "ahead" (.ref d2) (L2.putF "between" (.ref d) []))) b = some o := fun b o e h => by
    rw [upd_ne h, upd_ne (ne_of_none e hd20), upd_ne h, upd_ne (ne_of_none e hd)]
    exact e
  generalize upd (upd (upd (upd H d (.dK [])) p (.ins C dx (L2.putF "between" (.ref d) []))) d2 (.dK [])) p (.ins C dx (L2.putF "ahead" (.ref d2) (L2.putF "between" (.ref d) []))) = G0 at *
  have nlp : l ≠ p := ne_of hl hp (by intro z; cases z)
  walk_at "sx"
  refine x_forL (K := K) (a := l) (xs := es) (fun i σ' G => ∃ (kb ka : List (Key × V)) (x y z : Option V), σ' = [some (.ref p), some (.ref l), x, y, z] ∧ G p = some (.ins C dx (fldsT d d2)) ∧ G d = some (.dK kb) ∧ G d2 = some (.dK ka) ∧ kb.length ≤ i ∧ ka.length ≤ i ∧ DictsAt K G kb ka (R.take i) ∧ ∀ b o, H b = some o → b ≠ p → G b = some o)
    ⟨[], [], none, none, none, rfl, g1, g2, g3, Nat.le_refl _, Nat.le_refl _, ⟨fun _ _ => rfl, (fun _ _ h => by cases h), fun _ _ => rfl, (fun _ _ h => by cases h)⟩, g4⟩ (fun i σ' G _ h => ?_) ?_ ?_ (.of (g4 _ _ hl nlp))
  · obtain ⟨kb, ka, x, y, z, _, _, _, _, _, _, _, h4⟩ := h
    exact .of (h4 _ _ hl nlp)
  · rintro i v σ' G hi ⟨kb, ka, x, y, z, rfl, h1, h2, h3, lb, la, da, h4⟩
    obtain ⟨r, e, rfl, he, sr0⟩ := hro.at hi
    have hi' : i < R.length := (List.getElem?_eq_some_iff.mp he).1
    have sr := sqT_but hp h4 sr0
    have rt := row_take he nd
    walk_at "sx"
    refine x_ite (fun c => ?_) (fun c => ?_)
    · have c' : e.s = ("ahead" : Str) := V.str.inj c
      walk_at "sx"
      refine x_fldA TC rfl h1 ?_
      walk_at "sx"
      refine ⟨d2, _, rfl, DPut.k (k := Sum.inr e.n) h3 (szl (by omega)), ?_⟩
      have hit : isRow e.n 1 e = true := decide_eq_true ⟨rfl, by rw [if_pos c']⟩
      have vn := da.an e.n (row_fresh he nd hit)
      have no2 : ∀ nm, ¬ isRow nm 2 e = true := fun nm z => by
        have := (of_decide_eq_true z).2
        rw [if_pos c'] at this
        omega
      have hn : ∀ nm, isRow nm 1 e = true ↔ nm = e.n := fun nm => ⟨fun z => ((of_decide_eq_true z).1).symm, fun z => by rw [z]; exact hit⟩
      have gg : ∀ (o : HO) b xs, SqT K G b xs → SqT K (upd G d2 o) b xs := fun o b xs z => sqT_dk h3 z
      refine ⟨kb, _, _, _, _, rfl, by rw [upd_ne hd2p.symm]; exact h1, by rw [upd_ne hd2d.symm]; exact h2, upd_same, by omega, ?_, ⟨fun nm z => ?_, fun nm o z => ?_, fun nm z => ?_, fun nm o z => ?_⟩, fun b o e' hb => ?_⟩
      · rw [putK_new _ vn, List.length_append]
        show ka.length + 1 ≤ _
        omega
      · rw [rt, if_neg (no2 nm)] at z
        exact da.bn nm z
      · rw [rt, if_neg (no2 nm)] at z
        obtain ⟨t, et, st⟩ := da.bs nm o z
        exact ⟨t, et, gg _ _ _ st⟩
      · rw [rt] at z
        by_cases hh : isRow nm 1 e = true
        · rw [if_pos hh] at z
          cases z
        · rw [if_neg hh] at z
          rw [valV_put, if_neg (fun y => hh ((hn nm).mpr (Sum.inr.inj y)))]
          exact da.an nm z
      · rw [rt] at z
        by_cases hh : isRow nm 1 e = true
        · rw [if_pos hh] at z
          cases z
          rw [valV_put, if_pos (by rw [(hn nm).mp hh])]
        · rw [if_neg hh] at z
          rw [valV_put, if_neg (fun y => hh ((hn nm).mpr (Sum.inr.inj y)))]
          exact da.as nm o z
      · rw [upd_ne (fun y => by rw [y, hd20] at e'; cases e')]
        exact h4 b o e' hb
    · have c' : ¬ e.s = ("ahead" : Str) := fun z => c (congrArg V.str z)
      walk_at "sx"
      rename_i t nt
      have h1' : upd G t (.tup [.int e.l, .str e.s]) p = some (.ins C dx (fldsT d d2)) := by walk_at "hx"
      have h2' : upd G t (.tup [.int e.l, .str e.s]) d = some (.dK kb) := by walk_at "hx"
      have h3' : upd G t (.tup [.int e.l, .str e.s]) d2 = some (.dK ka) := by walk_at "hx"
      have st : SqT K (upd G t (.tup [.int e.l, .str e.s])) t [.int e.l, .str e.s] := .of upd_same
      have da' := da.mono (fun _ _ z => Same.sqT (same_upd (o := .tup [.int e.l, .str e.s]) nt) z)
      have h4' : ∀ b o, H b = some o → b ≠ p → upd G t (.tup [.int e.l, .str e.s]) b = some o := fun b o z hb => by
        rw [upd_ne (ne_of_none (h4 b o z hb) nt)]
        exact h4 b o z hb
      generalize upd G t (.tup [.int e.l, .str e.s]) = G2 at *
      refine x_fldB TC rfl h1' ?_
      walk_at "sx"
      refine ⟨d, _, rfl, DPut.k (k := Sum.inr e.n) h2' (szl (by omega)), ?_⟩
      have hit : isRow e.n 2 e = true := decide_eq_true ⟨rfl, by rw [if_neg c']⟩
      have vn := da.bn e.n (row_fresh he nd hit)
      have no1 : ∀ nm, ¬ isRow nm 1 e = true := fun nm z => by
        have := (of_decide_eq_true z).2
        rw [if_neg c'] at this
        omega
      have hn : ∀ nm, isRow nm 2 e = true ↔ nm = e.n := fun nm => ⟨fun z => ((of_decide_eq_true z).1).symm, fun z => by rw [z]; exact hit⟩
      have gg : ∀ (o : HO) b xs, SqT K G2 b xs → SqT K (upd G2 d o) b xs := fun o b xs z => sqT_dk h2' z
      refine ⟨_, ka, _, _, _, rfl, by rw [upd_ne ndp]; exact h1', upd_same, by rw [upd_ne hd2d]; exact h3', ?_, by omega, ⟨fun nm z => ?_, fun nm o z => ?_, fun nm z => ?_, fun nm o z => ?_⟩, fun b o e' hb => ?_⟩
      · rw [putK_new _ vn, List.length_append]
        show kb.length + 1 ≤ _
        omega
      · rw [rt] at z
        by_cases hh : isRow nm 2 e = true
        · rw [if_pos hh] at z
          cases z
        · rw [if_neg hh] at z
          rw [valV_put, if_neg (fun y => hh ((hn nm).mpr (Sum.inr.inj y)))]
          exact da'.bn nm z
      · rw [rt] at z
        by_cases hh : isRow nm 2 e = true
        · rw [if_pos hh] at z
          cases z
          exact ⟨t, by rw [valV_put, if_pos (by rw [(hn nm).mp hh])], gg _ _ _ st⟩
        · rw [if_neg hh] at z
          obtain ⟨t2, et, st2⟩ := da'.bs nm o z
          exact ⟨t2, by rw [valV_put, if_neg (fun y => hh ((hn nm).mpr (Sum.inr.inj y)))]; exact et, gg _ _ _ st2⟩
      · rw [rt, if_neg (no1 nm)] at z
        exact da'.an nm z
      · rw [rt, if_neg (no1 nm)] at z
        exact da'.as nm o z
      · rw [upd_ne (fun y => by rw [y, hd] at e'; cases e')]
        exact h4' b o e' hb
  · rintro σ' G ⟨kb, ka, x, y, z, rfl, h1, h2, h3, lb, la, da, h4⟩
    rw [hro.1, List.take_length] at da
    walk_at "sx"
    exact q G ⟨dx, d, d2, kb, ka, h1, h2, h3, da⟩ h4
end
end Gs
namespace Gs
open PySem PySem.Spec PyProof.Rows L2 TL
def LvOk (R : List Op) : Prop := ∀ o ∈ R, 1 ≤ o.l ∧ o.l ≤ 9
theorem Short.of {R : List Op} {top : Int} {u : Pt} {z : Str} (hz : tl z = formT R top u) (ok : okT NmOk NmOk u) : z.length ≤ 80 * szT u := by
  rw [← tl_lenP, hz]
  exact formT_len top u (okT_imp (fun _ h => NmOk.len h) (fun _ h => NmOk.len h) ok)
end Gs
namespace Gs
open PySem PySem.Spec PyProof.Rows L2 TL
theorem Stp.snoc {R : List Op} {nm : Str} {o : Op} {le : Int} {y : Pt} {tb : List Str} {d : Nat} (ho : rowOf R nm 2 = some o) (hy : Spt R d le y tb) (hle : le ≤ rbO o) : ∀ {la lev : Int} {a p : Pt} {ts : List Str}, Stp R d la a lev p ts → lev ≤ lbO o → Stp R d la a o.l (.t nm [p, y]) (ts ++ nm :: tb)
  | la, _, a, _, _, .nil, h => by
    have : Stp R d la a o.l (.t nm [a, y]) (nm :: (tb ++ [])) := Stp.cons ho h hy hle .nil
    simpa using this
  | _, _, _, _, _, .cons h1 h2 h3 h4 h5, h => by
    have := Stp.cons h1 h2 h3 h4 (Stp.snoc ho hy hle h5 h)
    simpa [List.append_assoc] using this
theorem Spt.join {R : List Op} {nm : Str} {o : Op} {la le : Int} {x y : Pt} {ta tb : List Str} {d : Nat} (ho : rowOf R nm 2 = some o) (hx : Spt R (d + 1) la x ta) (hla : la ≤ lbO o) (hy : Spt R d le y tb) (hle : le ≤ rbO o) : Spt R (d + 1) o.l (.t nm [x, y]) (ta ++ nm :: tb) := by
  cases hx with
  | mk hp hs =>
    have := Spt.mk hp (hs.snoc ho hy hle hla)
    simpa [List.append_assoc] using this
theorem Prim.spt {R : List Op} {d : Nat} {la : Int} {p : Pt} {ts : List Str} (h : Prim R (d + 1) la p ts) : Spt R (d + 1) la p ts := by
  have := Spt.mk h .nil
  simpa using this
/-! how deep the brackets are -/
def Opn (ts : List Str) (k : Int) : Prop := ∀ m c : Int, ∃ m', ts.foldl mo (m, c) = (m', c) ∧ m' ≤ max m (c + k)
theorem Opn.mono {ts : List Str} {k j : Int} (h : Opn ts k) (hk : k ≤ j) : Opn ts j := fun m c => by
  obtain ⟨m', e, hm⟩ := h m c
  exact ⟨m', e, by omega⟩
theorem Opn.app {a b : List Str} {k : Int} (h : Opn a k) (g : Opn b k) : Opn (a ++ b) k := fun m c => by
  obtain ⟨m1, e1, h1⟩ := h m c
  obtain ⟨m2, e2, h2⟩ := g m1 c
  exact ⟨m2, by rw [List.foldl_append, e1, e2], by omega⟩
theorem mo_name {z : Str} (h1 : z ≠ ("(" : Str)) (h2 : z ≠ (")" : Str)) (m c : Int) : mo (m, c) z = (if c > m then c else m, c) := by
  unfold mo
  rw [if_neg h1, if_neg h2]
theorem opn_name {z : Str} (h1 : z ≠ ("(" : Str)) (h2 : z ≠ (")" : Str)) : Opn [z] 0 := fun m c => ⟨_, mo_name h1 h2 m c, by split <;> omega⟩
theorem opn_cons {z : Str} {ts : List Str} {k : Int} (h1 : z ≠ ("(" : Str)) (h2 : z ≠ (")" : Str)) (h : Opn ts k) (hk : 0 ≤ k) : Opn (z :: ts) k := ((opn_name h1 h2).mono hk).app h
theorem mo_open (m c : Int) : mo (m, c) ("(" : Str) = (if c + 1 > m then c + 1 else m, c + 1) := by
  unfold mo
  rw [if_pos rfl]
theorem mo_shut (m c : Int) : mo (m, c) (")" : Str) = (if c - 1 > m then c - 1 else m, c - 1) := by
  unfold mo
  rw [if_neg (by decide +kernel), if_pos rfl]
theorem opn_par {ts : List Str} {k : Int} (h : Opn ts k) (hk : 0 ≤ k) : Opn (("(" : Str) :: (ts ++ [(")" : Str)])) (k + 1) := fun m c => by
  rw [List.foldl_cons, mo_open, List.foldl_append]
  obtain ⟨m1, e1, h1⟩ := h (if c + 1 > m then c + 1 else m) (c + 1)
  rw [e1, List.foldl_cons, mo_shut, List.foldl_nil]
  refine ⟨_, by rw [Int.add_sub_cancel], ?_⟩
  split at h1 <;> split <;> omega
theorem opn_commas {k : Int} (hk : 0 ≤ k) : ∀ tss : List (List Str), 0 < tss.length → (∀ t ∈ tss, Opn t k) → ∀ m c : Int, ∃ m', (commas tss).foldl mo (m, c) = (m', c - 1) ∧ m' ≤ max m (c + k)
  | [], h, _, _, _ => absurd h (by simp)
  | [t], _, h, m, c => by
    obtain ⟨m1, e1, h1⟩ := h t (List.mem_cons_self ..) m c
    show ∃ m', (t ++ [(")" : Str)]).foldl mo (m, c) = (m', c - 1) ∧ _
    rw [List.foldl_append, e1, List.foldl_cons, mo_shut, List.foldl_nil]
    exact ⟨_, rfl, by split <;> omega⟩
  | t :: u :: r, _, h, m, c => by
    obtain ⟨m1, e1, h1⟩ := h t (List.mem_cons_self ..) m c
    show ∃ m', (t ++ ("," : Str) :: commas (u :: r)).foldl mo (m, c) = (m', c - 1) ∧ _
    rw [List.foldl_append, e1, List.foldl_cons, mo_name (by decide +kernel) (by decide +kernel)]
    obtain ⟨m2, e2, h2⟩ := opn_commas hk (u :: r) (by simp) (fun t ht => h t (List.mem_cons_of_mem _ ht)) (if c > m1 then c else m1) c
    refine ⟨m2, e2, ?_⟩
    split at h2 <;> omega
theorem not_sign {z : Str} {c : Nat} {t : List Nat} (e : tl z = c :: t) (h1 : c ≠ 40) (h2 : c ≠ 41) : z ≠ ("(" : Str) ∧ z ≠ (")" : Str) := ⟨fun y => by
  rw [y, tl_op] at e
  exact h1 (List.cons.inj e).1.symm, fun y => by
  rw [y, tl_cl] at e
  exact h2 (List.cons.inj e).1.symm⟩
theorem figS_sign (n : Int) : figS n ≠ ("(" : Str) ∧ figS n ≠ (")" : Str) := by
  have e := figS_tl n
  rw [figT] at e
  by_cases hm : n < 0
  · rw [if_pos hm] at e
    exact not_sign e (by decide) (by decide)
  · rw [if_neg hm] at e
    cases en : numL n.toNat with
    | nil => exact absurd en (numL_ne _)
    | cons c t =>
      have := sD_iff.mp (numL_D n.toNat c (by rw [en]; exact List.mem_cons_self ..))
      exact not_sign (by rw [e, en]) (by omega) (by omega)
theorem row_sign {R : List Op} (br : ∀ z ∈ ([("(" : Str), (")" : Str), ("," : Str)] : List Str), rowOf R z 1 = none ∧ rowOf R z 2 = none) {nm : Str} {k : Nat} {o : Op} (hk : k = 1 ∨ k = 2) (h : rowOf R nm k = some o) : nm ≠ ("(" : Str) ∧ nm ≠ (")" : Str) := by
  refine ⟨fun z => ?_, fun z => ?_⟩
  · have := br nm (by simp [z])
    rcases hk with rfl | rfl
    · rw [this.1] at h
      cases h
    · rw [this.2] at h
      cases h
  · have := br nm (by simp [z])
    rcases hk with rfl | rfl
    · rw [this.1] at h
      cases h
    · rw [this.2] at h
      cases h
theorem wd_sign {R : List Op} {z : Str} (h : Wd R z) : z ≠ ("(" : Str) ∧ z ≠ (")" : Str) := by
  obtain ⟨⟨c, t, e, hc⟩, _⟩ := h
  have := sS_iff.mp hc
  exact not_sign e (by omega) (by omega)
end Gs
namespace Gs
open PySem PySem.Spec PyProof.Rows L2 TL
abbrev s_size_of : Stmt := PySem.Challenge.pw_goalstead_k14_goals_by_their_shapes.main.body.getD 40 (.Pass ⟨0, 0, 0, 0⟩)
theorem sc_size_of : FnScope ["pattern", "many", "waiting", "part"] ["pattern"] (defScope s_size_of) := ⟨rfl, rfl, rfl, by decide +kernel, rfl, by decide +kernel, by decide +kernel⟩
abbrev s_is_unknown : Stmt := PySem.Challenge.pw_goalstead_k14_goals_by_their_shapes.main.body.getD 24 (.Pass ⟨0, 0, 0, 0⟩)
theorem sc_is_unknown : FnScope ["part"] ["part"] (defScope s_is_unknown) := ⟨rfl, rfl, rfl, by decide +kernel, rfl, by decide +kernel, by decide +kernel⟩
abbrev s_depth_of : Stmt := PySem.Challenge.pw_goalstead_k14_goals_by_their_shapes.main.body.getD 41 (.Pass ⟨0, 0, 0, 0⟩)
theorem sc_depth_of : FnScope ["pattern", "depth", "layer", "whole", "part"] ["pattern"] (defScope s_depth_of) := ⟨rfl, rfl, rfl, by decide +kernel, rfl, by decide +kernel, by decide +kernel⟩
abbrev s_unknowns_of : Stmt := PySem.Challenge.pw_goalstead_k14_goals_by_their_shapes.main.body.getD 43 (.Pass ⟨0, 0, 0, 0⟩)
theorem sc_unknowns_of : FnScope ["pattern", "found", "waiting", "part"] ["pattern"] (defScope s_unknowns_of) := ⟨rfl, rfl, rfl, by decide +kernel, rfl, by decide +kernel, by decide +kernel⟩
def spSize (K : PySem.W.Frag) : Sp := fun vs H Q _ => ∃ (v : V) (k : Nat) (p : Pt), vs = [v] ∧ PtAt K H k v p ∧ szT p ≤ 10000 ∧ ∀ H', Same H H' → Q (.int (szT p)) H'
section
variable {P : Program} {w : World} {K : PySem.W.Frag} {mg : Str → Option Value} {base : Heap} {f : Addr} {fd : FuncData}
theorem ok_size_of (F : Fun K "size_of" "size_of" s_size_of f fd) (T : Txt mg) : FnOk P w K mg base CX0 1 f fd ["pattern"] (spSize K) := by
  refine F.ok sc_size_of (fun vs H Q E h => ?_) (fun cdv A outer s H vs Q E hr h => ?_)
  · obtain ⟨v, k, p, rfl, _⟩ := h
    rfl
  obtain ⟨v, k, p, rfl, hp, hs, q⟩ := h
  refine ⟨_, (pss_cons (ps_set (i := 1) sc_size_of.nd rfl (Or.inl rfl) pe_int)
    (pss_cons (ps_set (i := 2) sc_size_of.nd rfl (Or.inl rfl) (pe_lst (pa_cons (pv 0) pa_nil)))
    (pss_cons (ps_while PassesOwn.never (pt_truthK (K := K) (pv 2) (by intro _; rfl))
      (pss_cons (ps_set (i := 3) sc_size_of.nd rfl (Or.inl rfl) (pe_bm0 PySem.F.plainAttrs_list PySem.F.slot_list_pop PySem.F.type_list_pop mt_pop (pv 2)))
    (pss_cons (ps_aug (i := 1) sc_size_of.nd rfl (.inl rfl) pe_int ip_add)
    (pss_one (ps_if (pt_val (pe_callB (call_isiKK (K := K)) (by rfl) T.z_isinstance (by decide +kernel) (pa_cons (pv 3) (pa_cons (pe_bltn (v := .ty "tuple") (by rfl) T.z_tuple (by decide +kernel) rfl) pa_nil))))
      (pss_one (ps_expr (pe_bm PySem.F.plainAttrs_list PySem.F.slot_list_extend PySem.F.type_list_extend mt_extX (pv 2) (pa_cons (pe_slice (sl_tupX (K := K)) (pv 3) (po_some pe_int) po_none) pa_nil))))
      pss_nil)))))
    (pss_one (ps_ret (pv 1)))))), ?_⟩
  walk_at "sx"
  rename_i w1 nw
  refine x_while (fun m σ' G => ∃ (vs : List V) (ps : List Pt) (x : Option V) (many : Nat), σ' = [some v, some (.int (many : Int)), some (.ref w1), x] ∧ G w1 = some (.lst vs) ∧ PtsAt K G k vs ps ∧ many + szL ps = szT p ∧ m = szL ps ∧ Same H G) (szL [p]) ?_ ?_
  · exact ⟨[v], [p], none, 0, rfl, upd_same, .one (hp.same (same_upd nw)), by simp [szL], rfl, same_upd nw⟩
  · rintro m σ' G ⟨vs, ps, x, many, rfl, hw, hps, hm, rfl, sG⟩
    have ll := hps.1
    have l2 := szL_len ps
    walk_at "sx"
    refine ⟨!vs.isEmpty, .inl ⟨vs, .of hw, rfl⟩, x_iteB (fun c => ?_) (fun c => ?_)⟩
    · have hn : 0 < vs.length := by
        cases vs with
        | nil => cases c
        | cons a r => exact Nat.succ_pos _
      have hy : vs[vs.length - 1]? = some (vs[vs.length - 1]'(by omega)) := List.getElem?_eq_getElem _
      obtain ⟨u, hu, pu⟩ := hps.at hy
      rw [ll] at hu
      have hs1 := last_szL hu
      have hs2 := szT_pos u
      refine ⟨fun σ' G => ∃ (vs' : List V) (ps' : List Pt) (x : Option V) (many : Nat), σ' = [some v, some (.int (many : Int)), some (.ref w1), x] ∧ G w1 = some (.lst vs') ∧ PtsAt K G k vs' ps' ∧ many + szL ps' = szT p ∧ szL ps' < szL ps ∧ Same H G, ?_, ?_⟩
      · rintro σ' G' ⟨vs', ps', x', many', e1, e2, e3, e4, e5, e6⟩
        exact ⟨_, e5, vs', ps', x', many', e1, e2, e3, e4, rfl, e6⟩
      walk_at "sx"
      refine ⟨w1, vs, _, rfl, rfl, hw, hy, ?_⟩
      walk_at "sx"
      have hw2 : upd G w1 (.lst vs.dropLast) w1 = some (.lst vs.dropLast) := upd_same
      have pu2 := pu.lst (o := .lst vs.dropLast) hw
      have hps2 := hps.dropLast.lst (o := .lst vs.dropLast) hw
      have sG2 : Same H (upd G w1 (.lst vs.dropLast)) := same_updf sG nw
      generalize upd G w1 (.lst vs.dropLast) = G2 at *
      generalize vs[vs.length - 1]'(by omega) = y at *
      rcases pu2.three with ⟨n, rfl, rfl⟩ | ⟨z, rfl, rfl⟩ | ⟨j, nm, qs, a, us, rfl, rfl, rfl, sa, pq⟩
      · refine x_isT (t := .type "int") (c := false) (.base (.int n)) (kit_ty (by decide +kernel)) ?_
        walk_at "sx"
        exact ⟨_, _, _, many + 1, rfl, hw2, hps2, by rw [szT] at hs1; omega, by omega, sG2⟩
      · refine x_isT (t := .type "str") (c := false) (.base (.str z)) (kit_ty (by decide +kernel)) ?_
        walk_at "sx"
        exact ⟨_, _, _, many + 1, rfl, hw2, hps2, by rw [szT] at hs1; omega, by omega, sG2⟩
      · refine x_isT (t := .type "tuple") (c := true) (ty_tup sa) (kit_ty (by decide +kernel)) ?_
        walk_at "sx"
        rw [szT] at hs1
        have lq := szL_len qs
        have lu := pq.1
        have ld := hps2.1
        have ld2 := szL_len ps.dropLast
        refine ⟨a, _, rfl, sa, cut_tail_ne _ _, fun b nb => ?_⟩
        rw [cut_tail]
        walk_at "sx"
        refine ⟨w1, b, vs.dropLast, us, rfl, rfl, by walk_at "hx", upd_same, sz (by omega), ?_⟩
        walk_at "sx"
        have kb : Same G2 (upd G2 b (txO b us)) := same_upd nb
        refine ⟨vs.dropLast ++ us, ps.dropLast ++ qs, _, many + 1, rfl, upd_same, ?_, by rw [szL_append]; omega, by rw [szL_append]; omega, same_updf (sG2.trans kb) nw⟩
        exact ((hps2.same kb).append ((pq.up (Nat.le_succ _)).same kb)).lst (ys := vs.dropLast) (by walk_at "hx")
    · have hn : vs = [] := by
        cases vs with
        | nil => rfl
        | cons a r => cases c
      subst hn
      cases ps with
      | cons a r => cases ll
      | nil =>
        rw [szL] at hm
        walk_at "sx"
        have e : many = szT p := by omega
        rw [e]
        exact q _ sG
def TxOk (z : Str) : Prop := ∃ c t, tl z = c :: t ∧ z.length ≤ 1000
def spUnknown (K : PySem.W.Frag) : Sp := fun vs H Q _ => ∃ (v : V) (k : Nat) (p : Pt), vs = [v] ∧ PtAt K H k v p ∧ (∀ z, p = .s z → TxOk z) ∧ Q (.bl (unk p)) H
def spUnknowns (K : PySem.W.Frag) : Sp := fun vs H Q _ => ∃ (v : V) (k : Nat) (p : Pt) (N : Str → Prop), vs = [v] ∧ PtAt K H k v p ∧ okT TxOk N p ∧ szT p ≤ 10000 ∧ ∀ a H', H a = none → Same H H' → H' a = some (.lst ((once (nmT p)).map V.str)) → Q (.ref a) H'
def HasUnknown (P : Program) (w : World) (K : PySem.W.Frag) (mg : Str → Option Value) (base : Heap) : Prop := Has P w K mg base 1 "is_unknown" ["part"] (spUnknown K)
theorem ok_is_unknown (F : Fun K "is_unknown" "is_unknown" s_is_unknown f fd) (T : Txt mg) : FnOk P w K mg base CX0 1 f fd ["part"] (spUnknown K) := by
  refine F.ok sc_is_unknown (fun vs H Q E h => ?_) (fun cdv A outer s H vs Q E hr h => ?_)
  · obtain ⟨v, k, p, rfl, _⟩ := h
    rfl
  obtain ⟨v, k, p, rfl, hp, ht, q⟩ := h
  refine ⟨_, (pss_one (ps_ret (pe_and (pe_callB (call_isiKK (K := K)) (by rfl) T.z_isinstance (by decide +kernel) (pa_cons (pv 0) (pa_cons (pe_bltn (v := .ty "str") (by rfl) T.z_str (by decide +kernel) rfl) pa_nil))) (pe_one (pe_cmpR op_in_sign (pe_ix ix_str (pv 0) pe_int (fun _ _ => rfl)) (pe_globS rfl T.c_CAPITALS) (by rfl)))))), ?_⟩
  walk_at "sx"
  rcases hp.three with ⟨n, rfl, rfl⟩ | ⟨z, rfl, rfl⟩ | ⟨j, nm, qs, a, us, rfl, rfl, rfl, sa, pq⟩
  · refine x_isT (t := .type "int") (c := false) (.base (.int n)) (kit_ty (by decide +kernel)) ?_
    walk_at "sx"
    exact q
  · refine x_isT (t := .type "str") (c := true) (.base (.str z)) (kit_ty (by decide +kernel)) ?_
    walk_at "sx"
    obtain ⟨c, t, e, hl⟩ := ht z rfl
    have e' : z.cps.toList = c :: t := e
    refine x_ixS (c := c) (sz (by omega)) (at0 (by rw [e']; rfl)) ?_
    walk_at "sx"
    have eu : unk (.s z) = decide (c ∈ ("ABCDEFGHIJKLMNOPQRSTUVWXYZ" : Str).cps.toList) := by
      show unkS z = decide (c ∈ tl ("ABCDEFGHIJKLMNOPQRSTUVWXYZ" : Str))
      rw [tl_C]
      unfold unkS
      rw [e]
    rw [← eu]
    exact q
  · refine x_isT (t := .type "tuple") (c := false) (ty_tup sa) (kit_ty (by decide +kernel)) ?_
    walk_at "sx"
    exact q
theorem ok_unknowns_of (F : Fun K "unknowns_of" "unknowns_of" s_unknowns_of f fd) (T : Txt mg) (C_is_unknown : HasUnknown P w K mg base) : FnOk P w K mg base CX0 2 f fd ["pattern"] (spUnknowns K) := by
  refine F.ok sc_unknowns_of (fun vs H Q E h => ?_) (fun cdv A outer s H vs Q E hr h => ?_)
  · obtain ⟨v, k, p, N, rfl, _⟩ := h
    rfl
  obtain ⟨v, k, p, N, rfl, hp, hok, hs, q⟩ := h
  refine ⟨_, (pss_cons (ps_set (i := 1) sc_unknowns_of.nd rfl (Or.inl rfl) pe_dnewK)
    (pss_cons (ps_set (i := 2) sc_unknowns_of.nd rfl (Or.inl rfl) (pe_lst (pa_cons (pv 0) pa_nil)))
    (pss_cons (ps_while PassesOwn.never (pt_truthK (K := K) (pv 2) (by intro _; rfl))
      (pss_cons (ps_set (i := 3) sc_unknowns_of.nd rfl (Or.inl rfl) (pe_bm0 PySem.F.plainAttrs_list PySem.F.slot_list_pop PySem.F.type_list_pop mt_pop (pv 2)))
    (pss_one (ps_if (pt_val (pe_callB (call_isiKK (K := K)) (by rfl) T.z_isinstance (by decide +kernel) (pa_cons (pv 3) (pa_cons (pe_bltn (v := .ty "tuple") (by rfl) T.z_tuple (by decide +kernel) rfl) pa_nil))))
      (pss_one (ps_expr (pe_bm PySem.F.plainAttrs_list PySem.F.slot_list_extend PySem.F.type_list_extend mt_extX (pv 2) (pa_cons (pe_backX (pv 3)) pa_nil))))
      (pss_one (ps_if (pt_val (pe_callH C_is_unknown hr (pa_cons (pv 3) pa_nil)))
      (pss_one (ps_asg pe_bl (pg_sub (pv 1) (pv 3) (set_dict (Nat.lt_of_le_of_lt (Nat.add_le_add_left (by decide : 1 ≤ 64) _) hr.units)))))
      pss_nil))))))
    (pss_one (ps_ret (pe_callTy (call_list_dK rfl) (by rfl) T.z_list (by decide +kernel) (pa_cons (pv 1) pa_nil))))))), ?_⟩
  walk_at "sx"
  intro d nd
  walk_at "sx"
  rename_i w1 nw
  have ndw : d ≠ w1 := ne_of_none upd_same nw
  have nwH : H w1 = none := (same_upd nd).free nw
  refine x_while (fun m σ' G => ∃ (vs : List V) (ps : List Pt) (x : Option V) (occ : List Str), σ' = [some v, some (.ref d), some (.ref w1), x] ∧ G w1 = some (.lst vs) ∧ G d = some (.dK (fdK (once occ))) ∧ PtsAt K G k vs ps ∧ okL TxOk N ps ∧ occ ++ nmL ps.reverse = nmT p ∧ szL ps ≤ szT p ∧ m = szL ps ∧ Same H G) (szL [p]) ?_ ?_
  · exact ⟨[v], [p], none, [], rfl, upd_same, by walk_at "hx", .one ((hp.same (same_upd nd)).same (same_upd nw)), ⟨hok, trivial⟩, by simp [nmL], by simp [szL], rfl, by walk_at "sm"⟩
  · rintro m σ' G ⟨vs, ps, x, occ, rfl, hw, hd, hps, hokp, ho, hb, rfl, sG⟩
    have ll := hps.1
    have l2 := szL_len ps
    walk_at "sx"
    refine ⟨!vs.isEmpty, .inl ⟨vs, .of hw, rfl⟩, x_iteB (fun c => ?_) (fun c => ?_)⟩
    · have hn : 0 < vs.length := by
        cases vs with
        | nil => cases c
        | cons a r => exact Nat.succ_pos _
      have hy : vs[vs.length - 1]? = some (vs[vs.length - 1]'(by omega)) := List.getElem?_eq_getElem _
      obtain ⟨u, hu, pu⟩ := hps.at hy
      rw [ll] at hu
      have hs1 := last_szL hu
      have hs2 := szT_pos u
      have hnm : nmL ps.reverse = nmT u ++ nmL ps.dropLast.reverse := by
        have h := hu
        rw [← List.getLast?_eq_getElem?] at h
        obtain ⟨ys, rfl⟩ := List.getLast?_eq_some_iff.mp h
        rw [List.dropLast_concat, List.reverse_append]
        rfl
      have hou : okT TxOk N u := okL_mem.mp hokp u (List.mem_of_getElem? hu)
      have hod : okL TxOk N ps.dropLast := okL_sub hokp fun p hp => mem_dropLast hp
      rw [hnm, ← List.append_assoc] at ho
      refine ⟨fun σ' G => ∃ (vs' : List V) (ps' : List Pt) (x : Option V) (occ : List Str), σ' = [some v, some (.ref d), some (.ref w1), x] ∧ G w1 = some (.lst vs') ∧ G d = some (.dK (fdK (once occ))) ∧ PtsAt K G k vs' ps' ∧ okL TxOk N ps' ∧ occ ++ nmL ps'.reverse = nmT p ∧ szL ps' < szL ps ∧ Same H G, ?_, ?_⟩
      · rintro σ' G' ⟨vs', ps', x', occ', e1, e2, e2', e3, e4, e5, e6, e7⟩
        exact ⟨_, e6, vs', ps', x', occ', e1, e2, e2', e3, e4, e5, by omega, rfl, e7⟩
      walk_at "sx"
      refine ⟨w1, vs, _, rfl, rfl, hw, hy, ?_⟩
      walk_at "sx"
      have hw2 : upd G w1 (.lst vs.dropLast) w1 = some (.lst vs.dropLast) := upd_same
      have hd2 : upd G w1 (.lst vs.dropLast) d = some (.dK (fdK (once occ))) := by walk_at "hx"
      have pu2 := pu.lst (o := .lst vs.dropLast) hw
      have hps2 := hps.dropLast.lst (o := .lst vs.dropLast) hw
      have sG2 : Same H (upd G w1 (.lst vs.dropLast)) := same_updf sG nwH
      generalize upd G w1 (.lst vs.dropLast) = G2 at *
      generalize vs[vs.length - 1]'(by omega) = y at *
      rcases pu2.three with ⟨n, rfl, rfl⟩ | ⟨z, rfl, rfl⟩ | ⟨j, nm, qs, a, us, rfl, rfl, rfl, sa, pq⟩
      · refine x_isT (t := .type "int") (c := false) (.base (.int n)) (kit_ty (by decide +kernel)) ?_
        walk_at "sx"
        refine ⟨_, k, _, rfl, pu2, (fun z hz => by cases hz), ?_⟩
        walk_at "sx"
        rw [nmT, List.append_nil] at ho
        exact ⟨_, _, _, occ, rfl, hw2, hd2, hps2, hod, ho, by omega, sG2⟩
      · refine x_isT (t := .type "str") (c := false) (.base (.str z)) (kit_ty (by decide +kernel)) ?_
        walk_at "sx"
        refine ⟨_, k, _, rfl, pu2, (fun z' hz => by cases hz; exact hou), ?_⟩
        walk_at "sx"
        refine x_iteB (fun cu => ?_) (fun cu => ?_)
        · have cu' : unkS z = true := cu
          rw [nmT, if_pos cu'] at ho
          have hol : occ.length + 1 ≤ szT p := by
            have h1 := congrArg List.length ho
            rw [List.length_append, List.length_append] at h1
            have h2 := nmT_len p
            simp only [List.length_cons, List.length_nil] at h1
            omega
          have h3 := once_len occ []
          walk_at "sx"
          refine ⟨d, _, rfl, .inl ⟨_, Sum.inr z, hd2, rfl, szl ?_, rfl⟩, ?_⟩
          · unfold fdK
            rw [List.length_map]
            simp only [List.length_nil] at h3
            show (List.foldl _ [] occ).length < _
            omega
          · rw [fdK_put, ← once_more]
            refine ⟨_, _, _, occ ++ [z], rfl, by walk_at "hx", upd_same, hps2.mono fun _ _ s => sqT_dk hd2 s, hod, ho, by omega, same_updf sG2 nd⟩
        · have cu' : ¬ unkS z = true := fun h => by
            have : unkS z = false := cu
            rw [h] at this
            cases this
          rw [nmT, if_neg cu', List.append_nil] at ho
          walk_at "sx"
          exact ⟨_, _, _, occ, rfl, hw2, hd2, hps2, hod, ho, by omega, sG2⟩
      · refine x_isT (t := .type "tuple") (c := true) (ty_tup sa) (kit_ty (by decide +kernel)) ?_
        walk_at "sx"
        refine ⟨_, rfl, a, _, us, rfl, sa, fun b nb => ?_⟩
        walk_at "sx"
        rw [szT] at hs1
        rw [nmT] at ho
        have lq := szL_len qs
        have lu := pq.1
        have ld := hps2.1
        have ld2 := szL_len ps.dropLast
        refine ⟨w1, b, vs.dropLast, us.reverse, rfl, rfl, by walk_at "hx", upd_same, sz (by rw [List.length_reverse]; omega), ?_⟩
        have kb : Same G2 (upd G2 b (txO b us.reverse)) := same_upd nb
        have hdw : upd (upd G2 b (txO b us.reverse)) w1 (.lst (vs.dropLast ++ us.reverse)) d = some (.dK (fdK (once occ))) := by walk_at "hx"
        refine ⟨vs.dropLast ++ us.reverse, ps.dropLast ++ qs.reverse, _, occ, rfl, upd_same, hdw, ?_, ?_, ?_, by rw [szL_append, szL_reverse]; omega, same_updf (sG2.trans kb) nwH⟩
        · exact ((hps2.same kb).append ((pq.reverse.up (Nat.le_succ _)).same kb)).lst (ys := vs.dropLast) (by walk_at "hx")
        · refine okL_mem.mpr fun p hp => ?_
          rcases List.mem_append.mp hp with hp | hp
          · exact okL_mem.mp hod p hp
          · exact okL_mem.mp hou.2.2.2 p (List.mem_reverse.mp hp)
        · rw [List.reverse_append, List.reverse_reverse, nmL_append, ← List.append_assoc]
          exact ho
    · have hn : vs = [] := by
        cases vs with
        | nil => rfl
        | cons a r => cases c
      subst hn
      cases ps with
      | cons a r => cases ll
      | nil =>
        have eo : occ = nmT p := by
          have : occ ++ [] = nmT p := ho
          rwa [List.append_nil] at this
        walk_at "sx"
        refine ⟨d, _, rfl, hd, fun a na => ?_⟩
        rw [fdK_keys, eo]
        exact q a _ (sG.free na) (sG.trans (same_upd na)) upd_same
def spDepthOf (K : PySem.W.Frag) : Sp := fun vs H Q _ => ∃ (v : V) (k : Nat) (p : Pt), vs = [v] ∧ PtAt K H k v p ∧ szT p ≤ 10000 ∧ ∀ H', Same H H' → Q (.int (dpT p)) H'
theorem ok_depth_of (F : Fun K "depth_of" "depth_of" s_depth_of f fd) (T : Txt mg) : FnOk P w K mg base CX0 1 f fd ["pattern"] (spDepthOf K) := by
  refine F.ok sc_depth_of (fun vs H Q E h => ?_) (fun cdv A outer s H vs Q E hr h => ?_)
  · obtain ⟨v, k, p, rfl, _⟩ := h
    rfl
  obtain ⟨v, k, p, rfl, hp, hs, q⟩ := h
  refine ⟨_, (pss_cons (ps_set (i := 1) sc_depth_of.nd rfl (Or.inl rfl) pe_int)
    (pss_cons (ps_set (i := 2) sc_depth_of.nd rfl (Or.inl rfl) (pe_lst (pa_cons (pv 0) pa_nil)))
    (pss_cons (ps_while PassesOwn.never (pt_truthK (K := K) (pv 2) (by intro _; rfl))
      (pss_cons (ps_aug (i := 1) sc_depth_of.nd rfl (.inl rfl) pe_int ip_add)
    (pss_one (ps_setLc2 (i := 2) (own := [("whole", 3), ("part", 4)]) (vs1 := [4]) (g := gName 3) (g1 := gName 4) (tt1 := tYes) rfl sc_depth_of.nd rfl rfl (sw_true rfl rfl rfl (by decide +kernel)) (pi_list (pv 2)) (blkOk_by (own := [("whole", 3), ("part", 4)]) (N := ["pattern", "depth", "layer", "whole", "part"]) (sc := defScope s_depth_of) (by decide +kernel)) (by decide) (fun _ _ _ _ _ => pg_name (i := 3) sc_depth_of.nd rfl (Or.inl rfl)) (fun _ _ _ _ _ => (pts_one (pt_val (pe_callB (call_isiKK (K := K)) (by rfl) T.z_isinstance (by decide +kernel) (pa_cons (pv 3) (pa_cons (pe_bltn (v := .ty "tuple") (by rfl) T.z_tuple (by decide +kernel) rfl) pa_nil)))))) (fun _ _ _ _ _ => (pi_tupK (K := K) (pe_slice (sl_tupK (K := K)) (pv 3) (po_some pe_int) po_none))) (fun _ _ _ _ _ => pg_name (i := 4) sc_depth_of.nd rfl (Or.inl rfl)) (fun _ _ _ _ _ => pts_nil) (fun _ _ _ _ _ => (pv 4))))))
    (pss_one (ps_ret (pv 1)))))), ?_⟩
  walk_at "sx"
  rename_i w1 nw
  refine x_while (fun m σ' G => ∃ (w2 : Addr) (vs : List V) (ps : List Pt) (d : Nat), σ' = [some v, some (.int (d : Int)), some (.ref w2), none, none] ∧ G w2 = some (.lst vs) ∧ PtsAt K G k vs ps ∧ d + dpL ps = dpT p ∧ szL ps ≤ szT p ∧ m = dpL ps ∧ Same H G) (dpL [p]) ?_ ?_
  · exact ⟨w1, [v], [p], 0, rfl, upd_same, .one (hp.same (same_upd nw)), by simp [dpL], by simp [szL], rfl, same_upd nw⟩
  · rintro m σ' G ⟨w2, vs, ps, d, rfl, hw, hps, hm, hz, rfl, sG⟩
    have ll := hps.1
    have l2 := szL_len ps
    walk_at "sx"
    refine ⟨!vs.isEmpty, .inl ⟨vs, .of hw, rfl⟩, x_iteB (fun c => ?_) (fun c => ?_)⟩
    · have hn : ps ≠ [] := by
        rintro rfl
        cases vs with
        | nil => cases c
        | cons a r => cases ll
      have hd1 := dpL_next hn
      have hs1 := szL_next ps
      refine ⟨fun σ' G => ∃ (w2 : Addr) (vs : List V) (ps' : List Pt) (d : Nat), σ' = [some v, some (.int (d : Int)), some (.ref w2), none, none] ∧ G w2 = some (.lst vs) ∧ PtsAt K G k vs ps' ∧ d + dpL ps' = dpT p ∧ szL ps' ≤ szT p ∧ dpL ps' < dpL ps ∧ Same H G, ?_, ?_⟩
      · rintro σ' G' ⟨w', vs', ps', d', e1, e2, e3, e4, e5, e6, e7⟩
        exact ⟨_, e6, w', vs', ps', d', e1, e2, e3, e4, e5, rfl, e7⟩
      walk_at "sx"
      refine x_lc2 ?_
      walk_at "sx"
      refine x_lc2L (K := K) (a := w2) (xs := vs) (fun D i G' => ∃ us : List V, G' D = some (.lst us) ∧ Same G G' ∧ PtsAt K G' k us (nextL (ps.take i))) (.of hw) ?_ ?_ ?_ ?_
      · intro D hD
        exact ⟨[], upd_same, same_upd hD, .nil⟩
      · rintro D hD i G' _ ⟨us, h1, h2, h3⟩
        exact .of (h2 _ _ hw)
      · rintro D hD i x G' hx ⟨us, h1, h2, h3⟩
        obtain ⟨u, hu, pu⟩ := (hps.same h2).at hx
        walk_at "sx"
        refine ⟨rfl, ?_⟩
        walk_at "sx"
        have szi : szL (nextL (ps.take i)) ≤ szL ps := by
          have e := szL_next (ps.take i)
          have e2 := szL_append (ps.take i) (ps.drop i)
          rw [List.take_append_drop] at e2
          omega
        have hm1 : nextL (ps.take (i + 1)) = nextL (ps.take i) ++ partsT u := by
          rw [take_more hu, nextL_append]
          simp [nextL]
        have szi1 : szL (nextL (ps.take (i + 1))) ≤ szL ps := by
          have e := szL_next (ps.take (i + 1))
          have e2 := szL_append (ps.take (i + 1)) (ps.drop (i + 1))
          rw [List.take_append_drop] at e2
          omega
        rw [hm1]
        rw [hm1, szL_append] at szi1
        rcases pu.three with ⟨n, rfl, rfl⟩ | ⟨z, rfl, rfl⟩ | ⟨j, nm, qs, a, ys, rfl, rfl, rfl, sa, pq⟩
        · refine x_isT (t := .type "int") (c := false) (.base (.int n)) (kit_ty (by decide +kernel)) ?_
          walk_at "sx"
          exact ⟨us, h1, h2, by rw [show partsT (.i n) = [] from rfl, List.append_nil]; exact h3⟩
        · refine x_isT (t := .type "str") (c := false) (.base (.str z)) (kit_ty (by decide +kernel)) ?_
          walk_at "sx"
          exact ⟨us, h1, h2, by rw [show partsT (.s z) = [] from rfl, List.append_nil]; exact h3⟩
        · refine x_isT (t := .type "tuple") (c := true) (ty_tup sa) (kit_ty (by decide +kernel)) ?_
          rw [show partsT (.t nm qs) = qs from rfl] at szi1 ⊢
          have lq := szL_len qs
          have lu := szL_len (nextL (ps.take i))
          walk_at "sx"
          refine ⟨a, _, rfl, sa, cut_tail_ne _ _, fun b nb => ?_⟩
          rw [cut_tail]
          have Db : D ≠ b := ne_of_none h1 nb
          have kb := same_upd (o := .tup ys) nb
          refine in_tup (D := D) (a := b) (ys := ys) (fun j2 G2 => ∃ ws : List V, G2 D = some (.lst ws) ∧ Same G G2 ∧ SqT K G2 b ys ∧ PtsAt K G2 j ys qs ∧ PtsAt K G2 (j + 1) ws (nextL (ps.take i) ++ qs.take j2)) (.of upd_same) ?_ ?_ ?_ ?_
          · exact ⟨us, by walk_at "hx", h2.trans kb, .of upd_same, pq.same kb, by rw [List.take_zero, List.append_nil]; exact h3.same kb⟩
          · rintro j2 G2 _ ⟨ws, e1, e2, e3, e4, e5⟩
            exact e3
          · rintro j2 x G2 hx2 ⟨ws, e1, e2, e3, e4, e5⟩
            obtain ⟨u2, hu2, pu2⟩ := e4.at hx2
            have lw := e5.1
            rw [List.length_append, List.length_take] at lw
            walk_at "sx"
            refine ⟨rfl, ?_⟩
            walk_at "sx"
            refine ⟨_, rfl, ws, e1, szl (by omega), ws ++ [x], upd_same, same_updf e2 hD, sqT_lst e1 e3, e4.lst e1, ?_⟩
            rw [take_more hu2, ← List.append_assoc]
            exact (e5.lst e1).append (.one ((pu2.up (Nat.le_succ _)).lst e1))
          · rintro G2 ⟨ws, e1, e2, e3, e4, e5⟩
            rw [pq.1, List.take_length] at e5
            exact ⟨ws, e1, e2, e5⟩
      · rintro D hD G' ⟨us, h1, h2, h3⟩
        rw [ll, List.take_length] at h3
        walk_at "sx"
        exact ⟨D, us, nextL ps, d + 1, rfl, h1, h3, by omega, by omega, by omega, sG.trans h2⟩
    · have hn : vs = [] := by
        cases vs with
        | nil => rfl
        | cons a r => cases c
      subst hn
      cases ps with
      | cons a r => cases ll
      | nil =>
        rw [dpL] at hm
        walk_at "sx"
        have e : d = dpT p := by omega
        rw [e]
        exact q _ sG
end
end Gs
namespace Gs
open PySem PySem.Spec PyProof.Rows L2 TL
abbrev s_OperatorTable_has : Stmt := (clsBody (PySem.Challenge.pw_goalstead_k14_goals_by_their_shapes.main.body.getD 29 (.Pass ⟨0, 0, 0, 0⟩))).getD 1 (.Pass ⟨0, 0, 0, 0⟩)
theorem sc_OperatorTable_has : FnScope ["self", "name"] ["self", "name"] (defScope s_OperatorTable_has) := ⟨rfl, rfl, rfl, by decide +kernel, rfl, by decide +kernel, by decide +kernel⟩
abbrev s_Reading_init : Stmt := (clsBody (PySem.Challenge.pw_goalstead_k14_goals_by_their_shapes.main.body.getD 38 (.Pass ⟨0, 0, 0, 0⟩))).getD 0 (.Pass ⟨0, 0, 0, 0⟩)
theorem sc_Reading_init : FnScope ["self", "pieces", "table"] ["self", "pieces", "table"] (defScope s_Reading_init) := ⟨rfl, rfl, rfl, by decide +kernel, rfl, by decide +kernel, by decide +kernel⟩
abbrev s_Reading_whole : Stmt := (clsBody (PySem.Challenge.pw_goalstead_k14_goals_by_their_shapes.main.body.getD 38 (.Pass ⟨0, 0, 0, 0⟩))).getD 1 (.Pass ⟨0, 0, 0, 0⟩)
theorem sc_Reading_whole : FnScope ["self", "pattern", "_"] ["self"] (defScope s_Reading_whole) := ⟨rfl, rfl, rfl, by decide +kernel, rfl, by decide +kernel, by decide +kernel⟩
abbrev s_Reading_part : Stmt := (clsBody (PySem.Challenge.pw_goalstead_k14_goals_by_their_shapes.main.body.getD 38 (.Pass ⟨0, 0, 0, 0⟩))).getD 2 (.Pass ⟨0, 0, 0, 0⟩)
theorem sc_Reading_part : FnScope ["self", "most", "left", "level", "name", "right", "_"] ["self", "most"] (defScope s_Reading_part) := ⟨rfl, rfl, rfl, by decide +kernel, rfl, by decide +kernel, by decide +kernel⟩
abbrev s_Reading_goes_on : Stmt := (clsBody (PySem.Challenge.pw_goalstead_k14_goals_by_their_shapes.main.body.getD 38 (.Pass ⟨0, 0, 0, 0⟩))).getD 3 (.Pass ⟨0, 0, 0, 0⟩)
theorem sc_Reading_goes_on : FnScope ["self", "level", "most", "name"] ["self", "level", "most"] (defScope s_Reading_goes_on) := ⟨rfl, rfl, rfl, by decide +kernel, rfl, by decide +kernel, by decide +kernel⟩
abbrev s_Reading_first_part : Stmt := (clsBody (PySem.Challenge.pw_goalstead_k14_goals_by_their_shapes.main.body.getD 38 (.Pass ⟨0, 0, 0, 0⟩))).getD 4 (.Pass ⟨0, 0, 0, 0⟩)
theorem sc_Reading_first_part : FnScope ["self", "most", "piece", "part", "_", "pattern"] ["self", "most"] (defScope s_Reading_first_part) := ⟨rfl, rfl, rfl, by decide +kernel, rfl, by decide +kernel, by decide +kernel⟩
abbrev s_Reading_plain_part : Stmt := (clsBody (PySem.Challenge.pw_goalstead_k14_goals_by_their_shapes.main.body.getD 38 (.Pass ⟨0, 0, 0, 0⟩))).getD 5 (.Pass ⟨0, 0, 0, 0⟩)
theorem sc_Reading_plain_part : FnScope ["self", "piece", "parts"] ["self", "piece"] (defScope s_Reading_plain_part) := ⟨rfl, rfl, rfl, by decide +kernel, rfl, by decide +kernel, by decide +kernel⟩
abbrev s_Reading_parts_in_brackets : Stmt := (clsBody (PySem.Challenge.pw_goalstead_k14_goals_by_their_shapes.main.body.getD 38 (.Pass ⟨0, 0, 0, 0⟩))).getD 6 (.Pass ⟨0, 0, 0, 0⟩)
theorem sc_Reading_parts_in_brackets : FnScope ["self", "parts", "ending", "part", "_"] ["self"] (defScope s_Reading_parts_in_brackets) := ⟨rfl, rfl, rfl, by decide +kernel, rfl, by decide +kernel, by decide +kernel⟩
abbrev s_Reading_is_next : Stmt := (clsBody (PySem.Challenge.pw_goalstead_k14_goals_by_their_shapes.main.body.getD 38 (.Pass ⟨0, 0, 0, 0⟩))).getD 7 (.Pass ⟨0, 0, 0, 0⟩)
theorem sc_Reading_is_next : FnScope ["self", "pieces"] ["self", "pieces"] (defScope s_Reading_is_next) := ⟨rfl, rfl, rfl, by decide +kernel, rfl, by decide +kernel, by decide +kernel⟩
abbrev s_Reading_take : Stmt := (clsBody (PySem.Challenge.pw_goalstead_k14_goals_by_their_shapes.main.body.getD 38 (.Pass ⟨0, 0, 0, 0⟩))).getD 8 (.Pass ⟨0, 0, 0, 0⟩)
theorem sc_Reading_take : FnScope ["self"] ["self"] (defScope s_Reading_take) := ⟨rfl, rfl, rfl, by decide +kernel, rfl, by decide +kernel, by decide +kernel⟩
def fldsR (pl tb : Addr) (n : Int) : List (Str × V) := L2.putF "at" (.int n) (L2.putF "table" (.ref tb) (L2.putF "pieces" (.ref pl) []))
theorem nat1 : ¬ (("table" : Str) = "at") := by decide +kernel
theorem nat2 : ¬ (("pieces" : Str) = "at") := by decide +kernel
theorem nat3 : ¬ (("pieces" : Str) = "table") := by decide +kernel
theorem fr_at (pl tb : Addr) (n : Int) : (fldsR pl tb n).lookup ("at" : Str) = some (.int n) := by
  unfold fldsR
  rw [lookup_putF, if_pos rfl]
theorem fr_tb (pl tb : Addr) (n : Int) : (fldsR pl tb n).lookup ("table" : Str) = some (.ref tb) := by
  unfold fldsR
  rw [lookup_putF, if_neg nat1, lookup_putF, if_pos rfl]
theorem fr_pl (pl tb : Addr) (n : Int) : (fldsR pl tb n).lookup ("pieces" : Str) = some (.ref pl) := by
  unfold fldsR
  rw [lookup_putF, if_neg nat2, lookup_putF, if_neg nat3, lookup_putF, if_pos rfl]
theorem fr_no (pl tb : Addr) (n : Int) {m : Str} (h1 : ¬ m = "at") (h2 : ¬ m = "table") (h3 : ¬ m = "pieces") : (fldsR pl tb n).lookup m = none := by
  unfold fldsR
  rw [lookup_putF, if_neg h1, lookup_putF, if_neg h2, lookup_putF, if_neg h3]
  all_goals rfl
theorem putF_ne {f g : Str} {v x : V} {r : List (Str × V)} (h : ¬ g = f) : L2.putF f v ((g, x) :: r) = (g, x) :: L2.putF f v r := by
  show (if g = f then _ else _) = _
  rw [if_neg h]
theorem putF_eq {f : Str} {v x : V} {r : List (Str × V)} : L2.putF f v ((f, x) :: r) = (f, v) :: r := by
  show (if f = f then _ else _) = _
  rw [if_pos rfl]
theorem putF_nil {f : Str} {v : V} : L2.putF f v [] = [(f, v)] := rfl
theorem fr_eq (pl tb : Addr) (n : Int) : fldsR pl tb n = ([("pieces", V.ref pl), ("table", V.ref tb), ("at", V.int n)] : List (Str × V)) := by
  unfold fldsR
  rw [putF_nil, putF_ne nat3, putF_nil, putF_ne nat2, putF_ne nat1, putF_nil]
theorem fr_put (pl tb : Addr) (n m : Int) : L2.putF "at" (.int m) (fldsR pl tb n) = fldsR pl tb m := by
  rw [fr_eq, fr_eq, putF_ne nat2, putF_ne nat1, putF_eq]
structure ReC (K : PySem.W.Frag) (C : Addr) : Prop where
  cl : Cls K C
  nP : NoAttr K C "pieces"
  nT : NoAttr K C "table"
  nA : NoAttr K C "at"
/-- a reading stands at its piece n -/
def RdAt (K : PySem.W.Frag) (D C : Addr) (H : Hp) (r pl : Addr) (zs : List Str) (R : List Op) (n : Nat) : Prop := ∃ (dx tb : Addr), H r = some (.ins D dx (fldsR pl tb (n : Int))) ∧ H pl = some (.lst (zs.map V.str)) ∧ TabAt K C H tb R
/-- all but r is as it was -/
def Kr (r : Addr) (H H' : Hp) : Prop := ∀ b o, H b = some o → b ≠ r → H' b = some o
theorem Kr.refl {r : Addr} (H : Hp) : Kr r H H := fun _ _ h _ => h
theorem Kr.trans {r : Addr} {A B C : Hp} (a : Kr r A B) (b : Kr r B C) : Kr r A C := fun c o h n => b c o (a c o h n) n
theorem Kr.of {r : Addr} {A B : Hp} (a : Same A B) : Kr r A B := fun c o h _ => a c o h
theorem Kr.sqT {K : PySem.W.Frag} {D r dx a : Addr} {fs : List (Str × V)} {A B : Hp} {xs : List V} (k : Kr r A B) (h : A r = some (.ins D dx fs)) (s : SqT K A a xs) : SqT K B a xs := sqT_but h k s
theorem RdAt.ins {K : PySem.W.Frag} {D C : Addr} {H : Hp} {r pl : Addr} {zs : List Str} {R : List Op} {n : Nat} (h : RdAt K D C H r pl zs R n) : ∃ dx fs, H r = some (.ins D dx fs) := by
  obtain ⟨dx, tb, h1, _⟩ := h
  exact ⟨dx, _, h1⟩
theorem RdAt.same {K : PySem.W.Frag} {D C : Addr} {H H' : Hp} {r pl : Addr} {zs : List Str} {R : List Op} {n : Nat} (h : RdAt K D C H r pl zs R n) (s : Same H H') : RdAt K D C H' r pl zs R n := by
  obtain ⟨dx, tb, h1, h2, h3⟩ := h
  exact ⟨dx, tb, s _ _ h1, s _ _ h2, h3.same s⟩
theorem PtAt.kr {K : PySem.W.Frag} {D r dx : Addr} {fs : List (Str × V)} {A B : Hp} {k : Nat} {x : V} {u : Pt} (p : PtAt K A k x u) (k' : Kr r A B) (h : A r = some (.ins D dx fs)) : PtAt K B k x u := p.mono fun _ _ s => k'.sqT h s
theorem x_fR {K : PySem.W.Frag} {D r dx : Addr} {fs : List (Str × V)} {f : Str} {v : V} {σ : L2.St} {H : Hp} {Q : VK} {i : Nat} (c : Cls K D) (na : NoAttr K D f) (hs : σ[i]? = some (some (.ref r))) (hr : H r = some (.ins D dx fs)) (hl : fs.lookup f = some v) (q : Q v H) : tFld K (tVar i) f σ H Q :=
  ⟨.ref r, hs, r, D, dx, _, _, rfl, hr, c, na, hl, q⟩
theorem x_fT {K : PySem.W.Frag} {C a dx : Addr} {fs : List (Str × V)} {f : Str} {v : V} {te : TE} {σ : L2.St} {H : Hp} {Q : VK} (c : Cls K C) (na : NoAttr K C f) (ha : H a = some (.ins C dx fs)) (hl : fs.lookup f = some v) (q : Q v H) (ht : ∀ Q' : VK, Q' (.ref a) H → te σ H Q') : tFld K te f σ H Q :=
  ht _ ⟨a, C, dx, _, _, rfl, ha, c, na, hl, q⟩
theorem x_mtT {C a dx : Addr} {m : Str} {sp : Sp} {t : TA} {te : TE} {σ : L2.St} {H : Hp} {Q : VK} {E : XK} {fs : List (Str × V)} (ha : H a = some (.ins C dx fs)) (hm : fs.lookup m = none) (q : t σ H fun vs H2 => sp (.ref a :: (vs ++ [])) H2 Q E) (ht : ∀ Q' : VK, Q' (.ref a) H → te σ H Q') : tMeth C m sp [] E te t σ H Q :=
  ht _ ⟨a, dx, fs, rfl, ha, hm, q⟩
def nxtB (kvs : List (Key × V)) : Option Str → Bool
  | some z => (valV kvs (Sum.inr z : Key)).isSome
  | none => false
def goesB (R : List Op) (lev most : Int) : Option Str → Bool
  | none => false
  | some nm => match rowOf R nm 2 with
    | none => false
    | some o => decide (lev ≤ lbO o) && decide (o.l ≤ most)
def spNextR (K : PySem.W.Frag) (D C : Addr) : Sp := fun vs H Q _ => ∃ (r pl : Addr) (zs : List Str) (R : List Op) (n : Nat) (b : Addr), vs = [.ref r, .ref b] ∧ RdAt K D C H r pl zs R n ∧ zs.length ≤ 1000 ∧ n ≤ zs.length ∧
  ((∃ kvs, H b = some (.dK kvs) ∧ Q (.bl (nxtB kvs zs[n]?)) H) ∨ (SqT K H b [.str ("(" : Str)] ∧ Q (.bl (decide (zs[n]? = some ("(" : Str)))) H))
def spGoes (K : PySem.W.Frag) (D C : Addr) : Sp := fun vs H Q _ => ∃ (r pl : Addr) (zs : List Str) (R : List Op) (n : Nat) (lev most : Int), vs = [.ref r, .int lev, .int most] ∧ RdAt K D C H r pl zs R n ∧ zs.length ≤ 1000 ∧ n ≤ zs.length ∧ Q (.bl (goesB R lev most zs[n]?)) H
def spHas (K : PySem.W.Frag) (C : Addr) : Sp := fun vs H Q _ => ∃ (p : Addr) (R : List Op) (z : Str), vs = [.ref p, .str z] ∧ TabAt K C H p R ∧ Q (.bl ((rowOf R z 2).isSome || (rowOf R z 1).isSome)) H
section
variable {P : Program} {w : World} {K : PySem.W.Frag} {mg : Str → Option Value} {base : Heap} {f C D : Addr} {fd : FuncData}
def HasNextR (D C : Addr) (P : Program) (w : World) (K : PySem.W.Frag) (mg : Str → Option Value) (base : Heap) : Prop := C8.Met P w K mg base 1 D "is_next" (spNextR K D C) []
def HasGoes (D C : Addr) (P : Program) (w : World) (K : PySem.W.Frag) (mg : Str → Option Value) (base : Heap) : Prop := C8.Met P w K mg base 2 D "goes_on" (spGoes K D C) []
def HasHas (C : Addr) (P : Program) (w : World) (K : PySem.W.Frag) (mg : Str → Option Value) (base : Heap) : Prop := C8.Met P w K mg base 1 C "has" (spHas K C) []
theorem ok_has (F : Fun K "has" "OperatorTable.has" s_OperatorTable_has f fd) (TC : TabC K C) : FnOk P w K mg base CX0 1 f fd ["self", "name"] (spHas K C) := by
  refine F.ok sc_OperatorTable_has (fun vs H Q E h => ?_) (fun cdv A outer s H vs Q E hr h => ?_)
  · obtain ⟨p, R, z, rfl, _⟩ := h
    rfl
  obtain ⟨p, R, z, rfl, tb, q⟩ := h
  obtain ⟨dx, b, h, kb, ka, h1, h2, h3, h4⟩ := tb
  refine ⟨_, (pss_one (ps_ret (pe_or (pe_cmp (pc_din (hu_of hr) (pv 1) (pe_fld (pv 0) rfl))) (pe_one (pe_cmp (pc_din (hu_of hr) (pv 1) (pe_fld (pv 0) rfl))))))), ?_⟩
  walk_at "sx"
  refine x_din ?_
  walk_at "sx"
  refine x_fldB TC rfl h1 ⟨b, _, rfl, DGet.k (k := Sum.inr z) h2, ?_⟩
  have e1 : (valV kb (Sum.inr z : Key)).isSome = (rowOf R z 2).isSome := by
    cases e : rowOf R z 2 with
    | none => rw [h4.bn z e]; rfl
    | some o =>
      obtain ⟨t, et, _⟩ := h4.bs z o e
      rw [et]
      rfl
  have e2 : (valV ka (Sum.inr z : Key)).isSome = (rowOf R z 1).isSome := by
    cases e : rowOf R z 1 with
    | none => rw [h4.an z e]; rfl
    | some o => rw [h4.as z o e]; rfl
  rw [e1]
  cases c : (rowOf R z 2).isSome with
  | true =>
    rw [c] at q
    walk_at "sx"
    exact q
  | false =>
    rw [c] at q
    walk_at "sx"
    refine x_din ?_
    walk_at "sx"
    refine x_fldA TC rfl h1 ⟨h, _, rfl, DGet.k (k := Sum.inr z) h3, ?_⟩
    rw [e2]
    exact q
theorem ok_is_next (F : Fun K "is_next" "Reading.is_next" s_Reading_is_next f fd) (T : Txt mg) (RC : ReC K D) : FnOk P w K mg base CX0 1 f fd ["self", "pieces"] (spNextR K D C) := by
  refine F.ok sc_Reading_is_next (fun vs H Q E h => ?_) (fun cdv A outer s H vs Q E hr h => ?_)
  · obtain ⟨r, pl, zs, R, n, b, rfl, _⟩ := h
    rfl
  obtain ⟨r, pl, zs, R, n, b, rfl, rd, hl, hn, hq⟩ := h
  obtain ⟨dx, tb, h1, h2, h3⟩ := rd
  rcases hq with ⟨kvs, hb, q⟩ | ⟨hb, q⟩
  · refine ⟨_, (pss_one (ps_ret (pe_and (pe_cmpR op_lt (pe_fld (pv 0) rfl) (pe_callB (call_lenK (K := K)) (by rfl) T.z_len (by decide +kernel) (pa_cons (pe_fld (pv 0) rfl) pa_nil)) (nomark _)) (pe_one (pe_cmp (pc_din (hu_of hr) (pe_ix (ix_listK (K := K)) (pe_fld (pv 0) rfl) (pe_fld (pv 0) rfl) (fun _ _ => rfl)) (pv 1))))))), ?_⟩
    walk_at "sx"
    refine x_fR RC.cl RC.nA rfl h1 (fr_at pl tb n) ?_
    walk_at "sx"
    refine x_fR RC.cl RC.nP rfl h1 (fr_pl pl tb n) ?_
    walk_at "sx"
    refine x_ite (fun c => ?_) (fun c => ?_)
    · have hlt : n < zs.length := by
        have : (n : Int) < ((zs.map V.str).length : Int) := c
        rw [List.length_map] at this
        omega
      rw [List.getElem?_eq_getElem hlt] at q
      walk_at "sx"
      refine x_din ?_
      walk_at "sx"
      refine x_fR RC.cl RC.nP rfl h1 (fr_pl pl tb n) ?_
      walk_at "sx"
      refine x_fR RC.cl RC.nA rfl h1 (fr_at pl tb n) ?_
      walk_at "sx"
      refine x_ixL (.of h2) (atI_nat (by rw [List.getElem?_map, List.getElem?_eq_getElem hlt]; rfl)) ?_
      walk_at "sx"
      exact ⟨b, _, rfl, DGet.k (k := Sum.inr zs[n]) hb, q⟩
    · have e : n = zs.length := by
        have : ¬ (n : Int) < ((zs.map V.str).length : Int) := c
        rw [List.length_map] at this
        omega
      rw [List.getElem?_eq_none (by omega)] at q
      walk_at "sx"
      exact q
  · refine ⟨_, (pss_one (ps_ret (pe_and (pe_cmpR op_lt (pe_fld (pv 0) rfl) (pe_callB (call_lenK (K := K)) (by rfl) T.z_len (by decide +kernel) (pa_cons (pe_fld (pv 0) rfl) pa_nil)) (nomark _)) (pe_one (pe_cmpR (op_inK (K := K)) (pe_ix (ix_listK (K := K)) (pe_fld (pv 0) rfl) (pe_fld (pv 0) rfl) (fun _ _ => rfl)) (pv 1) (by first | exact nomark _ | rfl)))))), ?_⟩
    walk_at "sx"
    refine x_fR RC.cl RC.nA rfl h1 (fr_at pl tb n) ?_
    walk_at "sx"
    refine x_fR RC.cl RC.nP rfl h1 (fr_pl pl tb n) ?_
    walk_at "sx"
    refine x_ite (fun c => ?_) (fun c => ?_)
    · have hlt : n < zs.length := by
        have : (n : Int) < ((zs.map V.str).length : Int) := c
        rw [List.length_map] at this
        omega
      rw [List.getElem?_eq_getElem hlt] at q
      walk_at "sx"
      refine x_fR RC.cl RC.nP rfl h1 (fr_pl pl tb n) ?_
      walk_at "sx"
      refine x_fR RC.cl RC.nA rfl h1 (fr_at pl tb n) ?_
      walk_at "sx"
      refine x_ixL (.of h2) (atI_nat (by rw [List.getElem?_map, List.getElem?_eq_getElem hlt]; rfl)) ?_
      walk_at "sx"
      refine ⟨b, _, rfl, .inr hb, rfl, by decide, ?_⟩
      rw [if_neg (by decide), show ([.str ("(" : Str)] : List V) = ([("(" : Str)] : List Str).map V.str from rfl, inV_strs]
      have e : decide (zs[n] ∈ ([("(" : Str)] : List Str)) = decide (some zs[n] = some ("(" : Str)) := by
        rw [decide_eq_decide, List.mem_singleton]
        exact ⟨fun z => congrArg some z, fun z => Option.some.inj z⟩
      rw [e]
      exact q
    · have e : n = zs.length := by
        have : ¬ (n : Int) < ((zs.map V.str).length : Int) := c
        rw [List.length_map] at this
        omega
      rw [List.getElem?_eq_none (by omega)] at q
      walk_at "sx"
      exact q
theorem ok_goes_on (F : Fun K "goes_on" "Reading.goes_on" s_Reading_goes_on f fd) (T : Txt mg) (RC : ReC K D) (TC : TabC K C) (M_Reading_is_next : HasNextR D C P w K mg base) (M_OperatorTable_left_bound : HasLB C P w K mg base) : FnOk P w K mg base CX0 2 f fd ["self", "level", "most"] (spGoes K D C) := by
  refine F.ok sc_Reading_goes_on (fun vs H Q E h => ?_) (fun cdv A outer s H vs Q E hr h => ?_)
  · obtain ⟨r, pl, zs, R, n, lev, most, rfl, _⟩ := h
    rfl
  obtain ⟨r, pl, zs, R, n, lev, most, rfl, rd, hl, hn, q⟩ := h
  have rd0 := rd
  obtain ⟨dx, tb, h1, h2, h3⟩ := rd
  have tb0 := h3
  obtain ⟨dx2, b, h, kb, ka, g1, g2, g3, g4⟩ := h3
  refine ⟨_, (pss_cons (ps_if (pt_not (pt_val (C8.pe_mt M_Reading_is_next hr (by omega) (pv 0) (pa_cons (pe_fld (pe_fld (pv 0) rfl) rfl) pa_nil))))
      (pss_one (ps_ret pe_bl))
      pss_nil)
    (pss_cons (ps_set (i := 3) sc_Reading_goes_on.nd rfl (Or.inl rfl) (pe_ix (ix_listK (K := K)) (pe_fld (pv 0) rfl) (pe_fld (pv 0) rfl) (fun _ _ => rfl)))
    (pss_one (ps_ret (pe_and (pe_cmpR op_le (pv 1) (C8.pe_mt M_OperatorTable_left_bound hr (by omega) (pe_fld (pv 0) rfl) (pa_cons (pv 3) pa_nil)) (nomark _)) (pe_one (pe_cmpR op_le (pe_ix (ix_tupK (K := K)) (pe_dget (hu_of hr) (pe_fld (pe_fld (pv 0) rfl) rfl) (pv 3) (fun _ _ => rfl)) pe_int (fun _ _ => rfl)) (pv 2) (nomark _)))))))), ?_⟩
  walk_at "sx"
  refine x_mt rfl h1 (fr_no pl tb n (by decide +kernel) (by decide +kernel) (by decide +kernel)) ?_
  walk_at "sx"
  refine x_fT TC.cl TC.nB g1 (flds_b b h) ?_ (fun Q' q' => x_fR RC.cl RC.nT rfl h1 (fr_tb pl tb n) q')
  walk_at "sx"
  refine ⟨r, pl, zs, R, n, b, rfl, rd0, hl, hn, .inl ⟨kb, g2, ?_⟩⟩
  cases ez : zs[n]? with
  | none =>
    rw [ez] at q
    walk_at "sx"
    exact q
  | some nm =>
    rw [ez] at q
    cases eo : rowOf R nm 2 with
    | none =>
      rw [show nxtB kb (some nm) = false from by show (valV kb (Sum.inr nm : Key)).isSome = false; rw [g4.bn nm eo]; rfl]
      have e : goesB R lev most (some nm) = false := by simp only [goesB, eo]
      rw [e] at q
      walk_at "sx"
      exact q
    | some o =>
      obtain ⟨t, et, st⟩ := g4.bs nm o eo
      rw [show nxtB kb (some nm) = true from by show (valV kb (Sum.inr nm : Key)).isSome = true; rw [et]; rfl]
      have e : goesB R lev most (some nm) = (decide (lev ≤ lbO o) && decide (o.l ≤ most)) := by simp only [goesB, eo]
      rw [e] at q
      walk_at "sx"
      refine x_fR RC.cl RC.nP rfl h1 (fr_pl pl tb n) ?_
      walk_at "sx"
      refine x_fR RC.cl RC.nA rfl h1 (fr_at pl tb n) ?_
      walk_at "sx"
      refine x_ixL (.of h2) (atI_nat (by rw [List.getElem?_map, ez]; rfl)) ?_
      walk_at "sx"
      refine x_mtT g1 (flds_no b h (by decide +kernel) (by decide +kernel)) ?_ (fun Q' q' => x_fR RC.cl RC.nT rfl h1 (fr_tb pl tb n) q')
      walk_at "sx"
      refine ⟨tb, R, nm, o, rfl, tb0, eo, ?_⟩
      walk_at "sx"
      refine x_ite (fun c => ?_) (fun c => ?_)
      · rw [decide_eq_true (show lev ≤ lbO o from c), Bool.true_and] at q
        walk_at "sx"
        refine x_dget ?_
        refine x_fT TC.cl TC.nB g1 (flds_b b h) ?_ (fun Q' q' => x_fR RC.cl RC.nT rfl h1 (fr_tb pl tb n) q')
        walk_at "sx"
        refine ⟨b, .ref t, rfl, et ▸ DGet.k (k := Sum.inr nm) g2, ?_⟩
        walk_at "sx"
        exact q
      · rw [decide_eq_false (show ¬ lev ≤ lbO o from c), Bool.false_and] at q
        walk_at "sx"
        exact q
end
end Gs
namespace Gs
open PySem PySem.Spec PyProof.Rows L2 TL
/-! ### what a reading does, whatever the pieces: a result, or no reading -/
/-- a piece with which no plain part begins -/
def PlBad (R : List Op) (z : Str) : Prop := ∃ c t, tl z = c :: t ∧ c ∉ sD ∧ c ≠ 126 ∧ c ∉ sC ∧ (c ∉ sS ∨ z ∈ keptL ∨ rowOf R z 2 ≠ none) ∧ z.length ≤ 12
mutual
inductive RP (R : List Op) (zs : List Str) : Nat → Int → Nat → Option (Pt × Int × Nat) → Prop
  | bad {d : Nat} {most : Int} {n : Nat} : RF R zs d most n none → RP R zs (d + 1) most n none
  | go {d : Nat} {most la : Int} {n n1 : Nat} {a : Pt} {res : Option (Pt × Int × Nat)} : RF R zs d most n (some (a, la, n1)) → RL R zs d most la a n1 res → RP R zs (d + 1) most n res
inductive RL (R : List Op) (zs : List Str) : Nat → Int → Int → Pt → Nat → Option (Pt × Int × Nat) → Prop
  | stop {d : Nat} {most lev : Int} {a : Pt} {n : Nat} : goesB R lev most zs[n]? = false → RL R zs d most lev a n (some (a, lev, n))
  | bad {d : Nat} {most lev : Int} {a : Pt} {n : Nat} {nm : Str} {o : Op} : zs[n]? = some nm → rowOf R nm 2 = some o → goesB R lev most (some nm) = true → RP R zs d (rbO o) (n + 1) none → RL R zs d most lev a n none
  | step {d : Nat} {most lev lb : Int} {a b : Pt} {n n1 : Nat} {nm : Str} {o : Op} {res : Option (Pt × Int × Nat)} : zs[n]? = some nm → rowOf R nm 2 = some o → goesB R lev most (some nm) = true → RP R zs d (rbO o) (n + 1) (some (b, lb, n1)) → RL R zs d most o.l (.t nm [a, b]) n1 res → RL R zs d most lev a n res
inductive RF (R : List Op) (zs : List Str) : Nat → Int → Nat → Option (Pt × Int × Nat) → Prop
  | none {d : Nat} {most : Int} {n : Nat} : zs[n]? = none → RF R zs d most n none
  | high {d : Nat} {most : Int} {n : Nat} {z : Str} {o : Op} : zs[n]? = some z → rowOf R z 1 = some o → o.l > most → RF R zs d most n none
  | aheadB {d : Nat} {most : Int} {n : Nat} {z : Str} {o : Op} : zs[n]? = some z → rowOf R z 1 = some o → o.l ≤ most → RP R zs d (o.l - 1) (n + 1) none → RF R zs d most n none
  | ahead {d : Nat} {most lx : Int} {n n1 : Nat} {z : Str} {o : Op} {x : Pt} : zs[n]? = some z → rowOf R z 1 = some o → o.l ≤ most → RP R zs d (o.l - 1) (n + 1) (some (x, lx, n1)) → RF R zs d most n (some (.t z [x], o.l, n1))
  | brB {d : Nat} {most : Int} {n : Nat} : zs[n]? = some ("(" : Str) → RP R zs d 9 (n + 1) none → RF R zs d most n none
  | brE {d : Nat} {most l : Int} {n n1 : Nat} {p : Pt} : zs[n]? = some ("(" : Str) → RP R zs d 9 (n + 1) (some (p, l, n1)) → zs[n1]? ≠ some (")" : Str) → RF R zs d most n none
  | br {d : Nat} {most l : Int} {n n1 : Nat} {p : Pt} : zs[n]? = some ("(" : Str) → RP R zs d 9 (n + 1) (some (p, l, n1)) → zs[n1]? = some (")" : Str) → RF R zs d most n (some (p, 0, n1 + 1))
  | plainB {d : Nat} {most : Int} {n : Nat} {z : Str} : zs[n]? = some z → rowOf R z 1 = none → z ≠ ("(" : Str) → RW R zs d z (n + 1) none → RF R zs d most n none
  | plain {d : Nat} {most : Int} {n n1 : Nat} {z : Str} {p : Pt} : zs[n]? = some z → rowOf R z 1 = none → z ≠ ("(" : Str) → RW R zs d z (n + 1) (some (p, n1)) → RF R zs d most n (some (p, 0, n1))
inductive RW (R : List Op) (zs : List Str) : Nat → Str → Nat → Option (Pt × Nat) → Prop
  | num {d : Nat} {m : Int} {z : Str} {n : Nat} : Num R m z → RW R zs d z n (some (.i m, n))
  | unk {d : Nat} {z : Str} {n : Nat} : Unk R z → RW R zs d z n (some (.s z, n))
  | bad {d : Nat} {z : Str} {n : Nat} : PlBad R z → RW R zs d z n none
  | word {d : Nat} {z : Str} {n : Nat} : Wd R z → zs[n]? ≠ some ("(" : Str) → RW R zs d z n (some (.s z, n))
  | compB {d : Nat} {z : Str} {n : Nat} : Wd R z → zs[n]? = some ("(" : Str) → RB R zs d 0 (n + 1) none → RW R zs d z n none
  | comp {d : Nat} {z : Str} {n n1 : Nat} {ps : List Pt} : Wd R z → zs[n]? = some ("(" : Str) → RB R zs d 0 (n + 1) (some (ps, n1)) → RW R zs d z n (some (.t z ps, n1))
inductive RB (R : List Op) (zs : List Str) : Nat → Nat → Nat → Option (List Pt × Nat) → Prop
  | bad {d k n : Nat} : RP R zs d 9 n none → RB R zs d k n none
  | sign {d k n n1 : Nat} {p : Pt} {l : Int} : RP R zs d 9 n (some (p, l, n1)) → (zs[n1]? ≠ some (")" : Str) ∧ zs[n1]? ≠ some ("," : Str)) ∨ 4 < k + 1 → RB R zs d k n none
  | last {d k n n1 : Nat} {p : Pt} {l : Int} : RP R zs d 9 n (some (p, l, n1)) → zs[n1]? = some (")" : Str) → k + 1 ≤ 4 → RB R zs d k n (some ([p], n1 + 1))
  | nextB {d k n n1 : Nat} {p : Pt} {l : Int} : RP R zs d 9 n (some (p, l, n1)) → zs[n1]? = some ("," : Str) → k + 1 ≤ 4 → RB R zs d (k + 1) (n1 + 1) none → RB R zs d k n none
  | next {d k n n1 n2 : Nat} {p : Pt} {l : Int} {ps : List Pt} : RP R zs d 9 n (some (p, l, n1)) → zs[n1]? = some ("," : Str) → k + 1 ≤ 4 → RB R zs d (k + 1) (n1 + 1) (some (ps, n2)) → RB R zs d k n (some (p :: ps, n2))
end
theorem lt_of_at {zs : List Str} {n : Nat} {z : Str} (h : zs[n]? = some z) : n < zs.length := (List.getElem?_eq_some_iff.mp h).1
/-- what was read: the pieces from n to n1 -/
def Seg (zs : List Str) (n n1 : Nat) (ts : List Str) : Prop := zs.drop n = ts ++ zs.drop n1 ∧ n + ts.length = n1
theorem Seg.nil {zs : List Str} {n : Nat} : Seg zs n n [] := ⟨rfl, rfl⟩
theorem Seg.one {zs : List Str} {n : Nat} {z : Str} (h : zs[n]? = some z) : Seg zs n (n + 1) [z] := by
  refine ⟨?_, rfl⟩
  have hn := lt_of_at h
  have e : zs[n] = z := by
    rw [List.getElem?_eq_getElem hn] at h
    exact Option.some.inj h
  rw [List.drop_eq_getElem_cons hn, e]
  rfl
theorem Seg.app {zs : List Str} {a b c : Nat} {s t : List Str} (h : Seg zs a b s) (g : Seg zs b c t) : Seg zs a c (s ++ t) := by
  refine ⟨by rw [h.1, g.1, List.append_assoc], ?_⟩
  have := h.2
  have := g.2
  rw [List.length_append]
  omega
theorem Stp.cons1 {R : List Op} {d : Nat} {nm : Str} {o : Op} {la le lev : Int} {a b p : Pt} {tb ts : List Str} (h1 : rowOf R nm 2 = some o) (h2 : la ≤ lbO o) (h3 : Spt R d le b tb) (h4 : le ≤ rbO o) (h5 : Stp R d o.l (.t nm [a, b]) lev p ts) : Stp R d la a lev p ([nm] ++ tb ++ ts) := by
  have := Stp.cons h1 h2 h3 h4 h5
  simpa using this
theorem goesB_some {R : List Op} {lev most : Int} {nm : Str} {o : Op} (h : rowOf R nm 2 = some o) (g : goesB R lev most (some nm) = true) : lev ≤ lbO o ∧ o.l ≤ most := by
  simp only [goesB, h] at g
  rw [Bool.and_eq_true, decide_eq_true_iff, decide_eq_true_iff] at g
  exact g
theorem rb_nn {R : List Op} (lv : LvOk R) {nm : Str} {k : Nat} {o : Op} (h : rowOf R nm k = some o) : 0 ≤ rbO o ∧ 0 ≤ o.l - 1 := by
  have := lv o (rowOf_some h).1
  unfold rbO
  split <;> omega
mutual
/-- a result is a spelling of the pieces read -/
theorem RP.sound {R : List Op} {zs : List Str} (lv : LvOk R) : ∀ {d : Nat} {most : Int} {n : Nat} {res : Option (Pt × Int × Nat)}, RP R zs d most n res → 0 ≤ most → ∀ p l n1, res = some (p, l, n1) → ∃ ts, Seg zs n n1 ts ∧ Spt R d l p ts ∧ l ≤ most ∧ goesB R l most zs[n1]? = false
  | _, _, _, _, .bad _, _, _, _, _, e => by cases e
  | _, _, _, _, .go h1 h2, h0, p, l, n1, e => by
    obtain ⟨ts, s1, s2, s2'⟩ := RF.sound lv h1 h0 _ _ _ rfl
    obtain ⟨us, s3, s4, s4', s5⟩ := RL.sound lv h2 s2' p l n1 e
    exact ⟨ts ++ us, s1.app s3, .mk s2 s4, s4', s5⟩
theorem RL.sound {R : List Op} {zs : List Str} (lv : LvOk R) : ∀ {d : Nat} {most lev : Int} {a : Pt} {n : Nat} {res : Option (Pt × Int × Nat)}, RL R zs d most lev a n res → lev ≤ most → ∀ p l n1, res = some (p, l, n1) → ∃ ts, Seg zs n n1 ts ∧ Stp R d lev a l p ts ∧ l ≤ most ∧ goesB R l most zs[n1]? = false
  | _, _, _, _, _, _, .stop h, hl, p, l, n1, e => by
    cases e
    exact ⟨[], .nil, .nil, hl, h⟩
  | _, _, _, _, _, _, .bad _ _ _ _, _, _, _, _, e => by cases e
  | _, _, _, _, _, _, .step h1 h2 h3 h4 h5, hl, p, l, n1, e => by
    have g := goesB_some h2 h3
    obtain ⟨ts, s1, s2, s2', _⟩ := RP.sound lv h4 (rb_nn lv h2).1 _ _ _ rfl
    obtain ⟨us, s3, s4, s4', s5⟩ := RL.sound lv h5 g.2 p l n1 e
    exact ⟨[_] ++ ts ++ us, ((Seg.one h1).app s1).app s3, .cons1 h2 g.1 s2 s2' s4, s4', s5⟩
theorem RF.sound {R : List Op} {zs : List Str} (lv : LvOk R) : ∀ {d : Nat} {most : Int} {n : Nat} {res : Option (Pt × Int × Nat)}, RF R zs d most n res → 0 ≤ most → ∀ p l n1, res = some (p, l, n1) → ∃ ts, Seg zs n n1 ts ∧ Prim R (d + 1) l p ts ∧ l ≤ most
  | _, _, _, _, .none _, _, _, _, _, e => by cases e
  | _, _, _, _, .high _ _ _, _, _, _, _, e => by cases e
  | _, _, _, _, .aheadB _ _ _ _, _, _, _, _, e => by cases e
  | _, _, _, _, .ahead h1 h2 h3 h4, h0, p, l, n1, e => by
    cases e
    obtain ⟨ts, s1, s2, s3, _⟩ := RP.sound lv h4 (rb_nn lv h2).2 _ _ _ rfl
    exact ⟨[_] ++ ts, (Seg.one h1).app s1, .ahead h2 s2 s3, h3⟩
  | _, _, _, _, .brB _ _, _, _, _, _, e => by cases e
  | _, _, _, _, .brE _ _ _, _, _, _, _, e => by cases e
  | _, _, _, _, .br h1 h2 h3, h0, p, l, n1, e => by
    cases e
    obtain ⟨ts, s1, s2, s3, _⟩ := RP.sound lv h2 (by decide) _ _ _ rfl
    exact ⟨[_] ++ (ts ++ [_]), (Seg.one h1).app (s1.app (Seg.one h3)), .paren s2 s3, h0⟩
  | _, _, _, _, .plainB _ _ _ _, _, _, _, _, e => by cases e
  | _, _, _, _, .plain h1 _ _ h2, h0, p, l, n1, e => by
    cases e
    obtain ⟨ts, s1, s2⟩ := RW.sound lv h2 _ _ rfl
    exact ⟨[_] ++ ts, (Seg.one h1).app s1, s2, h0⟩
theorem RW.sound {R : List Op} {zs : List Str} (lv : LvOk R) : ∀ {d : Nat} {z : Str} {n : Nat} {res : Option (Pt × Nat)}, RW R zs d z n res → ∀ p n1, res = some (p, n1) → ∃ ts, Seg zs n n1 ts ∧ Prim R (d + 1) 0 p (z :: ts)
  | _, _, _, _, .num h, _, _, e => by
    cases e
    exact ⟨[], .nil, .num h⟩
  | _, _, _, _, .unk h, _, _, e => by
    cases e
    exact ⟨[], .nil, .unk h⟩
  | _, _, _, _, .bad _, _, _, e => by cases e
  | _, _, _, _, .word h _, _, _, e => by
    cases e
    exact ⟨[], .nil, .word h⟩
  | _, _, _, _, .compB _ _ _, _, _, e => by cases e
  | _, _, _, _, .comp h1 h2 h3, _, _, e => by
    cases e
    obtain ⟨ts, s1, s2, s3, s4⟩ := RB.sound lv h3 _ _ rfl
    exact ⟨[_] ++ ts, (Seg.one h2).app s1, .comp h1 s3 (by omega) s2⟩
theorem RB.sound {R : List Op} {zs : List Str} (lv : LvOk R) : ∀ {d k n : Nat} {res : Option (List Pt × Nat)}, RB R zs d k n res → ∀ ps n1, res = some (ps, n1) → ∃ ts, Seg zs n n1 ts ∧ SptL R d ps ts ∧ 0 < ps.length ∧ k + ps.length ≤ 4
  | _, _, _, _, .bad _, _, _, e => by cases e
  | _, _, _, _, .sign _ _, _, _, e => by cases e
  | _, _, _, _, .last h1 h2 h3, ps, n1, e => by
    cases e
    obtain ⟨ts, s1, s2, s3, _⟩ := RP.sound lv h1 (by decide) _ _ _ rfl
    exact ⟨ts ++ [_], s1.app (Seg.one h2), .one s2 s3, by simp, by simpa using h3⟩
  | _, _, _, _, .nextB _ _ _ _, _, _, e => by cases e
  | _, _, _, _, .next h1 h2 h3 h4, ps, n1, e => by
    cases e
    obtain ⟨ts, s1, s2, s3, _⟩ := RP.sound lv h1 (by decide) _ _ _ rfl
    obtain ⟨us, g1, g2, g3, g4⟩ := RB.sound lv h4 _ _ rfl
    have := (s1.app (Seg.one h2)).app g1
    rw [List.append_assoc] at this
    exact ⟨ts ++ ([_] ++ us), this, .cons s2 s3 g2, by simp, by simp; omega⟩
end
theorem Spt.pos {R : List Op} {d : Nat} {lev : Int} {p : Pt} {ts : List Str} (h : Spt R d lev p ts) : 0 < ts.length := by
  cases h with
  | mk h1 h2 =>
    rw [List.length_append]
    have : ∀ {d : Nat} {la : Int} {a : Pt} {ta : List Str}, Prim R d la a ta → 0 < ta.length := fun h => by cases h <;> simp
    have := this h1
    omega
/-- a piece as it may be, ahead of a plain part -/
def PK (R : List Op) (z : Str) : Prop := (∃ o, rowOf R z 1 = some o) ∨ z = ("(" : Str) ∨ (∃ m, Num R m z) ∨ Unk R z ∨ Wd R z ∨ PlBad R z
end Gs
namespace Gs
open PySem PySem.Spec PyProof.Rows L2 TL
abbrev s_BadShape : Stmt := (clsBody (PySem.Challenge.pw_goalstead_k14_goals_by_their_shapes.main.body.getD 16 (.Pass ⟨0, 0, 0, 0⟩))).getD 0 (.Pass ⟨0, 0, 0, 0⟩)
theorem sc_BadShape : FnScope ["self", "line"] ["self", "line"] (defScope s_BadShape) := ⟨rfl, rfl, rfl, by decide +kernel, rfl, by decide +kernel, by decide +kernel⟩
abbrev s_BadSize : Stmt := (clsBody (PySem.Challenge.pw_goalstead_k14_goals_by_their_shapes.main.body.getD 15 (.Pass ⟨0, 0, 0, 0⟩))).getD 0 (.Pass ⟨0, 0, 0, 0⟩)
theorem sc_BadSize : FnScope ["self", "line"] ["self", "line"] (defScope s_BadSize) := ⟨rfl, rfl, rfl, by decide +kernel, rfl, by decide +kernel, by decide +kernel⟩
section
variable {P : Program} {w : World} {K : PySem.W.Frag} {mg : Str → Option Value} {base : Heap} {f : Addr} {fd : FuncData} {B C : Addr}
theorem ok_init_BadShape (F : Fun K "__init__" "BadShape.__init__" s_BadShape f fd) (TB : BaseC K mg B) (hC : OexC K C) (nf : PySem.W.findIn K (.ref C) "line" = some none) : FnOk P w K mg base CX0 1 f fd ["self", "line"] (spErr1 K C "line") := by
  refine F.ok sc_BadShape (fun vs H Q E h => ?_) (fun cdv A outer s H vs Q E hr h => ?_)
  · obtain ⟨a, n, rfl, _⟩ := h
    rfl
  obtain ⟨a, n, rfl, hn, ha, q⟩ := h
  refine ⟨_, (pss_cons (ps_expr (pe_cinit rfl TB.mB TB.sp TB.rd TB.fc (pa_cons (pv 0) (pa_cons (pe_joined (PJ.cons pe_str (PJ.cons (pe_fmt (pv 1)) (PJ.cons pe_str PJ.nil)))) pa_nil))))
    (pss_one (ps_ost (pv 0) (pv 1)))), ?_⟩
  walk_at "sx"
  refine x_veI ?_
  walk_at "sx"
  refine x_jcons ?_
  walk_at "sx"
  refine ⟨_, rfl, by decide +kernel, ?_⟩
  refine x_jcons (x_fmt ?_)
  walk_at "sx"
  have hl := natStr_len (n := n) (by omega)
  refine .inr ⟨n, rfl, Nat.lt_trans (log_of (a := 200) (by omega) (by decide)) (by decide), ?_⟩
  refine ⟨_, rfl, sz ?_, ?_⟩
  · rw [str_append_len]
    have h0 : (Str.empty ++ ("line " : Str)).length = 5 := by decide +kernel
    rw [h0]
    show 5 + (Str.ofString (toString ((n : Nat) : Int))).length ≤ _
    omega
  refine x_jcons ?_
  walk_at "sx"
  refine ⟨_, rfl, sz ?_, ?_⟩
  · rw [str_append_len, str_append_len]
    have h0 : (Str.empty ++ ("line " : Str)).length = 5 := by decide +kernel
    have h1 : (": no reading of the shape that is asked for" : Str).length = 43 := by decide +kernel
    rw [h0, h1]
    show 5 + (Str.ofString (toString ((n : Nat) : Int))).length + 43 ≤ _
    omega
  refine x_jnil ?_
  walk_at "sx"
  refine ⟨a, C, _, rfl, (by show 1 ≤ 1000; decide), hC, ha, ?_⟩
  refine x_ost ?_
  walk_at "sx"
  refine ⟨a, C, rfl, hC, nf, .inl ⟨ha, fun dx h1 h2 => ?_⟩⟩
  exact q dx h1 h2
theorem ok_init_BadSize (F : Fun K "__init__" "BadSize.__init__" s_BadSize f fd) (TB : BaseC K mg B) (hC : OexC K C) (nf : PySem.W.findIn K (.ref C) "line" = some none) : FnOk P w K mg base CX0 1 f fd ["self", "line"] (spErr1 K C "line") := by
  refine F.ok sc_BadSize (fun vs H Q E h => ?_) (fun cdv A outer s H vs Q E hr h => ?_)
  · obtain ⟨a, n, rfl, _⟩ := h
    rfl
  obtain ⟨a, n, rfl, hn, ha, q⟩ := h
  refine ⟨_, (pss_cons (ps_expr (pe_cinit rfl TB.mB TB.sp TB.rd TB.fc (pa_cons (pv 0) (pa_cons (pe_joined (PJ.cons pe_str (PJ.cons (pe_fmt (pv 1)) (PJ.cons pe_str PJ.nil)))) pa_nil))))
    (pss_one (ps_ost (pv 0) (pv 1)))), ?_⟩
  walk_at "sx"
  refine x_veI ?_
  walk_at "sx"
  refine x_jcons ?_
  walk_at "sx"
  refine ⟨_, rfl, by decide +kernel, ?_⟩
  refine x_jcons (x_fmt ?_)
  walk_at "sx"
  have hl := natStr_len (n := n) (by omega)
  refine .inr ⟨n, rfl, Nat.lt_trans (log_of (a := 200) (by omega) (by decide)) (by decide), ?_⟩
  refine ⟨_, rfl, sz ?_, ?_⟩
  · rw [str_append_len]
    have h0 : (Str.empty ++ ("line " : Str)).length = 5 := by decide +kernel
    rw [h0]
    show 5 + (Str.ofString (toString ((n : Nat) : Int))).length ≤ _
    omega
  refine x_jcons ?_
  walk_at "sx"
  refine ⟨_, rfl, sz ?_, ?_⟩
  · rw [str_append_len, str_append_len]
    have h0 : (Str.empty ++ ("line " : Str)).length = 5 := by decide +kernel
    have h1 : (": too many pieces or brackets, or too big or deep" : Str).length = 49 := by decide +kernel
    rw [h0, h1]
    show 5 + (Str.ofString (toString ((n : Nat) : Int))).length + 49 ≤ _
    omega
  refine x_jnil ?_
  walk_at "sx"
  refine ⟨a, C, _, rfl, (by show 1 ≤ 1000; decide), hC, ha, ?_⟩
  refine x_ost ?_
  walk_at "sx"
  refine ⟨a, C, rfl, hC, nf, .inl ⟨ha, fun dx h1 h2 => ?_⟩⟩
  exact q dx h1 h2
end
end Gs
namespace Gs
open PySem PySem.Spec PyProof.Rows L2 TL
abbrev s_is_word : Stmt := PySem.Challenge.pw_goalstead_k14_goals_by_their_shapes.main.body.getD 23 (.Pass ⟨0, 0, 0, 0⟩)
theorem sc_is_word : FnScope ["part"] ["part"] (defScope s_is_word) := ⟨rfl, rfl, rfl, by decide +kernel, rfl, by decide +kernel, by decide +kernel⟩
/-! ### methods that may raise -/
/-- a method of the class at C that may raise -/
structure MetE (P : Program) (w : World) (K : PySem.W.Frag) (mg : Str → Option Value) (base : Heap) (k : Nat) (C : Addr) (m : Str) (sp : Sp) : Prop where
  ex : ∃ (f : Addr) (fd : FuncData) (ps : List Str), Cls K C ∧ Meth K C m f ∧ FnOk P w K mg base (L2.CX P w) k f fd ps sp ∧ Binds K fd ps []
section
variable {X : Cx} {k j : Nat} {C : Addr} {m : Str} {sp : Sp} {E : XK} {pos apos : Pos} {e o : PySem.Expr} {es : List PySem.Expr} {ta : TE} {t : TA}
theorem pe_mtE {pl : Sem Bool} (c : MetE X.prog X.w X.K X.mg X.base k C m sp) (hr : Room j X.A) (hk : k ≤ j) (tk : Takes X (fun cls d _ H => E cls d H)) (he : PE X o ta) (ha : PA X (e :: es) t)
    (hst : starEach (e :: es) X.env = (false, eval e X.env) :: starEach es X.env := by rfl) (hpl : (backTo pos (starEach es X.env)).any (·.1) = false := by rfl)
    (ht : eval (.Call (.Attribute o m apos) (e :: es) [] pos) X.env = (do
      let ov ← eval o X.env
      standAt apos.atName
      let (f, first) ← holding [ov] (getMethod ov m pl)
      callWith pos f first (backTo pos (starEach (e :: es) X.env)) (backToKw pos (keywordEach [] X.env))) := by rfl) :
    PE X (.Call (.Attribute o m apos) (e :: es) [] pos) (tMeth C m sp [] E ta t) := by
  obtain ⟨f, fd, ps, hc, hm, F, b⟩ := c.ex
  exact pe_meth (pl := pl) he hc hm F (hr.mono hk) b .nil (passes_call tk fun _ _ _ _ h => h) ha hst hpl ht
theorem pe_mt0E {pl : Sem Bool} (c : MetE X.prog X.w X.K X.mg X.base k C m sp) (hr : Room j X.A) (hk : k ≤ j) (tk : Takes X (fun cls d _ H => E cls d H)) (he : PE X o ta)
    (ht : eval (.Call (.Attribute o m apos) [] [] pos) X.env = (do
      let ov ← eval o X.env
      standAt apos.atName
      let (f, first) ← holding [ov] (getMethod ov m pl)
      callWith pos f first (backTo pos (starEach [] X.env)) (backToKw pos (keywordEach [] X.env))) := by rfl) :
    PE X (.Call (.Attribute o m apos) [] [] pos) (tMeth C m sp [] E ta tNil) := by
  obtain ⟨f, fd, ps, hc, hm, F, b⟩ := c.ex
  exact pe_meth0 (pl := pl) he hc hm F (hr.mono hk) b .nil (passes_call tk fun _ _ _ _ h => h) ht
end
structure TabOk (R : List Op) : Prop where
  lv : LvOk R
  sd : SideOk R
  br : ∀ z ∈ ([("(" : Str), (")" : Str), ("," : Str)] : List Str), rowOf R z 1 = none ∧ rowOf R z 2 = none
/-- what is refused, where a reading stands at r -/
def BadR (BS r : Addr) (H : Hp) (E : XK) : Prop := ∀ dd H', Kr r H H' → H' dd = some (.xd [("line", .int 0)]) → E (.ref BS) (some dd) H'
theorem BadR.kr {BS r : Addr} {H G : Hp} {E : XK} (b : BadR BS r H E) (k : Kr r H G) : BadR BS r G E := fun dd H' k' h => b dd H' (k.trans k') h
theorem BadR.same {BS r : Addr} {H G : Hp} {E : XK} (b : BadR BS r H E) (k : Same H G) : BadR BS r G E := b.kr (.of k)
theorem BadR.done {BS r : Addr} {H : Hp} {E : XK} (b : BadR BS r H E) {dd : Addr} (h : H dd = none) : E (.ref BS) (some dd) (upd H dd (.xd [("line", .int ((0 : Nat) : Int))])) := b dd _ (.of (same_upd h)) upd_same
theorem PtsAt.allG {K : PySem.W.Frag} {H : Hp} {k : Nat} {vs : List V} {ps : List Pt} (r : PtsAt K H k vs ps) {j : Nat} (h : dpL ps ≤ j) : PtsAt K H j vs ps :=
  ⟨r.1, fun i y u h1 h2 => (r.2 i y u h1 h2).of_depth (Nat.le_trans (dpL_mem (List.mem_of_getElem? h2)) h)⟩
def spTakeE (K : PySem.W.Frag) (D C BS : Addr) : Sp := fun vs H Q E => ∃ (r pl : Addr) (zs : List Str) (R : List Op) (n : Nat), vs = [.ref r] ∧ RdAt K D C H r pl zs R n ∧ zs.length ≤ 1000 ∧ n ≤ zs.length ∧ (zs[n]? = none → BadR BS r H E) ∧ ∀ z, zs[n]? = some z → ∀ H', RdAt K D C H' r pl zs R (n + 1) → Kr r H H' → Q (.str z) H'
def spPartE (K : PySem.W.Frag) (D C BS : Addr) (d : Nat) : Sp := fun vs H Q E => ∃ (r pl : Addr) (zs : List Str) (R : List Op) (n : Nat) (most : Int) (res : Option (Pt × Int × Nat)), vs = [.ref r, .int most] ∧ RdAt K D C H r pl zs R n ∧ zs.length ≤ 1000 ∧ TabOk R ∧ n ≤ zs.length ∧ RP R zs d most n res ∧ (res = none → BadR BS r H E) ∧
  ∀ p lev n1, res = some (p, lev, n1) → ∀ t x H', n ≤ n1 → n1 ≤ zs.length → RdAt K D C H' r pl zs R n1 → Kr r H H' → SqT K H' t [x, .int lev] → PtAt K H' (dpT p) x p → Q (.ref t) H'
def spFirstE (K : PySem.W.Frag) (D C BS : Addr) (d : Nat) : Sp := fun vs H Q E => ∃ (r pl : Addr) (zs : List Str) (R : List Op) (n : Nat) (most : Int) (res : Option (Pt × Int × Nat)), vs = [.ref r, .int most] ∧ RdAt K D C H r pl zs R n ∧ zs.length ≤ 1000 ∧ TabOk R ∧ n ≤ zs.length ∧ RF R zs d most n res ∧ (res = none → BadR BS r H E) ∧
  ∀ p lev n1, res = some (p, lev, n1) → ∀ t x H', n ≤ n1 → n1 ≤ zs.length → RdAt K D C H' r pl zs R n1 → Kr r H H' → SqT K H' t [x, .int lev] → PtAt K H' (dpT p) x p → Q (.ref t) H'
def spPlainE (K : PySem.W.Frag) (D C BS : Addr) (d : Nat) : Sp := fun vs H Q E => ∃ (r pl : Addr) (z : Str) (zs : List Str) (R : List Op) (n : Nat) (res : Option (Pt × Nat)), vs = [.ref r, .str z] ∧ RdAt K D C H r pl zs R n ∧ zs.length ≤ 1000 ∧ TabOk R ∧ n ≤ zs.length ∧ RW R zs d z n res ∧ rowOf R z 1 = none ∧ (res = none → BadR BS r H E) ∧
  ∀ p n1, res = some (p, n1) → ∀ x H', n ≤ n1 → n1 ≤ zs.length → RdAt K D C H' r pl zs R n1 → Kr r H H' → PtAt K H' (dpT p) x p → Q x H'
def spBrE (K : PySem.W.Frag) (D C BS : Addr) (d : Nat) : Sp := fun vs H Q E => ∃ (r pl : Addr) (zs : List Str) (R : List Op) (n : Nat) (res : Option (List Pt × Nat)), vs = [.ref r] ∧ RdAt K D C H r pl zs R n ∧ zs.length ≤ 1000 ∧ TabOk R ∧ zs[n]? = some ("(" : Str) ∧ RB R zs d 0 (n + 1) res ∧ (res = none → BadR BS r H E) ∧
  ∀ ps n1, res = some (ps, n1) → ∀ a vs H', n ≤ n1 → n1 ≤ zs.length → H a = none → H' a = some (.lst vs) → RdAt K D C H' r pl zs R n1 → Kr r H H' → PtsAt K H' (dpL ps) vs ps → Q (.ref a) H'
def spIsWord (K : PySem.W.Frag) : Sp := fun vs H Q _ => ∃ (z : Str) (c : Nat) (t : List Nat), vs = [.str z] ∧ tl z = c :: t ∧ z.length ≤ 1000 ∧ Q (.bl (decide (c ∈ sS))) H
theorem ne_br {z : Str} {c : Nat} {t : List Nat} (e : tl z = c :: t) (h : c ≠ 40) : z ≠ ("(" : Str) := fun y => by
  rw [y, tl_op] at e
  exact h (List.cons.inj e).1.symm
section
variable {P : Program} {w : World} {K : PySem.W.Frag} {mg : Str → Option Value} {base : Heap} {f C D BS : Addr} {fd : FuncData}
def HasTakeE (D C BS : Addr) (P : Program) (w : World) (K : PySem.W.Frag) (mg : Str → Option Value) (base : Heap) : Prop := MetE P w K mg base 3 D "take" (spTakeE K D C BS)
def HasPartE (D C BS : Addr) (d : Nat) (P : Program) (w : World) (K : PySem.W.Frag) (mg : Str → Option Value) (base : Heap) : Prop := MetE P w K mg base (4 * d + 4) D "part" (spPartE K D C BS d)
def HasBrE (D C BS : Addr) (d : Nat) (P : Program) (w : World) (K : PySem.W.Frag) (mg : Str → Option Value) (base : Heap) : Prop := MetE P w K mg base (4 * d + 5) D "parts_in_brackets" (spBrE K D C BS d)
def HasPlainE (D C BS : Addr) (d : Nat) (P : Program) (w : World) (K : PySem.W.Frag) (mg : Str → Option Value) (base : Heap) : Prop := MetE P w K mg base (4 * d + 6) D "plain_part" (spPlainE K D C BS d)
def HasFirstE (D C BS : Addr) (d : Nat) (P : Program) (w : World) (K : PySem.W.Frag) (mg : Str → Option Value) (base : Heap) : Prop := MetE P w K mg base (4 * d + 7) D "first_part" (spFirstE K D C BS d)
def HasIsWord (P : Program) (w : World) (K : PySem.W.Frag) (mg : Str → Option Value) (base : Heap) : Prop := Has P w K mg base 1 "is_word" ["part"] (spIsWord K)
theorem ok_is_word (F : Fun K "is_word" "is_word" s_is_word f fd) (T : Txt mg) : FnOk P w K mg base CX0 1 f fd ["part"] (spIsWord K) := by
  refine F.ok sc_is_word (fun vs H Q E h => ?_) (fun cdv A outer s H vs Q E hr h => ?_)
  · obtain ⟨z, c, t, rfl, _⟩ := h
    rfl
  obtain ⟨z, c, t, rfl, et, hz, q⟩ := h
  refine ⟨_, (pss_one (ps_ret (pe_and (pe_callB (call_isiKK (K := K)) (by rfl) T.z_isinstance (by decide +kernel) (pa_cons (pv 0) (pa_cons (pe_bltn (v := .ty "str") (by rfl) T.z_str (by decide +kernel) rfl) pa_nil))) (pe_one (pe_cmpR op_in_sign (pe_ix ix_str (pv 0) pe_int (fun _ _ => rfl)) (pe_globS rfl T.c_SMALLS) (by rfl)))))), ?_⟩
  walk_at "sx"
  refine x_isT (t := .type "str") (c := true) (.base (.str z)) (kit_ty (by decide +kernel)) ?_
  walk_at "sx"
  refine x_ixS (sz (by omega)) (at0 (show (tl z)[0]? = some c by rw [et]; rfl)) ?_
  walk_at "sx"
  have e : ("abcdefghijklmnopqrstuvwxyz" : Str).cps.toList = sS := tl_S
  rw [e]
  exact q
theorem ok_takeE (F : Fun K "take" "Reading.take" s_Reading_take f fd) (T : Txt mg) (RC : ReC K D) (hne : C ≠ D) (E_BadShape : HasErr P w K mg base "BadShape" "line" BS) : FnOk P w K mg base (L2.CX P w) 3 f fd ["self"] (spTakeE K D C BS) := by
  refine F.okX sc_Reading_take (fun vs H Q E h => ?_) (fun cdv A outer s H vs Q E hr h => ?_)
  · obtain ⟨r, pl, zs, R, n, rfl, _⟩ := h
    rfl
  obtain ⟨r, pl, zs, R, n, rfl, rd, hl, hle, bad, q⟩ := h
  obtain ⟨dx, tb, h1, h2, h3⟩ := rd
  refine ⟨_, (pss_cons (ps_if (pt_cmpR op_eq (pe_fld (pv 0) rfl) (pe_callB (call_lenK (K := K)) (by rfl) T.z_len (by decide +kernel) (pa_cons (pe_fld (pv 0) rfl) pa_nil)) (nomark _))
      (pss_one (ps_raiseE E_BadShape rfl (takes_of rfl rfl rfl rfl) hr (pa_cons pe_int pa_nil) (hk := by omega)))
      pss_nil)
    (pss_cons (ps_fldaug (pv 0) pe_int in_add)
    (pss_one (ps_ret (pe_ix (ix_listK (K := K)) (pe_fld (pv 0) rfl) (pe_op op_sub (pe_fld (pv 0) rfl) pe_int) (fun _ _ => rfl)))))), ?_⟩
  walk_at "sx"
  refine x_fR RC.cl RC.nA rfl h1 (fr_at pl tb n) ?_
  walk_at "sx"
  refine x_fR RC.cl RC.nP rfl h1 (fr_pl pl tb n) ?_
  walk_at "sx"
  refine x_ite (fun z => ?_) (fun z => ?_)
  · have := V.int.inj z
    rw [List.length_map] at this
    have e : zs[n]? = none := List.getElem?_eq_none (by omega)
    walk_at "sx"
    exact x_mkE (n := 0) (by decide) fun dd hd => (bad e).done hd
  have hn : n < zs.length := by
    rcases Nat.lt_or_ge n zs.length with h | h
    · exact h
    · exact absurd (congrArg V.int (show (n : Int) = ((zs.map V.str).length : Int) by rw [List.length_map]; omega)) z
  obtain ⟨z, hz⟩ : ∃ z, zs[n]? = some z := ⟨_, List.getElem?_eq_getElem hn⟩
  walk_at "sx"
  refine ⟨.ref r, rfl, r, D, dx, _, _, rfl, h1, RC.cl, RC.nA, fr_at pl tb n, ?_⟩
  walk_at "sx"
  refine ⟨_, _, rfl, rfl, dx, _, h1, by rw [fr_eq]; show 3 < 1000; decide, ?_⟩
  rw [fr_put]
  have npl : pl ≠ r := ne_of h2 h1 (by intro z; cases z)
  have e2 : upd H r (.ins D dx (fldsR pl tb ((n : Int) + 1))) pl = some (.lst (zs.map V.str)) := by rw [upd_ne npl]; exact h2
  have kr : Kr r H (upd H r (.ins D dx (fldsR pl tb ((n : Int) + 1)))) := fun c o e hc => by rw [upd_ne hc]; exact e
  have tb2 : TabAt K C (upd H r (.ins D dx (fldsR pl tb ((n : Int) + 1)))) tb R := by
    obtain ⟨dx2, b, h, kb, ka, g1, g2, g3, g4⟩ := h3
    have n1 : tb ≠ r := fun z => by
      rw [z, h1] at g1
      have := HO.ins.inj (Option.some.inj g1)
      exact hne this.1.symm
    exact ⟨dx2, b, h, kb, ka, kr _ _ g1 n1, kr _ _ g2 (ne_of g2 h1 (by intro z; cases z)), kr _ _ g3 (ne_of g3 h1 (by intro z; cases z)), g4.mono fun _ _ z => kr.sqT h1 z⟩
  have e1 : upd H r (.ins D dx (fldsR pl tb ((n : Int) + 1))) r = some (.ins D dx (fldsR pl tb ((n : Int) + 1))) := upd_same
  have qq := q z hz _ ⟨dx, tb, e1, e2, tb2⟩ kr
  generalize upd H r (.ins D dx (fldsR pl tb ((n : Int) + 1))) = G at *
  walk_at "sx"
  refine x_fR RC.cl RC.nP rfl e1 (fr_pl pl tb _) ?_
  walk_at "sx"
  refine x_fR RC.cl RC.nA rfl e1 (fr_at pl tb _) ?_
  walk_at "sx"
  rw [show (n : Int) + 1 - 1 = (n : Int) by omega]
  exact x_ixL (.of e2) (atI_nat (by rw [List.getElem?_map, hz]; rfl)) qq
theorem ok_plainE {d : Nat} (F : Fun K "plain_part" "Reading.plain_part" s_Reading_plain_part f fd) (T : Txt mg) (RC : ReC K D) (TC : TabC K C) (E_BadShape : HasErr P w K mg base "BadShape" "line" BS) (C_is_unknown : HasUnknown P w K mg base) (C_is_word : HasIsWord P w K mg base) (C_is_kept : HasIsKept P w K mg base) (M_OperatorTable_has : HasHas C P w K mg base) (M_Reading_is_next : HasNextR D C P w K mg base) (M_Reading_parts_in_brackets : HasBrE D C BS d P w K mg base) : FnOk P w K mg base (L2.CX P w) (4 * d + 6) f fd ["self", "piece"] (spPlainE K D C BS d) := by
  refine F.okX sc_Reading_plain_part (fun vs H Q E h => ?_) (fun cdv A outer s H vs Q E hr h => ?_)
  · obtain ⟨r, pl, z, zs, R, n, res, rfl, _⟩ := h
    rfl
  obtain ⟨r, pl, z, zs, R, n, res, rfl, rd, hl, tok, hn, hp, er1, bad, q⟩ := h
  have rd0 := rd
  obtain ⟨dx, tb, h1, h2, h3⟩ := rd
  have tb0 := h3
  obtain ⟨dx2, b, h, kb, ka, g1, g2, g3, g4⟩ := h3
  have eD : ("0123456789" : Str).cps.toList = sD := tl_D
  have e126 : (⟨#[126]⟩ : Str) = ("~" : Str) := by decide +kernel
  have ne126 : ∀ c : Nat, c ≠ 126 → ¬ V.str ⟨#[c]⟩ = V.str ("~" : Str) := fun c hc z => by
    have := V.str.inj z
    rw [← e126] at this
    injection this with this
    injection this with this
    injection this with this
    exact hc this
  refine ⟨_, (pss_cons (ps_if (pt_cmpR op_in_sign (pe_ix ix_str (pv 1) pe_int (fun _ _ => rfl)) (pe_globS rfl T.c_DIGITS) (by rfl))
      (pss_one (ps_ret (pe_callTy call_int_str (by rfl) T.z_int (by decide +kernel) (pa_cons (pv 1) pa_nil))))
      pss_nil)
    (pss_cons (ps_if (pt_cmpR op_eq (pe_ix ix_str (pv 1) pe_int (fun _ _ => rfl)) pe_str (nomark _))
      (pss_one (ps_ret (pe_un un_neg (pe_callTy call_int_str (by rfl) T.z_int (by decide +kernel) (pa_cons (pe_slice sl_str (pv 1) (po_some pe_int) po_none) pa_nil)))))
      pss_nil)
    (pss_cons (ps_if (pt_val (pe_callH C_is_unknown hr (pa_cons (pv 1) pa_nil) (hk := by omega)))
      (pss_one (ps_ret (pv 1)))
      pss_nil)
    (pss_cons (ps_if (PW.pt (pw_or (pt_not (pt_val (pe_callH C_is_word hr (pa_cons (pv 1) pa_nil) (hk := by omega)))) (pw_or (pt_val (pe_callH C_is_kept hr (pa_cons (pv 1) pa_nil) (hk := by omega))) (pw_or1 (pt_val (C8.pe_mt M_OperatorTable_has hr (by omega) (pe_fld (pv 0) rfl) (pa_cons (pv 1) pa_nil)))))))
      (pss_one (ps_raiseE E_BadShape rfl (takes_of rfl rfl rfl rfl) hr (pa_cons pe_int pa_nil) (hk := by omega)))
      pss_nil)
    (pss_cons (ps_if (pt_val (C8.pe_mt M_Reading_is_next hr (by omega) (pv 0) (pa_cons (pe_tup (pa_cons pe_str pa_nil)) pa_nil)))
      (pss_cons (ps_set (i := 2) sc_Reading_plain_part.nd rfl (Or.inl rfl) (pe_mt0E M_Reading_parts_in_brackets hr (by omega) (takes_of rfl rfl rfl rfl) (pv 0)))
    (pss_one (ps_ret (pe_tup (pa_cons (pv 1) (pa_starK (K := K) (pv 2) pa_nil))))))
      pss_nil)
    (pss_one (ps_ret (pv 1)))))))), ?_⟩
  walk_at "sx"
  have word : Wd R z → (zs[n]? ≠ some ("(" : Str) ∧ res = some (.s z, n) ∨ zs[n]? = some ("(" : Str) ∧ ∃ r2, RB R zs d 0 (n + 1) r2 ∧ res = r2.map fun q => (.t z q.1, q.2)) → hp = hp → True := fun _ _ _ => trivial
  obtain ⟨m, ⟨em, bm, _⟩, rfl⟩ | ⟨⟨⟨c, t, et, hc⟩, _, lz12⟩, rfl⟩ | ⟨⟨c, t, et, n1, n2, n3, hb, lz12⟩, rfl⟩ | ⟨⟨⟨c, t, et, hc⟩, nk, n1, n2, lz12⟩, hw2⟩ : (∃ m, Num R m z ∧ res = some (.i m, n)) ∨ (Unk R z ∧ res = some (.s z, n)) ∨ (PlBad R z ∧ res = none) ∨ (Wd R z ∧ (zs[n]? ≠ some ("(" : Str) ∧ res = some (.s z, n) ∨ zs[n]? = some ("(" : Str) ∧ ∃ r2, RB R zs d 0 (n + 1) r2 ∧ res = r2.map fun q => (.t z q.1, q.2))) := by
    cases hp with
    | num h => exact .inl ⟨_, h, rfl⟩
    | unk h => exact .inr (.inl ⟨h, rfl⟩)
    | bad h => exact .inr (.inr (.inl ⟨h, rfl⟩))
    | word h h2 => exact .inr (.inr (.inr ⟨h, .inl ⟨h2, rfl⟩⟩))
    | compB h h2 h3 => exact .inr (.inr (.inr ⟨h, .inr ⟨h2, _, h3, rfl⟩⟩))
    | comp h h2 h3 => exact .inr (.inr (.inr ⟨h, .inr ⟨h2, _, h3, rfl⟩⟩))
  · by_cases hm : m < 0
    · rw [figT, if_pos hm] at em
      have lz : z.length ≤ 61 := by
        have := congrArg List.length em
        rw [tl_lenP, List.length_cons] at this
        have := numL_len (k := 60) (n := (0 - m).toNat) (by decide) (by omega)
        omega
      refine x_ixS (sz (by omega)) (at0 (show (tl z)[0]? = some 126 by rw [em]; rfl)) ?_
      walk_at "sx"
      refine x_ixS (sz (by omega)) (at0 (show (tl z)[0]? = some 126 by rw [em]; rfl)) ?_
      walk_at "sx"
      refine x_slS (sz (by omega)) ?_
      walk_at "sx"
      have ec : cutS z (some 1) none = Str.ofString (toString (((0 - m).toNat : Nat) : Int)) := by
        refine tl_injP ?_
        rw [tl_num]
        show ((tl z).drop (HT.sIx z.length 0 (some ((1 : Nat) : Int)))).take (HT.sIx z.length z.length none - HT.sIx z.length 0 (some ((1 : Nat) : Int))) = _
        have l1 : 1 ≤ z.length := by rw [← tl_lenP, em]; simp
        rw [HT.sIx_nat, HT.sIx_none, Nat.min_eq_left l1, em, List.drop_succ_cons, List.drop_zero]
        refine List.take_of_length_le ?_
        rw [← tl_lenP, em, List.length_cons]
        omega
      have h60 := numL_len (k := 60) (n := (0 - m).toNat) (by decide) (by omega)
      refine ⟨_, _, rfl, by rw [ec]; exact int_num (by omega), ?_, ?_⟩
      · rw [ec, ← tl_lenP, tl_num]
        omega
      · walk_at "sx"
        rw [show -(((0 - m).toNat : Nat) : Int) = m by omega]
        exact q _ _ rfl _ _ (Nat.le_refl _) hn rd0 (.refl _) rfl
    · rw [figT, if_neg hm] at em
      obtain ⟨c, t, ec⟩ : ∃ c t, numL m.toNat = c :: t := by
        cases e : numL m.toNat with
        | nil => exact absurd e (numL_ne _)
        | cons c t => exact ⟨c, t, rfl⟩
      have cD : c ∈ sD := numL_D m.toNat c (by rw [ec]; exact List.mem_cons_self ..)
      have h60 := numL_len (k := 60) (n := m.toNat) (by decide) (by omega)
      have lz : z.length ≤ 60 := by
        rw [← tl_lenP, em]
        exact h60
      refine x_ixS (sz (by omega)) (at0 (show (tl z)[0]? = some c by rw [em, ec]; rfl)) ?_
      walk_at "sx"
      rw [eD, decide_eq_true cD]
      walk_at "sx"
      have ez : z = Str.ofString (toString ((m.toNat : Nat) : Int)) := tl_injP (by rw [em, tl_num])
      refine ⟨_, _, rfl, by rw [ez]; exact int_num (by omega), by omega, ?_⟩
      rw [show ((m.toNat : Nat) : Int) = m by omega]
      exact q _ _ rfl _ _ (Nat.le_refl _) hn rd0 (.refl _) rfl
  · have hc' := sC_iff.mp hc
    have lz : z.length ≤ 1000 := by omega
    refine x_ixS (sz (by omega)) (at0 (show (tl z)[0]? = some c by rw [et]; rfl)) ?_
    walk_at "sx"
    rw [eD, decide_eq_false (show ¬ c ∈ sD by rw [sD_iff]; omega)]
    walk_at "sx"
    refine x_ixS (sz (by omega)) (at0 (show (tl z)[0]? = some c by rw [et]; rfl)) ?_
    walk_at "sx"
    refine x_ite (fun c' => absurd c' (ne126 c (by omega))) (fun _ => ?_)
    walk_at "sx"
    refine ⟨_, 1, .s z, rfl, rfl, (fun y e => by cases e; exact ⟨c, t, et, lz⟩), ?_⟩
    rw [show unk (.s z) = true from by show unkS z = true; unfold unkS; rw [et]; exact decide_eq_true hc]
    walk_at "sx"
    exact q _ _ rfl _ _ (Nat.le_refl _) hn rd0 (.refl _) rfl
  · have lz : z.length ≤ 1000 := by omega
    have bad' := bad rfl
    refine x_ixS (sz (by omega)) (at0 (show (tl z)[0]? = some c by rw [et]; rfl)) ?_
    walk_at "sx"
    rw [eD, decide_eq_false n1]
    walk_at "sx"
    refine x_ixS (sz (by omega)) (at0 (show (tl z)[0]? = some c by rw [et]; rfl)) ?_
    walk_at "sx"
    refine x_ite (fun c' => absurd c' (ne126 c n2)) (fun _ => ?_)
    walk_at "sx"
    refine ⟨_, 1, .s z, rfl, rfl, (fun y e => by cases e; exact ⟨c, t, et, lz⟩), ?_⟩
    rw [show unk (.s z) = false from by show unkS z = false; unfold unkS; rw [et]; exact decide_eq_false n3]
    walk_at "sx"
    refine ⟨z, c, t, rfl, et, lz, ?_⟩
    by_cases cs : c ∈ sS
    · rw [decide_eq_true cs]
      walk_at "sx"
      refine ⟨z, rfl, ?_⟩
      by_cases ck : z ∈ keptL
      · rw [decide_eq_true ck]
        walk_at "sx"
        exact x_mkE (n := 0) (by decide) fun dd hd => bad'.done hd
      · rw [decide_eq_false ck]
        walk_at "sx"
        refine x_mtT g1 (flds_no b h (by decide +kernel) (by decide +kernel)) ?_ (fun Q' q' => x_fR RC.cl RC.nT rfl h1 (fr_tb pl tb n) q')
        walk_at "sx"
        refine ⟨tb, R, z, rfl, tb0, ?_⟩
        have r2 : rowOf R z 2 ≠ none := (hb.resolve_left (fun h => h cs)).resolve_left ck
        rw [Option.isSome_iff_ne_none.mpr r2]
        walk_at "sx"
        exact x_mkE (n := 0) (by decide) fun dd hd => bad'.done hd
    · rw [decide_eq_false cs]
      walk_at "sx"
      exact x_mkE (n := 0) (by decide) fun dd hd => bad'.done hd
  · have hc' := sS_iff.mp hc
    have lz : z.length ≤ 1000 := by omega
    refine x_ixS (sz (by omega)) (at0 (show (tl z)[0]? = some c by rw [et]; rfl)) ?_
    walk_at "sx"
    rw [eD, decide_eq_false (show ¬ c ∈ sD by rw [sD_iff]; omega)]
    walk_at "sx"
    refine x_ixS (sz (by omega)) (at0 (show (tl z)[0]? = some c by rw [et]; rfl)) ?_
    walk_at "sx"
    refine x_ite (fun c' => absurd c' (ne126 c (by omega))) (fun _ => ?_)
    walk_at "sx"
    refine ⟨_, 1, .s z, rfl, rfl, (fun y e => by cases e; exact ⟨c, t, et, lz⟩), ?_⟩
    rw [show unk (.s z) = false from by show unkS z = false; unfold unkS; rw [et]; exact decide_eq_false (by rw [sC_iff]; omega)]
    walk_at "sx"
    refine ⟨z, c, t, rfl, et, lz, ?_⟩
    rw [decide_eq_true hc]
    walk_at "sx"
    refine ⟨z, rfl, ?_⟩
    rw [decide_eq_false nk]
    walk_at "sx"
    refine x_mtT g1 (flds_no b h (by decide +kernel) (by decide +kernel)) ?_ (fun Q' q' => x_fR RC.cl RC.nT rfl h1 (fr_tb pl tb n) q')
    walk_at "sx"
    refine ⟨tb, R, z, rfl, tb0, ?_⟩
    rw [n1, n2]
    walk_at "sx"
    refine x_mt rfl h1 (fr_no pl tb n (by decide +kernel) (by decide +kernel) (by decide +kernel)) ?_
    walk_at "sx"
    rename_i t1 nt1
    have s1 := same_upd (o := .tup [.str ("(" : Str)]) nt1
    refine ⟨r, pl, zs, R, n, t1, rfl, rd0.same s1, hl, hn, .inr ⟨.of upd_same, ?_⟩⟩
    rcases hw2 with ⟨hne, rfl⟩ | ⟨hbr, r2, hr2, rfl⟩
    · rw [decide_eq_false hne]
      walk_at "sx"
      exact q _ _ rfl _ _ (Nat.le_refl _) hn (rd0.same s1) (.of s1) rfl
    · rw [decide_eq_true hbr]
      have rd1 := rd0.same s1
      have h11 := s1 _ _ h1
      walk_at "sx"
      refine x_mt rfl h11 (fr_no pl tb n (by decide +kernel) (by decide +kernel) (by decide +kernel)) ?_
      walk_at "sx"
      refine ⟨r, pl, zs, R, n, r2, rfl, rd1, hl, tok, hbr, hr2, fun e => (bad (by rw [e]; rfl)).same s1, fun ps n1 e a vs H' hge hle na ea rd2 kr2 pv => ?_⟩
      subst e
      walk_at "sx"
      refine ⟨a, vs, rfl, .inr (.of ea), ?_⟩
      walk_at "sx"
      have lv := pv.1
      obtain ⟨_, _, _, _, l4⟩ := RB.sound tok.lv hr2 _ _ rfl
      refine ⟨sz (by simp; omega), fun t nt => ?_⟩
      have s3 := same_upd (o := .tup (.str z :: (vs ++ []))) nt
      have st : SqT K (upd H' t (.tup (.str z :: (vs ++ [])))) t (.str z :: vs) := .of (by rw [upd_same, List.append_nil])
      refine q _ _ rfl _ _ hge hle (rd2.same s3) ((Kr.of s1).trans (kr2.trans (.of s3))) ?_
      rw [dpT, Nat.add_comm]
      exact PtAt.tup st (pv.same s3)
/-- where the reading of parts in brackets stands -/
def BrWE (K : PySem.W.Frag) (D C r a pl : Addr) (zs : List Str) (R : List Op) (n d : Nat) (res : Option (List Pt × Nat)) (H : Hp) (k : Nat) (σ' : L2.St) (G : Hp) : Prop := ∃ (psd : List Pt) (vs : List V) (e : Str) (x3 x4 : Option V) (n' : Nat), σ' = [some (.ref r), some (.ref a), some (.str e), x3, x4] ∧ G a = some (.lst vs) ∧ PtsAt K G (dpL psd) vs psd ∧ RdAt K D C G r pl zs R n' ∧ Kr r H G ∧ n ≤ n' ∧ n' ≤ zs.length ∧ psd.length ≤ 4 ∧
    ((e = (")" : Str) ∧ res = some (psd, n') ∧ k = 0) ∨ (e ≠ (")" : Str) ∧ k = zs.length - n' + 1 ∧ ∃ r2, RB R zs d psd.length n' r2 ∧ (r2 = none → res = none) ∧ ∀ ps2 n2, r2 = some (ps2, n2) → res = some (psd ++ ps2, n2)))
theorem ok_brE {d : Nat} (F : Fun K "parts_in_brackets" "Reading.parts_in_brackets" s_Reading_parts_in_brackets f fd) (T : Txt mg) (RC : ReC K D) (E_BadShape : HasErr P w K mg base "BadShape" "line" BS) (M_Reading_take : HasTakeE D C BS P w K mg base) (M_Reading_part : HasPartE D C BS d P w K mg base) : FnOk P w K mg base (L2.CX P w) (4 * d + 5) f fd ["self"] (spBrE K D C BS d) := by
  refine F.okX sc_Reading_parts_in_brackets (fun vs H Q E h => ?_) (fun cdv A outer s H vs Q E hr h => ?_)
  · obtain ⟨r, pl, zs, R, n, res, rfl, _⟩ := h
    rfl
  obtain ⟨r, pl, zs, R, n, res, rfl, rd, hl, tok, hbr, hb, bad, q⟩ := h
  obtain ⟨dx, tb, h1, h2, h3⟩ := id rd
  have hnl := lt_of_at hbr
  refine ⟨_, (pss_cons (ps_set (i := 1) sc_Reading_parts_in_brackets.nd rfl (Or.inl rfl) (pe_lst pa_nil))
    (pss_cons (ps_set (i := 2) sc_Reading_parts_in_brackets.nd rfl (Or.inl rfl) (pe_mt0E M_Reading_take hr (by omega) (takes_of rfl rfl rfl rfl) (pv 0)))
    (pss_cons (ps_while (passes_of rfl) (pt_cmpR op_ne (pv 2) pe_str (nomark _))
      (pss_cons (ps_asg (pe_mtE M_Reading_part hr (by omega) (takes_of rfl rfl rfl rfl) (pv 0) (pa_cons (pe_globI rfl T.c_LEVELS) pa_nil)) (pg_tup (by rfl) (pgs_cons (pg_name (i := 3) sc_Reading_parts_in_brackets.nd rfl (.inl rfl)) (pgs_cons (pg_name (i := 4) sc_Reading_parts_in_brackets.nd rfl (.inl rfl)) pgs_nil))))
    (pss_cons (ps_expr (pe_bm PySem.F.plainAttrs_list PySem.F.slot_list_append PySem.F.type_list_append mt_append (pv 1) (pa_cons (pv 3) pa_nil)))
    (pss_cons (ps_set (i := 2) sc_Reading_parts_in_brackets.nd rfl (Or.inl rfl) (pe_mt0E M_Reading_take hr (by omega) (takes_of rfl rfl rfl rfl) (pv 0)))
    (pss_one (ps_if (PW.pt (pw_or (pt_cmpR (op_notInK (K := K)) (pv 2) (pe_tup (pa_cons pe_str (pa_cons pe_str pa_nil))) (by first | exact nomark _ | rfl)) (pw_or1 (pt_cmpR op_gt (pe_callB (call_lenK (K := K)) (by rfl) T.z_len (by decide +kernel) (pa_cons (pv 1) pa_nil)) (pe_globI rfl T.c_PARTS) (nomark _)))))
      (pss_one (ps_raiseE E_BadShape rfl (takes_of rfl rfl rfl rfl) hr (pa_cons pe_int pa_nil) (hk := by omega)))
      pss_nil))))))
    (pss_one (ps_ret (pv 1)))))), ?_⟩
  walk_at "sx"
  rename_i a na
  have s1 := same_upd (o := .lst []) na
  have nar : a ≠ r := ne_of_none h1 na |>.symm
  refine x_mt rfl (s1 _ _ h1) (fr_no pl tb n (by decide +kernel) (by decide +kernel) (by decide +kernel)) ?_
  walk_at "sx"
  refine ⟨r, pl, zs, R, n, rfl, rd.same s1, hl, by omega, (fun e => by rw [hbr] at e; cases e), fun z hz H2 rd2 kr2 => ?_⟩
  rw [hbr] at hz
  cases hz
  have a2 := kr2 _ _ (upd_same (H := H) (a := a) (o := .lst [])) nar
  have kr0 : Kr r H H2 := (Kr.of s1).trans kr2
  walk_at "sx"
  refine x_while (BrWE K D C r a pl zs R n d res H) (zs.length - (n + 1) + 1) ?_ ?_
  · exact ⟨[], [], _, none, none, n + 1, rfl, a2, .nil, rd2, kr0, by omega, by omega, by simp, .inr ⟨by decide +kernel, rfl, res, hb, fun e => e, fun ps2 n2 e => e⟩⟩
  rintro k σ' G ⟨psd, vs, e, x3, x4, n', rfl, aG, pts, rdG, krG, hge, hle, lps, hc⟩
  rcases hc with ⟨rfl, er, rfl⟩ | ⟨he, rfl, r2, hr2, c1, c2⟩
  · walk_at "sx"
    exact q psd n' er a vs G hge hle na aG rdG krG pts
  · walk_at "sx"
    refine x_iteN (fun _ => ?_) (fun c => absurd (V.str.inj c) he)
    obtain ⟨dxG, tbG, g1, g2, g3⟩ := id rdG
    refine ⟨fun σ' G' => ∃ m', m' < zs.length - n' + 1 ∧ BrWE K D C r a pl zs R n d res H m' σ' G', fun σ' H' h => h, ?_⟩
    have lvs := pts.1
    obtain ⟨rp, hp, hnone, hsome⟩ : ∃ rp, RP R zs d 9 n' rp ∧ (rp = none → r2 = none) ∧ ∀ p l n1, rp = some (p, l, n1) → ((zs[n1]? ≠ some (")" : Str) ∧ zs[n1]? ≠ some ("," : Str)) ∨ 4 < psd.length + 1) ∧ r2 = none ∨ psd.length + 1 ≤ 4 ∧ (zs[n1]? = some (")" : Str) ∧ r2 = some ([p], n1 + 1) ∨ zs[n1]? = some ("," : Str) ∧ ∃ r3, RB R zs d (psd.length + 1) (n1 + 1) r3 ∧ (r3 = none → r2 = none) ∧ ∀ ps2 n2, r3 = some (ps2, n2) → r2 = some (p :: ps2, n2)) := by
      cases hr2 with
      | bad h => exact ⟨_, h, fun _ => rfl, fun p l n1 e => by cases e⟩
      | sign h h2 => exact ⟨_, h, fun _ => rfl, fun p l n1 e => by cases e; exact .inl ⟨h2, rfl⟩⟩
      | last h h2 h3 => exact ⟨_, h, (fun e => by cases e), fun p l n1 e => by cases e; exact .inr ⟨h3, .inl ⟨h2, rfl⟩⟩⟩
      | nextB h h2 h3 h4 => exact ⟨_, h, (fun e => by cases e), fun p l n1 e => by cases e; exact .inr ⟨h3, .inr ⟨h2, _, h4, fun _ => rfl, fun _ _ e => by cases e⟩⟩⟩
      | next h h2 h3 h4 => exact ⟨_, h, (fun e => by cases e), fun p l n1 e => by cases e; exact .inr ⟨h3, .inr ⟨h2, _, h4, (fun e => by cases e), fun _ _ e => by cases e; rfl⟩⟩⟩
    walk_at "sx"
    refine x_mt rfl g1 (fr_no pl tbG n' (by decide +kernel) (by decide +kernel) (by decide +kernel)) ?_
    walk_at "sx"
    refine ⟨r, pl, zs, R, n', 9, rp, rfl, rdG, hl, tok, hle, hp, fun e => (bad (c1 (hnone e))).kr krG, fun p lev n1 erp t x G3 hge3 hle3 rd3 kr3 st3 px3 => ?_⟩
    have hs := hsome p lev n1 erp
    have a3 := kr3 _ _ aG nar
    have pts3 : PtsAt K G3 (dpL psd) vs psd := pts.mono fun _ _ z => kr3.sqT g1 z
    walk_at "sx"
    refine x_app a3 (szl (by omega)) ?_
    have s4 : ∀ b xs, SqT K G3 b xs → SqT K (upd G3 a (.lst (vs ++ [x]))) b xs := fun b xs z => sqT_lst a3 z
    have e4 : upd G3 a (.lst (vs ++ [x])) a = some (.lst (vs ++ [x])) := upd_same
    have rd4 : RdAt K D C (upd G3 a (.lst (vs ++ [x]))) r pl zs R n1 := by
      obtain ⟨dx4, tb4, j1, j2, dx5, b5, h5, kb5, ka5, j3, j4, j5, j6⟩ := rd3
      have nap : pl ≠ a := ne_of_none h2 na
      exact ⟨dx4, tb4, by rw [upd_ne (ne_of j1 a3 (by intro z; cases z))]; exact j1, by rw [upd_ne nap]; exact j2, dx5, b5, h5, kb5, ka5, by rw [upd_ne (ne_of j3 a3 (by intro z; cases z))]; exact j3, by rw [upd_ne (ne_of j4 a3 (by intro z; cases z))]; exact j4, by rw [upd_ne (ne_of j5 a3 (by intro z; cases z))]; exact j5, j6.mono s4⟩
    have ed : dpL (psd ++ [p]) = max (dpL psd) (dpT p) := by
      rw [dpL_append, dpL, dpL]
      omega
    have pts4 : PtsAt K (upd G3 a (.lst (vs ++ [x]))) (dpL (psd ++ [p])) (vs ++ [x]) (psd ++ [p]) := ((pts3.allG (by omega)).append (.one (px3.up (j := dpL (psd ++ [p])) (by omega)))).mono s4
    have kr4 : Kr r H (upd G3 a (.lst (vs ++ [x]))) := fun c o e hc => by
      rw [upd_ne (ne_of_none e na)]
      exact (krG.trans kr3) c o e hc
    generalize upd G3 a (.lst (vs ++ [x])) = G4 at *
    obtain ⟨dx6, tb6, j1, j2, j3⟩ := id rd4
    walk_at "sx"
    refine x_mt rfl j1 (fr_no pl tb6 _ (by decide +kernel) (by decide +kernel) (by decide +kernel)) ?_
    walk_at "sx"
    refine ⟨r, pl, zs, R, n1, rfl, rd4, hl, hle3, fun e => ?_, fun sg hsg G5 rd5 kr5 => ?_⟩
    · rcases hs with ⟨_, h⟩ | ⟨_, ⟨h, _⟩ | ⟨h, _⟩⟩
      · exact (bad (c1 h)).kr kr4
      · rw [e] at h
        cases h
      · rw [e] at h
        cases h
    have a5 := kr5 _ _ e4 nar
    have pts5 := pts4.mono fun _ _ z => kr5.sqT j1 z
    have kr05 := kr4.trans kr5
    have hn1 := lt_of_at hsg
    walk_at "sx"
    rename_i tt ntt
    refine ⟨tt, [.str ("," : Str), .str (")" : Str)], rfl, .inr (.of upd_same), rfl, by decide, ?_⟩
    rw [if_pos rfl, show ([.str ("," : Str), .str (")" : Str)] : List V) = ([("," : Str), (")" : Str)] : List Str).map V.str from rfl, inV_strs]
    have s6 := same_upd (o := .tup [.str ("," : Str), .str (")" : Str)]) ntt
    have lv5 : (vs ++ [x]).length = psd.length + 1 := by rw [List.length_append, List.length_singleton, lvs]
    by_cases hin : sg ∈ ([("," : Str), (")" : Str)] : List Str)
    · rw [decide_eq_true hin]
      walk_at "sx"
      refine x_ite (fun c => ?_) (fun c => ?_)
      · have c' : (4 : Int) < (((vs ++ [x]).length : Nat) : Int) := c
        rcases hs with ⟨_, h⟩ | ⟨h, _⟩
        · walk_at "sx"
          exact x_mkE (n := 0) (by decide) fun dd hd => (((bad (c1 h)).kr kr05).same s6).done hd
        · omega
      · have c' : ¬ (4 : Int) < (((vs ++ [x]).length : Nat) : Int) := c
        walk_at "sx"
        rcases hs with ⟨h | h, _⟩ | ⟨hk, ⟨h, e2⟩ | ⟨h, r3, h3, c3, c4⟩⟩
        · rw [hsg] at h
          rcases List.mem_cons.mp hin with z | z
          · exact absurd (congrArg some z) h.2
          · exact absurd (congrArg some (List.mem_singleton.mp z)) h.1
        · omega
        · rw [hsg] at h
          cases h
          exact ⟨0, Nat.succ_pos _, psd ++ [p], vs ++ [x], _, _, _, _, rfl, s6 _ _ a5, pts5.same s6, rd5.same s6, kr05.trans (.of s6), by omega, by omega, by rw [List.length_append]; exact hk, .inl ⟨rfl, c2 _ _ e2, rfl⟩⟩
        · rw [hsg] at h
          cases h
          exact ⟨zs.length - (n1 + 1) + 1, by omega, psd ++ [p], vs ++ [x], _, _, _, _, rfl, s6 _ _ a5, pts5.same s6, rd5.same s6, kr05.trans (.of s6), by omega, by omega, by rw [List.length_append]; exact hk, .inr ⟨by decide +kernel, rfl, r3, by rw [List.length_append]; exact h3, fun e => c1 (c3 e), fun ps2 n2 e => by rw [c2 _ _ (c4 _ _ e)]; simp⟩⟩
    · rw [decide_eq_false hin]
      walk_at "sx"
      rcases hs with ⟨_, h⟩ | ⟨_, ⟨h, _⟩ | ⟨h, _⟩⟩
      · exact x_mkE (n := 0) (by decide) fun dd hd => (((bad (c1 h)).kr kr05).same s6).done hd
      · rw [hsg] at h
        cases h
        exact absurd (by simp) hin
      · rw [hsg] at h
        cases h
        exact absurd (by simp) hin
end
end Gs
namespace Gs
open PySem PySem.Spec PyProof.Rows L2 TL
abbrev s_read_pieces : Stmt := PySem.Challenge.pw_goalstead_k14_goals_by_their_shapes.main.body.getD 37 (.Pass ⟨0, 0, 0, 0⟩)
theorem sc_read_pieces : FnScope ["pieces", "table"] ["pieces", "table"] (defScope s_read_pieces) := ⟨rfl, rfl, rfl, by decide +kernel, rfl, by decide +kernel, by decide +kernel⟩
/-- where a part's steps stand -/
def PaWE (K : PySem.W.Frag) (D C r pl : Addr) (zs : List Str) (R : List Op) (n d : Nat) (most : Int) (res : Option (Pt × Int × Nat)) (H : Hp) (k : Nat) (σ' : L2.St) (G : Hp) : Prop := ∃ (xl : V) (lv : Int) (al : Pt) (n' : Nat) (x4 x5 x6 : Option V), σ' = [some (.ref r), some (.int most), some xl, some (.int lv), x4, x5, x6] ∧ RdAt K D C G r pl zs R n' ∧ Kr r H G ∧ PtAt K G (dpT al) xl al ∧ RL R zs d most lv al n' res ∧ k = zs.length - n' ∧ n ≤ n' ∧ n' ≤ zs.length
section
variable {P : Program} {w : World} {K : PySem.W.Frag} {mg : Str → Option Value} {base : Heap} {f C D BS : Addr} {fd : FuncData}
theorem ok_firstE {d : Nat} (F : Fun K "first_part" "Reading.first_part" s_Reading_first_part f fd) (T : Txt mg) (RC : ReC K D) (TC : TabC K C) (E_BadShape : HasErr P w K mg base "BadShape" "line" BS) (M_Reading_take : HasTakeE D C BS P w K mg base) (M_OperatorTable_ahead_bound : HasAB C P w K mg base) (M_Reading_plain_part : HasPlainE D C BS d P w K mg base) (M_Reading_part : HasPartE D C BS d P w K mg base) : FnOk P w K mg base (L2.CX P w) (4 * d + 7) f fd ["self", "most"] (spFirstE K D C BS d) := by
  refine F.okX sc_Reading_first_part (fun vs H Q E h => ?_) (fun cdv A outer s H vs Q E hr h => ?_)
  · obtain ⟨r, pl, zs, R, n, most, res, rfl, _⟩ := h
    rfl
  obtain ⟨r, pl, zs, R, n, most, res, rfl, rd, hl, tok, hn, hp, bad, q⟩ := h
  obtain ⟨dx0, tb, h1, h2, h3⟩ := id rd
  refine ⟨_, (pss_cons (ps_set (i := 2) sc_Reading_first_part.nd rfl (Or.inl rfl) (pe_mt0E M_Reading_take hr (by omega) (takes_of rfl rfl rfl rfl) (pv 0)))
    (pss_cons (ps_if (pt_cmp (pc_din (hu_of hr) (pv 2) (pe_fld (pe_fld (pv 0) rfl) rfl)))
      (pss_cons (ps_if (pt_cmpR op_gt (pe_dget (hu_of hr) (pe_fld (pe_fld (pv 0) rfl) rfl) (pv 2) (fun _ _ => rfl)) (pv 1) (nomark _))
      (pss_one (ps_raiseE E_BadShape rfl (takes_of rfl rfl rfl rfl) hr (pa_cons pe_int pa_nil) (hk := by omega)))
      pss_nil)
    (pss_cons (ps_asg (pe_mtE M_Reading_part hr (by omega) (takes_of rfl rfl rfl rfl) (pv 0) (pa_cons (C8.pe_mt M_OperatorTable_ahead_bound hr (by omega) (pe_fld (pv 0) rfl) (pa_cons (pv 2) pa_nil)) pa_nil)) (pg_tup (by rfl) (pgs_cons (pg_name (i := 3) sc_Reading_first_part.nd rfl (.inl rfl)) (pgs_cons (pg_name (i := 4) sc_Reading_first_part.nd rfl (.inl rfl)) pgs_nil))))
    (pss_one (ps_ret (pe_tup (pa_cons (pe_tup (pa_cons (pv 2) (pa_cons (pv 3) pa_nil))) (pa_cons (pe_dget (hu_of hr) (pe_fld (pe_fld (pv 0) rfl) rfl) (pv 2) (fun _ _ => rfl)) pa_nil)))))))
      pss_nil)
    (pss_cons (ps_if (pt_cmpR op_eq (pv 2) pe_str (nomark _))
      (pss_cons (ps_asg (pe_mtE M_Reading_part hr (by omega) (takes_of rfl rfl rfl rfl) (pv 0) (pa_cons (pe_globI rfl T.c_LEVELS) pa_nil)) (pg_tup (by rfl) (pgs_cons (pg_name (i := 5) sc_Reading_first_part.nd rfl (.inl rfl)) (pgs_cons (pg_name (i := 4) sc_Reading_first_part.nd rfl (.inl rfl)) pgs_nil))))
    (pss_cons (ps_if (pt_cmpR op_ne (pe_mt0E M_Reading_take hr (by omega) (takes_of rfl rfl rfl rfl) (pv 0)) pe_str (nomark _))
      (pss_one (ps_raiseE E_BadShape rfl (takes_of rfl rfl rfl rfl) hr (pa_cons pe_int pa_nil) (hk := by omega)))
      pss_nil)
    (pss_one (ps_ret (pe_tup (pa_cons (pv 5) (pa_cons pe_int pa_nil)))))))
      pss_nil)
    (pss_one (ps_ret (pe_tup (pa_cons (pe_mtE M_Reading_plain_part hr (by omega) (takes_of rfl rfl rfl rfl) (pv 0) (pa_cons (pv 2) pa_nil)) (pa_cons pe_int pa_nil)))))))), ?_⟩
  walk_at "sx"
  refine x_mt rfl h1 (fr_no pl tb n (by decide +kernel) (by decide +kernel) (by decide +kernel)) ?_
  walk_at "sx"
  refine ⟨r, pl, zs, R, n, rfl, rd, hl, hn, fun e => ?_, fun z hz G rdG krG => ?_⟩
  · refine bad ?_
    cases hp with
    | none => rfl
    | high h => rfl
    | aheadB h => rfl
    | ahead h => rw [e] at h; cases h
    | brB h => rfl
    | brE h => rfl
    | br h => rw [e] at h; cases h
    | plainB h => rfl
    | plain h => rw [e] at h; cases h
  obtain ⟨dx, tb, g0, g1, g2⟩ := id rdG
  have tbG := g2
  obtain ⟨dx2, b, h, kb, ka, j1, j2, j3, j4⟩ := g2
  have hnz := lt_of_at hz
  have badG := fun e => (bad e).kr krG
  walk_at "sx"
  refine x_din ?_
  walk_at "sx"
  refine x_fT TC.cl TC.nA j1 (flds_a b h) ?_ (fun Q' q' => x_fR RC.cl RC.nT rfl g0 (fr_tb pl tb _) q')
  refine ⟨h, _, rfl, DGet.k (k := Sum.inr z) j3, ?_⟩
  by_cases ha : ∃ o, rowOf R z 1 = some o
  · obtain ⟨o, ho⟩ := ha
    rw [j4.as z o ho]
    walk_at "sx"
    refine x_dget ?_
    refine x_fT TC.cl TC.nA j1 (flds_a b h) ?_ (fun Q' q' => x_fR RC.cl RC.nT rfl g0 (fr_tb pl tb _) q')
    walk_at "sx"
    refine ⟨h, .int o.l, rfl, j4.as z o ho ▸ DGet.k (k := Sum.inr z) j3, ?_⟩
    walk_at "sx"
    obtain ⟨hhigh, hok⟩ : (o.l > most → res = none) ∧ (o.l ≤ most → ∃ rp, RP R zs d (o.l - 1) (n + 1) rp ∧ (rp = none → res = none) ∧ ∀ x lx n1, rp = some (x, lx, n1) → res = some (.t z [x], o.l, n1)) := by
      cases hp with
      | none h => rw [hz] at h; cases h
      | high h h2 h3 =>
        rw [hz] at h
        cases h
        rw [ho] at h2
        cases h2
        exact ⟨fun _ => rfl, fun h => by omega⟩
      | aheadB h h2 h3 h4 =>
        rw [hz] at h
        cases h
        rw [ho] at h2
        cases h2
        exact ⟨fun _ => rfl, fun _ => ⟨_, h4, fun _ => rfl, fun _ _ _ e => by cases e⟩⟩
      | ahead h h2 h3 h4 =>
        rw [hz] at h
        cases h
        rw [ho] at h2
        cases h2
        exact ⟨fun h => by omega, fun _ => ⟨_, h4, (fun e => by cases e), fun _ _ _ e => by cases e; rfl⟩⟩
      | brB h => rw [hz] at h; cases h; rw [(tok.br _ (by simp)).1] at ho; cases ho
      | brE h => rw [hz] at h; cases h; rw [(tok.br _ (by simp)).1] at ho; cases ho
      | br h => rw [hz] at h; cases h; rw [(tok.br _ (by simp)).1] at ho; cases ho
      | plainB h h2 => rw [hz] at h; cases h; rw [ho] at h2; cases h2
      | plain h h2 => rw [hz] at h; cases h; rw [ho] at h2; cases h2
    refine x_ite (fun c => ?_) (fun c => ?_)
    · have c' : most < o.l := c
      walk_at "sx"
      exact x_mkE (n := 0) (by decide) fun dd hd => (badG (hhigh c')).done hd
    have c' : ¬ most < o.l := c
    obtain ⟨rp, hrp, hnone, hsome⟩ := hok (by omega)
    walk_at "sx"
    refine x_mt rfl g0 (fr_no pl tb _ (by decide +kernel) (by decide +kernel) (by decide +kernel)) ?_
    walk_at "sx"
    refine x_mtT j1 (flds_no b h (by decide +kernel) (by decide +kernel)) ?_ (fun Q' q' => x_fR RC.cl RC.nT rfl g0 (fr_tb pl tb _) q')
    walk_at "sx"
    refine ⟨tb, R, z, o, rfl, tbG, ho, ?_⟩
    walk_at "sx"
    refine ⟨r, pl, zs, R, n + 1, o.l - 1, rp, rfl, rdG, hl, tok, hnz, hrp, fun e => badG (hnone e), fun x lx n1 e t y G2 hge hle rd2 kr2 st2 py2 => ?_⟩
    have eres := hsome x lx n1 e
    obtain ⟨dx3, tb3, i0, i1, i2⟩ := id rd2
    obtain ⟨dx4, b4, h4', kb4, ka4, k1, k2, k3, k4⟩ := id i2
    walk_at "sx"
    rename_i t1 nt1
    have s1 := same_upd (o := .tup [.str z, y]) nt1
    have e1 : SqT K (upd G2 t1 (.tup [.str z, y])) t1 [.str z, y] := .of upd_same
    have i0' := s1 _ _ i0
    have k1' := s1 _ _ k1
    have k3' := s1 _ _ k3
    have rd3 := rd2.same s1
    have py3 := py2.same s1
    have kr3 := (krG.trans kr2).trans (.of s1)
    generalize upd G2 t1 (.tup [.str z, y]) = G3 at *
    refine x_dget ?_
    refine x_fT TC.cl TC.nA k1' (flds_a b4 h4') ?_ (fun Q' q' => x_fR RC.cl RC.nT rfl i0' (fr_tb pl tb3 _) q')
    walk_at "sx"
    refine ⟨h4', .int o.l, rfl, k4.as z o ho ▸ DGet.k (k := Sum.inr z) k3', ?_⟩
    walk_at "sx"
    rename_i t2 nt2
    have s2 := same_upd (o := .tup [.ref t1, .int o.l]) nt2
    refine q _ _ _ eres _ (.ref t1) _ (by omega) hle (rd3.same s2) (kr3.trans (.of s2)) (.of upd_same) ?_
    rw [dpT, dpL, dpL, Nat.max_eq_left (Nat.zero_le _), Nat.add_comm]
    exact PtAt.tup (Same.sqT s2 e1) (.one (py3.same s2))
  · have hn1 : rowOf R z 1 = none := by
      cases e : rowOf R z 1 with
      | none => rfl
      | some o => exact absurd ⟨o, e⟩ ha
    rw [j4.an z hn1]
    walk_at "sx"
    by_cases hbr : z = ("(" : Str)
    · subst hbr
      obtain ⟨rp, hrp, hnone, hsome⟩ : ∃ rp, RP R zs d 9 (n + 1) rp ∧ (rp = none → res = none) ∧ ∀ p l n1, rp = some (p, l, n1) → (zs[n1]? ≠ some (")" : Str) → res = none) ∧ (zs[n1]? = some (")" : Str) → res = some (p, 0, n1 + 1)) := by
        cases hp with
        | none h => rw [hz] at h; cases h
        | high h h2 => rw [hz] at h; cases h; rw [hn1] at h2; cases h2
        | aheadB h h2 => rw [hz] at h; cases h; rw [hn1] at h2; cases h2
        | ahead h h2 => rw [hz] at h; cases h; rw [hn1] at h2; cases h2
        | brB h h2 => exact ⟨_, h2, fun _ => rfl, fun _ _ _ e => by cases e⟩
        | brE h h2 h3 => exact ⟨_, h2, fun _ => rfl, fun _ _ _ e => by cases e; exact ⟨fun _ => rfl, fun h => absurd h h3⟩⟩
        | br h h2 h3 => exact ⟨_, h2, (fun e => by cases e), fun _ _ _ e => by cases e; exact ⟨fun h => absurd h3 h, fun _ => rfl⟩⟩
        | plainB h h2 h3 => rw [hz] at h; cases h; exact absurd rfl h3
        | plain h h2 h3 => rw [hz] at h; cases h; exact absurd rfl h3
      walk_at "sx"
      refine x_mt rfl g0 (fr_no pl tb _ (by decide +kernel) (by decide +kernel) (by decide +kernel)) ?_
      walk_at "sx"
      refine ⟨r, pl, zs, R, n + 1, 9, rp, rfl, rdG, hl, tok, hnz, hrp, fun e => badG (hnone e), fun x lx n1 e t y G2 hge hle rd2 kr2 st2 py2 => ?_⟩
      obtain ⟨hne, heq⟩ := hsome x lx n1 e
      obtain ⟨dx3, tb3, i0, i1, i2⟩ := id rd2
      have kr02 := krG.trans kr2
      walk_at "sx"
      refine x_mt rfl i0 (fr_no pl tb3 _ (by decide +kernel) (by decide +kernel) (by decide +kernel)) ?_
      walk_at "sx"
      refine ⟨r, pl, zs, R, n1, rfl, rd2, hl, hle, fun e => (bad (hne (by rw [e]; simp))).kr kr02, fun z2 hz2 G3 rd3 kr3 => ?_⟩
      have kr03 := kr02.trans kr3
      walk_at "sx"
      refine x_iteN (fun c => ?_) (fun c => ?_)
      · walk_at "sx"
        refine x_mkE (n := 0) (by decide) fun dd hd => ((bad (hne fun e => c ?_)).kr kr03).done hd
        rw [hz2] at e
        cases e
        rfl
      · have ez2 : z2 = (")" : Str) := V.str.inj c
        subst ez2
        have hlt := lt_of_at hz2
        walk_at "sx"
        rename_i t2 nt2
        have s2 := same_upd (o := .tup [y, .int 0]) nt2
        exact q _ _ _ (heq hz2) _ y _ (by omega) (by omega) (rd3.same s2) (kr03.trans (.of s2)) (.of upd_same) ((py2.kr kr3 i0).same s2)
    · obtain ⟨rw1, hrw, hnone, hsome⟩ : ∃ rw1, RW R zs d z (n + 1) rw1 ∧ (rw1 = none → res = none) ∧ ∀ p n1, rw1 = some (p, n1) → res = some (p, 0, n1) := by
        cases hp with
        | none h => rw [hz] at h; cases h
        | high h h2 => rw [hz] at h; cases h; rw [hn1] at h2; cases h2
        | aheadB h h2 => rw [hz] at h; cases h; rw [hn1] at h2; cases h2
        | ahead h h2 => rw [hz] at h; cases h; rw [hn1] at h2; cases h2
        | brB h h2 => rw [hz] at h; cases h; exact absurd rfl hbr
        | brE h h2 h3 => rw [hz] at h; cases h; exact absurd rfl hbr
        | br h h2 h3 => rw [hz] at h; cases h; exact absurd rfl hbr
        | plainB h h2 h3 h4 =>
          rw [hz] at h
          cases h
          exact ⟨_, h4, fun _ => rfl, fun _ _ e => by cases e⟩
        | plain h h2 h3 h4 =>
          rw [hz] at h
          cases h
          exact ⟨_, h4, (fun e => by cases e), fun _ _ e => by cases e; rfl⟩
      walk_at "sx"
      refine x_ite (fun c => absurd (V.str.inj c) hbr) (fun _ => ?_)
      walk_at "sx"
      refine x_mt rfl g0 (fr_no pl tb _ (by decide +kernel) (by decide +kernel) (by decide +kernel)) ?_
      walk_at "sx"
      refine ⟨r, pl, z, zs, R, n + 1, rw1, rfl, rdG, hl, tok, hnz, hrw, hn1, fun e => badG (hnone e), fun p n1 e y G2 hge hle rd2 kr2 py2 => ?_⟩
      walk_at "sx"
      rename_i t2 nt2
      have s2 := same_upd (o := .tup [y, .int 0]) nt2
      exact q _ _ _ (hsome p n1 e) _ y _ (by omega) hle (rd2.same s2) ((krG.trans kr2).trans (.of s2)) (.of upd_same) (py2.same s2)
theorem ok_partE {d : Nat} (F : Fun K "part" "Reading.part" s_Reading_part f fd) (T : Txt mg) (RC : ReC K D) (TC : TabC K C) (M_Reading_take : HasTakeE D C BS P w K mg base) (M_Reading_goes_on : HasGoes D C P w K mg base) (M_OperatorTable_right_bound : HasRB C P w K mg base) (M_Reading_first_part : HasFirstE D C BS d P w K mg base) (M_Reading_part : HasPartE D C BS d P w K mg base) : FnOk P w K mg base (L2.CX P w) (4 * d + 8) f fd ["self", "most"] (spPartE K D C BS (d + 1)) := by
  refine F.okX sc_Reading_part (fun vs H Q E h => ?_) (fun cdv A outer s H vs Q E hr h => ?_)
  · obtain ⟨r, pl, zs, R, n, most, res, rfl, _⟩ := h
    rfl
  obtain ⟨r, pl, zs, R, n, most, res, rfl, rd, hl, tok, hn, hp, bad, q⟩ := h
  obtain ⟨dx0, tb, h1, h2, h3⟩ := id rd
  obtain ⟨rf, hrf, hnone, hsome⟩ : ∃ rf, RF R zs d most n rf ∧ (rf = none → res = none) ∧ ∀ a la n1, rf = some (a, la, n1) → RL R zs d most la a n1 res := by
    cases hp with
    | bad h => exact ⟨_, h, fun _ => rfl, fun _ _ _ e => by cases e⟩
    | go h h2 => exact ⟨_, h, (fun e => by cases e), fun _ _ _ e => by cases e; exact h2⟩
  refine ⟨_, (pss_cons (ps_asg (pe_mtE M_Reading_first_part hr (by omega) (takes_of rfl rfl rfl rfl) (pv 0) (pa_cons (pv 1) pa_nil)) (pg_tup (by rfl) (pgs_cons (pg_name (i := 2) sc_Reading_part.nd rfl (.inl rfl)) (pgs_cons (pg_name (i := 3) sc_Reading_part.nd rfl (.inl rfl)) pgs_nil))))
    (pss_cons (ps_while (passes_of rfl) (pt_val (C8.pe_mt M_Reading_goes_on hr (by omega) (pv 0) (pa_cons (pv 3) (pa_cons (pv 1) pa_nil))))
      (pss_cons (ps_set (i := 4) sc_Reading_part.nd rfl (Or.inl rfl) (pe_mt0E M_Reading_take hr (by omega) (takes_of rfl rfl rfl rfl) (pv 0)))
    (pss_cons (ps_asg (pe_mtE M_Reading_part hr (by omega) (takes_of rfl rfl rfl rfl) (pv 0) (pa_cons (C8.pe_mt M_OperatorTable_right_bound hr (by omega) (pe_fld (pv 0) rfl) (pa_cons (pv 4) pa_nil)) pa_nil)) (pg_tup (by rfl) (pgs_cons (pg_name (i := 5) sc_Reading_part.nd rfl (.inl rfl)) (pgs_cons (pg_name (i := 6) sc_Reading_part.nd rfl (.inl rfl)) pgs_nil))))
    (pss_cons (ps_set (i := 2) sc_Reading_part.nd rfl (Or.inl rfl) (pe_tup (pa_cons (pv 4) (pa_cons (pv 2) (pa_cons (pv 5) pa_nil)))))
    (pss_one (ps_asg (pe_dget (hu_of hr) (pe_fld (pe_fld (pv 0) rfl) rfl) (pv 4) (fun _ _ => rfl)) (pg_tup (by rfl) (pgs_cons (pg_name (i := 3) sc_Reading_part.nd rfl (.inl rfl)) (pgs_cons (pg_name (i := 6) sc_Reading_part.nd rfl (.inl rfl)) pgs_nil)))))))))
    (pss_one (ps_ret (pe_tup (pa_cons (pv 2) (pa_cons (pv 3) pa_nil))))))), ?_⟩
  walk_at "sx"
  refine x_mt rfl h1 (fr_no pl tb n (by decide +kernel) (by decide +kernel) (by decide +kernel)) ?_
  walk_at "sx"
  refine ⟨r, pl, zs, R, n, most, rf, rfl, rd, hl, tok, hn, hrf, fun e => bad (hnone e), fun a la n1 e t x G hge hle rdG krG st px => ?_⟩
  have hrl := hsome a la n1 e
  walk_at "sx"
  refine x_while (PaWE K D C r pl zs R n d most res H) (zs.length - n1) ?_ ?_
  · exact ⟨x, la, a, n1, none, none, none, rfl, rdG, krG, px, hrl, rfl, hge, hle⟩
  clear hrl px st krG rdG hle hge e hsome hnone hrf h1 h2 h3 G
  rintro k σ' G ⟨xl, lv, al, n', x4, x5, x6, rfl, rdG, krG, px, hst, rfl, hge, hle⟩
  obtain ⟨dx, tb, g0, g1, g2⟩ := id rdG
  have tbG := g2
  obtain ⟨dx2, b, h, kb, ka, j1, j2, j3, j4⟩ := g2
  walk_at "sx"
  refine x_mt rfl g0 (fr_no pl tb _ (by decide +kernel) (by decide +kernel) (by decide +kernel)) ?_
  walk_at "sx"
  refine ⟨r, pl, zs, R, n', lv, most, rfl, rdG, hl, hle, ?_⟩
  cases eg : goesB R lv most zs[n']? with
  | false =>
    have er : res = some (al, lv, n') := by
      cases hst with
      | stop _ => rfl
      | bad h h2 h3 => rw [h, h3] at eg; cases eg
      | step h h2 h3 => rw [h, h3] at eg; cases eg
    walk_at "sx"
    rename_i t2 nt2
    have s2 := same_upd (o := .tup [xl, .int lv]) nt2
    exact q _ _ _ er _ xl _ hge hle (rdG.same s2) (krG.trans (.of s2)) (.of upd_same) (px.same s2)
  | true =>
    obtain ⟨nm, o, rp, ez, ho, hrp, hnone, hsome⟩ : ∃ nm o rp, zs[n']? = some nm ∧ rowOf R nm 2 = some o ∧ RP R zs d (rbO o) (n' + 1) rp ∧ (rp = none → res = none) ∧ ∀ bb lb n1, rp = some (bb, lb, n1) → RL R zs d most o.l (.t nm [al, bb]) n1 res := by
      cases hst with
      | stop h => rw [h] at eg; cases eg
      | bad h h2 h3 h4 => exact ⟨_, _, _, h, h2, h4, fun _ => rfl, fun _ _ _ e => by cases e⟩
      | step h h2 h3 h4 h5 => exact ⟨_, _, _, h, h2, h4, (fun e => by cases e), fun _ _ _ e => by cases e; exact h5⟩
    have hlt := lt_of_at ez
    have badG := fun e => (bad e).kr krG
    walk_at "sx"
    refine ⟨fun σ' G' => ∃ m', m' < zs.length - n' ∧ PaWE K D C r pl zs R n d most res H m' σ' G', fun σ' H' h => h, ?_⟩
    walk_at "sx"
    refine x_mt rfl g0 (fr_no pl tb _ (by decide +kernel) (by decide +kernel) (by decide +kernel)) ?_
    walk_at "sx"
    refine ⟨r, pl, zs, R, n', rfl, rdG, hl, hle, (fun e => by rw [ez] at e; cases e), fun z2 hz2 G2 rd2 kr2 => ?_⟩
    rw [ez] at hz2
    cases hz2
    obtain ⟨dx3, tb3, i0, i1, i2⟩ := id rd2
    have tb2 := i2
    obtain ⟨dx4, b4, h4', kb4, ka4, k1, k2, k3, k4⟩ := i2
    have px2 := px.kr kr2 g0
    walk_at "sx"
    refine x_mt rfl i0 (fr_no pl tb3 _ (by decide +kernel) (by decide +kernel) (by decide +kernel)) ?_
    walk_at "sx"
    refine x_mtT k1 (flds_no b4 h4' (by decide +kernel) (by decide +kernel)) ?_ (fun Q' q' => x_fR RC.cl RC.nT rfl i0 (fr_tb pl tb3 _) q')
    walk_at "sx"
    refine ⟨tb3, R, nm, o, rfl, tb2, ho, ?_⟩
    walk_at "sx"
    refine ⟨r, pl, zs, R, n' + 1, rbO o, rp, rfl, rd2, hl, tok, hlt, hrp, fun e => (badG (hnone e)).kr kr2, fun bb lb n1 e t y G3 hge3 hle3 rd3 kr3 st3 py3 => ?_⟩
    have hrl := hsome bb lb n1 e
    have px3 := px2.kr kr3 i0
    walk_at "sx"
    rename_i t1 nt1
    have s1 := same_upd (o := .tup [.str nm, xl, y]) nt1
    have e1 : SqT K (upd G3 t1 (.tup [.str nm, xl, y])) t1 [.str nm, xl, y] := .of upd_same
    have rd4 := rd3.same s1
    have px4 := px3.same s1
    have py4 := py3.same s1
    have kr4 := ((krG.trans kr2).trans kr3).trans (.of s1)
    generalize upd G3 t1 (.tup [.str nm, xl, y]) = G4 at *
    obtain ⟨dx5, tb5, l0, l1, l2⟩ := id rd4
    obtain ⟨dx6, b6, h6', kb6, ka6, m1, m2, m3, m4⟩ := l2
    obtain ⟨t6, et6, st6⟩ := m4.bs nm o ho
    refine x_dget ?_
    refine x_fT TC.cl TC.nB m1 (flds_b b6 h6') ?_ (fun Q' q' => x_fR RC.cl RC.nT rfl l0 (fr_tb pl tb5 _) q')
    walk_at "sx"
    refine ⟨b6, .ref t6, rfl, et6 ▸ DGet.k (k := Sum.inr nm) m2, ?_⟩
    walk_at "sx"
    refine ⟨zs.length - n1, by omega, .ref t1, o.l, .t nm [al, bb], n1, _, _, _, rfl, rd4, kr4, ?_, hrl, rfl, by omega, hle3⟩
    rw [dpT, Nat.add_comm]
    exact PtAt.tup (vs := [xl, y]) e1 (.append (vs := [xl]) (ps := [al]) (.one (px4.up (by rw [dpL]; omega))) (.one (py4.up (by rw [dpL, dpL]; omega))))
end
end Gs
namespace Gs
open PySem PySem.Spec PyProof.Rows L2 TL
abbrev s_is_great : Stmt := PySem.Challenge.pw_goalstead_k14_goals_by_their_shapes.main.body.getD 42 (.Pass ⟨0, 0, 0, 0⟩)
theorem sc_is_great : FnScope ["pattern"] ["pattern"] (defScope s_is_great) := ⟨rfl, rfl, rfl, by decide +kernel, rfl, by decide +kernel, by decide +kernel⟩
abbrev s_is_pattern : Stmt := PySem.Challenge.pw_goalstead_k14_goals_by_their_shapes.main.body.getD 47 (.Pass ⟨0, 0, 0, 0⟩)
theorem sc_is_pattern : FnScope ["reading", "waiting", "part"] ["reading"] (defScope s_is_pattern) := ⟨rfl, rfl, rfl, by decide +kernel, rfl, by decide +kernel, by decide +kernel⟩
abbrev s_table_of : Stmt := PySem.Challenge.pw_goalstead_k14_goals_by_their_shapes.main.body.getD 63 (.Pass ⟨0, 0, 0, 0⟩)
theorem sc_table_of : FnScope ["operators"] ["operators"] (defScope s_table_of) := ⟨rfl, rfl, rfl, by decide +kernel, rfl, by decide +kernel, by decide +kernel⟩
abbrev s_measure : Stmt := PySem.Challenge.pw_goalstead_k14_goals_by_their_shapes.main.body.getD 64 (.Pass ⟨0, 0, 0, 0⟩)
theorem sc_measure : FnScope ["reading"] ["reading"] (defScope s_measure) := ⟨rfl, rfl, rfl, by decide +kernel, rfl, by decide +kernel, by decide +kernel⟩
/-- what all pieces together are read to -/
def RdO (R : List Op) (d : Nat) (zs : List Str) (o : Option Pt) : Prop := ∃ res, RP R zs d 9 0 res ∧ ((o = none ∧ ∀ p l, res ≠ some (p, l, zs.length)) ∨ ∃ p l, o = some p ∧ res = some (p, l, zs.length))
def NoK (z : Str) : Prop := z ∉ keptL
def BadS (BS : Addr) (H : Hp) (E : XK) : Prop := ∀ dd H', Same H H' → H' dd = some (.xd [("line", .int 0)]) → E (.ref BS) (some dd) H'
theorem BadS.same {BS : Addr} {H G : Hp} {E : XK} (b : BadS BS H E) (k : Same H G) : BadS BS G E := fun dd H' k' h => b dd H' (k.trans k') h
theorem BadS.done {BS : Addr} {H : Hp} {E : XK} (b : BadS BS H E) {dd : Addr} (h : H dd = none) : E (.ref BS) (some dd) (upd H dd (.xd [("line", .int ((0 : Nat) : Int))])) := b dd _ (same_upd h) upd_same
mutual
/-- a name of it is kept -/
def hasK : Pt → Bool
  | .i _ => false
  | .s _ => false
  | .t nm ps => decide (nm ∈ keptL) || hasKL ps
def hasKL : List Pt → Bool
  | [] => false
  | x :: r => hasK x || hasKL r
end
theorem hasKL_append : ∀ a b : List Pt, hasKL (a ++ b) = (hasKL a || hasKL b)
  | [], b => by simp [hasKL]
  | x :: r, b => by rw [List.cons_append, hasKL, hasKL, hasKL_append r b, Bool.or_assoc]
theorem hasKL_last {ps : List Pt} {u : Pt} (h : ps[ps.length - 1]? = some u) : hasKL ps = (hasKL ps.dropLast || hasK u) := by
  have hl := (List.getElem?_eq_some_iff.mp h).1
  have hne : ps ≠ [] := fun z => by rw [z] at hl; simp at hl
  have e : ps = ps.dropLast ++ [u] := by
    have h1 := List.dropLast_concat_getLast hne
    rw [List.getLast_eq_getElem] at h1
    rw [List.getElem?_eq_getElem hl] at h
    rw [Option.some.inj h] at h1
    exact h1.symm
  rw [e, hasKL_append, List.dropLast_concat, hasKL, hasKL, Bool.or_false]
def spRdInit (K : PySem.W.Frag) (D C : Addr) : Sp := fun vs H Q _ => ∃ (r pl tb dx : Addr) (zs : List Str) (R : List Op), vs = [.ref r, .ref pl, .ref tb] ∧ H r = some (.ins D dx []) ∧ H pl = some (.lst (zs.map V.str)) ∧ TabAt K C H tb R ∧ ∀ H', RdAt K D C H' r pl zs R 0 → Kr r H H' → Q .non H'
def spWholeE (K : PySem.W.Frag) (D C BS : Addr) (d : Nat) : Sp := fun vs H Q E => ∃ (r pl : Addr) (zs : List Str) (R : List Op) (o : Option Pt), vs = [.ref r] ∧ RdAt K D C H r pl zs R 0 ∧ zs.length ≤ 1000 ∧ TabOk R ∧ RdO R d zs o ∧ (o = none → BadR BS r H E) ∧ ∀ p, o = some p → ∀ x H', Kr r H H' → PtAt K H' (dpT p) x p → Q x H'
def spReadPE (K : PySem.W.Frag) (C BS : Addr) (d : Nat) : Sp := fun vs H Q E => ∃ (pl tb : Addr) (zs : List Str) (R : List Op) (o : Option Pt), vs = [.ref pl, .ref tb] ∧ H pl = some (.lst (zs.map V.str)) ∧ TabAt K C H tb R ∧ zs.length ≤ 1000 ∧ TabOk R ∧ RdO R d zs o ∧ (o = none → BadS BS H E) ∧ ∀ p, o = some p → ∀ x H', Same H H' → PtAt K H' (dpT p) x p → Q x H'
theorem x_mtMk {D : Addr} {m : Str} {sp1 sp2 : Sp} {t t2 : TA} {σ : L2.St} {H : Hp} {Q : VK} {E E1 : XK} (q : t σ H fun vs H1 => ∀ x dx, H1 x = none → H1 dx = none → dx ≠ x → sp1 (.ref x :: (vs ++ [])) (upd (upd H1 dx (.own x)) x (.ins D dx [])) (fun v H2 => v = .non ∧ ∃ a dx' fs, V.ref x = .ref a ∧ H2 a = some (.ins D dx' fs) ∧ fs.lookup m = none ∧ t2 σ H2 fun vs2 H3 => sp2 (.ref x :: (vs2 ++ [])) H3 Q E) E1) : tMeth D m sp2 [] E (tMake D sp1 [] E1 t) t2 σ H Q := by
  unfold tMeth tMake
  have h : ∀ x : Addr, (fun (v : V) (H2 : Hp) => v = V.non ∧ ∃ a dx' fs, V.ref x = .ref a ∧ H2 a = some (HO.ins D dx' fs) ∧ fs.lookup m = none ∧ t2 σ H2 fun vs2 H3 => sp2 (.ref x :: (vs2 ++ [])) H3 Q E) = (fun (v : V) (H2 : Hp) => v = V.non ∧ ∃ a dx' fs, V.ref x = .ref a ∧ H2 a = some (HO.ins D dx' fs) ∧ fs.lookup m = none ∧ t2 σ H2 fun vs2 H3 => sp2 (V.ref x :: (vs2 ++ [])) H3 Q E) := fun x => rfl
  exact q
def spGreat (K : PySem.W.Frag) : Sp := fun vs H Q _ => ∃ (v : V) (k : Nat) (p : Pt), vs = [v] ∧ PtAt K H k v p ∧ szT p ≤ 10000 ∧ ∀ H', Same H H' → Q (.bl (decide (60 < szT p ∨ 12 < dpT p))) H'
def spMeasE (K : PySem.W.Frag) (BZ : Addr) : Sp := fun vs H Q E => ∃ (v : V) (k : Nat) (p : Pt), vs = [v] ∧ PtAt K H k v p ∧ szT p ≤ 10000 ∧ ((60 < szT p ∨ 12 < dpT p) → BadS BZ H E) ∧ (szT p ≤ 60 ∧ dpT p ≤ 12 → ∀ H', Same H H' → Q .non H')
def spIsPat (K : PySem.W.Frag) : Sp := fun vs H Q _ => ∃ (v : V) (k : Nat) (p : Pt), vs = [v] ∧ PtAt K H k v p ∧ szT p ≤ 10000 ∧ ∀ H', Same H H' → Q (.bl (!hasK p)) H'
def spTable (K : PySem.W.Frag) (C : Addr) : Sp := fun vs H Q _ => ∃ (b : Addr) (es : List V) (ops : List Op), vs = [.ref b] ∧ H b = some (.lst es) ∧ RowsAt K H es ops ∧ OpsOk ops ∧ ∀ t H', Same H H' → TabAt K C H' t (ownL ++ ops) → Q (.ref t) H'
section
variable {X : Cx} {x : Str} {p pos : Pos} {e : PySem.Expr} {es : List PySem.Expr} {t : TA}
/-- a def with defaults of the text that may raise -/
structure HasKE (P : Program) (w : World) (K : PySem.W.Frag) (mg : Str → Option Value) (base : Heap) (k : Nat) (x : Str) (ps : List Str) (n : Nat) (ks : List Str) (dvs : List V) (sp : Sp) : Prop where
  ex : ∃ (f : Addr) (fd : FuncData), FnOk P w K mg base (L2.CX P w) k f fd ps sp ∧ (∃ ds, Vals dvs ds ∧ Binds K fd ps ds) ∧ KBn K fd ps n ks (fun us ws => us ++ ws) (fun vs zs => vs ++ zs) ∧ PySem.W.keepIn K (.ref f) = true ∧ mg x = some (.ref f)
theorem pe_callHDE {k j n : Nat} {ps ks : List Str} {dvs : List V} {sp : Sp} {W : WX} (C : HasKE X.prog X.w X.K X.mg X.base k x ps n ks dvs sp) (hr : Room j X.A) (tk : Takes X W) (ha : PA X (e :: es) t) (hk : k ≤ j := by decide) (hg : Gl X x := by rfl) (hdb : (x == ("__debug__" : Str)) = false := by decide)
    (he : starEach (e :: es) X.env = (false, eval e X.env) :: starEach es X.env := by rfl) (hpl : (backTo pos (starEach es X.env)).any (·.1) = false := by rfl) :
    PE X (.Call (.Name x p) (e :: es) [] pos) (tCallSD sp dvs (WE W) t) := by
  obtain ⟨f, fd, F, ⟨ds, hv, b⟩, _, kp, m⟩ := C.ex
  exact pe_callSD F (hr.mono hk) hg m kp b hv (fun σ => passAt tk σ) ha hdb he hpl
theorem x_callSD {σ : L2.St} {H : Hp} {Q : VK} {sp : Sp} {dvs : List V} {E : L2.St → XK} {t : TA} (q : t σ H fun vs H1 => sp (vs ++ dvs) H1 Q (E σ)) : tCallSD sp dvs E t σ H Q := q
end
section
variable {P : Program} {w : World} {K : PySem.W.Frag} {mg : Str → Option Value} {base : Heap} {f C D BS BZ fp ff fl fb : Addr} {fd fdp fdf fdl fdb : FuncData}
def HasWholeE (D C BS : Addr) (d : Nat) (P : Program) (w : World) (K : PySem.W.Frag) (mg : Str → Option Value) (base : Heap) : Prop := MetE P w K mg base (4 * d + 5) D "whole" (spWholeE K D C BS d)
def HasRdInit (D C : Addr) (P : Program) (w : World) (K : PySem.W.Frag) (mg : Str → Option Value) (base : Heap) : Prop := C8.Mak P w K mg base 1 "Reading" D (spRdInit K D C) []
def HasReadPE (C BS : Addr) (d : Nat) (P : Program) (w : World) (K : PySem.W.Frag) (mg : Str → Option Value) (base : Heap) : Prop := HasE P w K mg base (4 * d + 6) "read_pieces" ["pieces", "table"] (spReadPE K C BS d)
def HasSize (P : Program) (w : World) (K : PySem.W.Frag) (mg : Str → Option Value) (base : Heap) : Prop := Has P w K mg base 1 "size_of" ["pattern"] (spSize K)
def HasDepthOf (P : Program) (w : World) (K : PySem.W.Frag) (mg : Str → Option Value) (base : Heap) : Prop := Has P w K mg base 1 "depth_of" ["pattern"] (spDepthOf K)
def HasGreat (P : Program) (w : World) (K : PySem.W.Frag) (mg : Str → Option Value) (base : Heap) : Prop := Has P w K mg base 2 "is_great" ["pattern"] (spGreat K)
def HasMeasE (BZ : Addr) (P : Program) (w : World) (K : PySem.W.Frag) (mg : Str → Option Value) (base : Heap) : Prop := HasE P w K mg base 4 "_measure" ["reading"] (spMeasE K BZ)
def HasIsPat (P : Program) (w : World) (K : PySem.W.Frag) (mg : Str → Option Value) (base : Heap) : Prop := Has P w K mg base 2 "is_pattern" ["reading"] (spIsPat K)
def HasTable (C : Addr) (P : Program) (w : World) (K : PySem.W.Frag) (mg : Str → Option Value) (base : Heap) : Prop := Has P w K mg base 3 "_table_of" ["operators"] (spTable K C)
theorem parts_allE (T : Txt mg) (RC : ReC K D) (TC : TabC K C) (E_BadShape : HasErr P w K mg base "BadShape" "line" BS) (M_Reading_take : HasTakeE D C BS P w K mg base) (M_Reading_is_next : HasNextR D C P w K mg base) (M_Reading_goes_on : HasGoes D C P w K mg base) (M_OperatorTable_right_bound : HasRB C P w K mg base) (M_OperatorTable_ahead_bound : HasAB C P w K mg base) (M_OperatorTable_has : HasHas C P w K mg base)
    (C_is_unknown : HasUnknown P w K mg base) (C_is_word : HasIsWord P w K mg base) (C_is_kept : HasIsKept P w K mg base)
    (Fp : Fun K "part" "Reading.part" s_Reading_part fp fdp) (mp : Meth K D "part" fp) (bp : Binds K fdp ["self", "most"] [])
    (Ff : Fun K "first_part" "Reading.first_part" s_Reading_first_part ff fdf) (mf : Meth K D "first_part" ff) (bf : Binds K fdf ["self", "most"] [])
    (Fl : Fun K "plain_part" "Reading.plain_part" s_Reading_plain_part fl fdl) (ml : Meth K D "plain_part" fl) (bl : Binds K fdl ["self", "piece"] [])
    (Fb : Fun K "parts_in_brackets" "Reading.parts_in_brackets" s_Reading_parts_in_brackets fb fdb) (mb : Meth K D "parts_in_brackets" fb) (bb : Binds K fdb ["self"] []) : ∀ d, HasPartE D C BS d P w K mg base
  | 0 => ⟨fp, fdp, _, RC.cl, mp, ⟨(fun vs H Q E h => by
      obtain ⟨r, pl, zs, R, n, most, res, rfl, _, _, _, _, h, _⟩ := h
      cases h), (fun A outer s H args us vs Q E _ _ _ _ h => by
      obtain ⟨r, pl, zs, R, n, most, res, rfl, _, _, _, _, h, _⟩ := h
      cases h)⟩, bp⟩
  | d + 1 => by
    have M_Reading_part := parts_allE T RC TC E_BadShape M_Reading_take M_Reading_is_next M_Reading_goes_on M_OperatorTable_right_bound M_OperatorTable_ahead_bound M_OperatorTable_has C_is_unknown C_is_word C_is_kept Fp mp bp Ff mf bf Fl ml bl Fb mb bb d
    have M1 : HasBrE D C BS d P w K mg base := ⟨fb, fdb, _, RC.cl, mb, ok_brE Fb T RC E_BadShape M_Reading_take M_Reading_part, bb⟩
    have M2 : HasPlainE D C BS d P w K mg base := ⟨fl, fdl, _, RC.cl, ml, ok_plainE Fl T RC TC E_BadShape C_is_unknown C_is_word C_is_kept M_OperatorTable_has M_Reading_is_next M1, bl⟩
    have M3 : HasFirstE D C BS d P w K mg base := ⟨ff, fdf, _, RC.cl, mf, ok_firstE Ff T RC TC E_BadShape M_Reading_take M_OperatorTable_ahead_bound M2 M_Reading_part, bf⟩
    exact ⟨fp, fdp, _, RC.cl, mp, ok_partE Fp T RC TC M_Reading_take M_Reading_goes_on M_OperatorTable_right_bound M3 M_Reading_part, bp⟩
theorem ok_wholeE {d : Nat} (F : Fun K "whole" "Reading.whole" s_Reading_whole f fd) (T : Txt mg) (RC : ReC K D) (E_BadShape : HasErr P w K mg base "BadShape" "line" BS) (M_Reading_part : HasPartE D C BS d P w K mg base) : FnOk P w K mg base (L2.CX P w) (4 * d + 5) f fd ["self"] (spWholeE K D C BS d) := by
  refine F.okX sc_Reading_whole (fun vs H Q E h => ?_) (fun cdv A outer s H vs Q E hr h => ?_)
  · obtain ⟨r, pl, zs, R, o, rfl, _⟩ := h
    rfl
  obtain ⟨r, pl, zs, R, o, rfl, rd, hl, tok, ⟨res, hp, ho⟩, bad, q⟩ := h
  obtain ⟨dx0, tb, h1, h2, h3⟩ := id rd
  refine ⟨_, (pss_cons (ps_asg (pe_mtE M_Reading_part hr (by omega) (takes_of rfl rfl rfl rfl) (pv 0) (pa_cons (pe_globI rfl T.c_LEVELS) pa_nil)) (pg_tup (by rfl) (pgs_cons (pg_name (i := 1) sc_Reading_whole.nd rfl (.inl rfl)) (pgs_cons (pg_name (i := 2) sc_Reading_whole.nd rfl (.inl rfl)) pgs_nil))))
    (pss_cons (ps_if (pt_cmpR op_lt (pe_fld (pv 0) rfl) (pe_callB (call_lenK (K := K)) (by rfl) T.z_len (by decide +kernel) (pa_cons (pe_fld (pv 0) rfl) pa_nil)) (nomark _))
      (pss_one (ps_raiseE E_BadShape rfl (takes_of rfl rfl rfl rfl) hr (pa_cons pe_int pa_nil) (hk := by omega)))
      pss_nil)
    (pss_one (ps_ret (pv 1))))), ?_⟩
  walk_at "sx"
  refine x_mt rfl h1 (fr_no pl tb _ (by decide +kernel) (by decide +kernel) (by decide +kernel)) ?_
  walk_at "sx"
  refine ⟨r, pl, zs, R, 0, 9, res, rfl, rd, hl, tok, Nat.zero_le _, hp, fun e => bad ?_, fun p l n1 e t x G hge hle rdG krG st px => ?_⟩
  · rcases ho with ⟨h, _⟩ | ⟨p, l, _, h⟩
    · exact h
    · rw [e] at h
      cases h
  obtain ⟨dx, tb2, g0, g1, g2⟩ := id rdG
  walk_at "sx"
  refine x_fR RC.cl RC.nA rfl g0 (fr_at pl tb2 _) ?_
  walk_at "sx"
  refine x_fR RC.cl RC.nP rfl g0 (fr_pl pl tb2 _) ?_
  walk_at "sx"
  refine x_ite (fun c => ?_) (fun c => ?_)
  · have c' : (n1 : Int) < (((zs.map V.str).length : Nat) : Int) := c
    rw [List.length_map] at c'
    walk_at "sx"
    refine x_mkE (n := 0) (by decide) fun dd hd => ((bad ?_).kr krG).done hd
    rcases ho with ⟨h, _⟩ | ⟨p', l', _, h⟩
    · exact h
    · rw [e] at h
      cases h
      omega
  · have c' : ¬ (n1 : Int) < (((zs.map V.str).length : Nat) : Int) := c
    rw [List.length_map] at c'
    have en : n1 = zs.length := by omega
    subst en
    walk_at "sx"
    refine q p ?_ x G krG px
    rcases ho with ⟨_, h⟩ | ⟨p', l', h, h2⟩
    · exact absurd e (h p l)
    · rw [e] at h2
      cases h2
      exact h
theorem ok_rd_init (F : Fun K "__init__" "Reading.__init__" s_Reading_init f fd) (RC : ReC K D) (hne : C ≠ D) : FnOk P w K mg base CX0 1 f fd ["self", "pieces", "table"] (spRdInit K D C) := by
  refine F.ok sc_Reading_init (fun vs H Q E h => ?_) (fun cdv A outer s H vs Q E hr h => ?_)
  · obtain ⟨r, pl, tb, dx, zs, R, rfl, _⟩ := h
    rfl
  obtain ⟨r, pl, tb, dx, zs, R, rfl, h1, h2, h3, q⟩ := h
  refine ⟨_, (pss_cons (ps_fld (pv 0) (pv 1) rfl)
    (pss_cons (ps_fld (pv 0) (pv 2) rfl)
    (pss_one (ps_fld (pv 0) pe_int rfl)))), ?_⟩
  walk_at "sx"
  refine ⟨.ref pl, rfl, .ref r, rfl, r, D, dx, [], rfl, h1, RC.cl, RC.nP, (by show 0 < 1000; decide), ?_⟩
  refine ⟨.ref tb, rfl, .ref r, rfl, r, D, dx, _, rfl, upd_same, RC.cl, RC.nT, (by show 1 < 1000; decide), ?_⟩
  refine ⟨.ref r, rfl, r, D, dx, _, rfl, upd_same, RC.cl, RC.nA, (by rw [putF_nil, putF_ne nat3]; show 2 < 1000; decide), ?_⟩
  have e : upd (upd (upd H r (.ins D dx (L2.putF "pieces" (.ref pl) []))) r (.ins D dx (L2.putF "table" (.ref tb) (L2.putF "pieces" (.ref pl) [])))) r (.ins D dx (L2.putF "at" (.int 0) (L2.putF "table" (.ref tb) (L2.putF "pieces" (.ref pl) [])))) = upd H r (.ins D dx (fldsR pl tb 0)) := by
    rw [upd_upd, upd_upd]
    rfl
  have kr : Kr r H (upd H r (.ins D dx (fldsR pl tb 0))) := fun c o e hc => by rw [upd_ne hc]; exact e
  have npl : pl ≠ r := ne_of h2 h1 (by intro z; cases z)
  have tb2 : TabAt K C (upd H r (.ins D dx (fldsR pl tb 0))) tb R := by
    obtain ⟨dx2, b, h, kb, ka, g1, g2, g3, g4⟩ := h3
    have n1 : tb ≠ r := fun z => by
      rw [z, h1] at g1
      have := HO.ins.inj (Option.some.inj g1)
      exact hne this.1.symm
    exact ⟨dx2, b, h, kb, ka, kr _ _ g1 n1, kr _ _ g2 (ne_of g2 h1 (by intro z; cases z)), kr _ _ g3 (ne_of g3 h1 (by intro z; cases z)), g4.mono fun _ _ z => kr.sqT h1 z⟩
  have qq : Q .non (upd H r (.ins D dx (fldsR pl tb 0))) := q _ ⟨dx, tb, upd_same, kr _ _ h2 npl, tb2⟩ kr
  rw [← e] at qq
  exact qq
theorem ok_read_piecesE {d : Nat} (F : Fun K "read_pieces" "read_pieces" s_read_pieces f fd) (M_Reading_whole : HasWholeE D C BS d P w K mg base) (MK_Reading : HasRdInit D C P w K mg base) : FnOk P w K mg base (L2.CX P w) (4 * d + 6) f fd ["pieces", "table"] (spReadPE K C BS d) := by
  refine F.okX sc_read_pieces (fun vs H Q E h => ?_) (fun cdv A outer s H vs Q E hr h => ?_)
  · obtain ⟨pl, tb, zs, R, o, rfl, _⟩ := h
    rfl
  obtain ⟨pl, tb, zs, R, o, rfl, h1, h2, hl, tok, hp, bad, q⟩ := h
  refine ⟨_, (pss_one (ps_ret (pe_mt0E M_Reading_whole hr (by omega) (takes_of rfl rfl rfl rfl) (C8.pe_mk MK_Reading hr (by omega) rfl (pa_cons (pv 0) (pa_cons (pv 1) pa_nil)))))), ?_⟩
  refine x_mtMk ?_
  walk_at "sx"
  intro r dx nr ndx nex
  have s1 : Same H (upd (upd H dx (.own r)) r (.ins D dx [])) := fun c o e => by
    rw [upd_ne (ne_of_none e nr), upd_ne (ne_of_none e ndx)]
    exact e
  refine ⟨r, pl, tb, dx, zs, R, rfl, upd_same, s1 _ _ h1, h2.same s1, fun H' rd kr => ⟨rfl, ?_⟩⟩
  obtain ⟨dx', tb', g0, g1, g2⟩ := id rd
  have s2 : Same H H' := fun c o e => kr c o (s1 c o e) (ne_of_none e nr)
  refine ⟨r, dx', _, rfl, g0, fr_no pl tb' _ (by decide +kernel) (by decide +kernel) (by decide +kernel), ?_⟩
  walk_at "sx"
  refine ⟨r, pl, zs, R, o, rfl, rd, hl, tok, hp, fun e dd G kG hd => bad e dd G (fun c o e => kG c o (s2 c o e) (ne_of_none e nr)) hd, fun p e x G krG px => q p e x G (fun c o e => krG c o (s2 c o e) (ne_of_none e nr)) px⟩
theorem ok_is_great (F : Fun K "is_great" "is_great" s_is_great f fd) (T : Txt mg) (C_size_of : HasSize P w K mg base) (C_depth_of : HasDepthOf P w K mg base) : FnOk P w K mg base CX0 2 f fd ["pattern"] (spGreat K) := by
  refine F.ok sc_is_great (fun vs H Q E h => ?_) (fun cdv A outer s H vs Q E hr h => ?_)
  · obtain ⟨v, k, p, rfl, _⟩ := h
    rfl
  obtain ⟨v, k, p, rfl, hp, h1, q⟩ := h
  refine ⟨_, (pss_one (ps_ret (pe_or (pe_cmpR op_gt (pe_callH C_size_of hr (pa_cons (pv 0) pa_nil) (hk := by omega)) (pe_globI rfl T.c_SIZE) (nomark _)) (pe_one (pe_cmpR op_gt (pe_callH C_depth_of hr (pa_cons (pv 0) pa_nil) (hk := by omega)) (pe_globI rfl T.c_DEEP) (nomark _)))))), ?_⟩
  walk_at "sx"
  refine ⟨v, k, p, rfl, hp, by omega, fun G s1 => ?_⟩
  walk_at "sx"
  refine x_ite (fun c => ?_) (fun c => ?_)
  · have c' : (60 : Int) < (szT p : Int) := c
    walk_at "sx"
    rw [decide_eq_true (show 60 < szT p ∨ 12 < dpT p from .inl (by omega))] at q
    exact q _ s1
  have c' : ¬ (60 : Int) < (szT p : Int) := c
  walk_at "sx"
  refine ⟨v, k, p, rfl, hp.same s1, by omega, fun G2 s2 => ?_⟩
  walk_at "sx"
  have e : decide ((12 : Int) < (dpT p : Int)) = decide (60 < szT p ∨ 12 < dpT p) := by
    rw [decide_eq_decide]
    omega
  rw [e]
  exact q _ (s1.trans s2)
theorem ok_measE (F : Fun K "_measure" "_measure" s_measure f fd) (C_is_great : HasGreat P w K mg base) (E_BadSize : HasErr P w K mg base "BadSize" "line" BZ) : FnOk P w K mg base (L2.CX P w) 4 f fd ["reading"] (spMeasE K BZ) := by
  refine F.okX sc_measure (fun vs H Q E h => ?_) (fun cdv A outer s H vs Q E hr h => ?_)
  · obtain ⟨v, k, p, rfl, _⟩ := h
    rfl
  obtain ⟨v, k, p, rfl, hp, h1, bad, q⟩ := h
  refine ⟨_, (pss_one (ps_if (pt_val (pe_callH C_is_great hr (pa_cons (pv 0) pa_nil) (hk := by omega)))
      (pss_one (ps_raiseE E_BadSize rfl (takes_of rfl rfl rfl rfl) hr (pa_cons pe_int pa_nil) (hk := by omega)))
      pss_nil)), ?_⟩
  walk_at "sx"
  refine ⟨v, k, p, rfl, hp, h1, fun G s1 => ?_⟩
  walk_at "sx"
  refine x_ite (fun c => ?_) (fun c => ?_)
  · walk_at "sx"
    exact x_mkE (n := 0) (by decide) fun dd hd => ((bad c).same s1).done hd
  · walk_at "sx"
    exact q (by omega) _ s1
theorem ok_table_of (F : Fun K "_table_of" "_table_of" s_table_of f fd) (T : Txt mg) (C_own : HasOwn P w K mg base) (MK_OperatorTable : HasTab C P w K mg base) : FnOk P w K mg base CX0 3 f fd ["operators"] (spTable K C) := by
  refine F.ok sc_table_of (fun vs H Q E h => ?_) (fun cdv A outer s H vs Q E hr h => ?_)
  · obtain ⟨b, es, ops, rfl, _⟩ := h
    rfl
  obtain ⟨b, es, ops, rfl, hb, hro, oko, q⟩ := h
  refine ⟨_, (pss_one (ps_ret (C8.pe_mk MK_OperatorTable hr (by omega) rfl (pa_cons (pe_op op_cat (pe_callH0 C_own hr (hk := by omega)) (pv 0)) pa_nil)))), ?_⟩
  walk_at "sx"
  refine ⟨rfl, fun o ws G no ho sG rw1 => ?_⟩
  have b1 := sG _ _ hb
  have r1 := hro.same sG
  have hws : ws.length = 16 := rw1.1
  have hes : es.length = ops.length := hro.1
  have l7 := oko.len
  walk_at "sx"
  refine x_cat ho b1 (sz (by omega)) fun u2 nu => ?_
  walk_at "sx"
  intro t dx nt ndx nex
  have s1 : Same G (upd G u2 (.lst (ws ++ es))) := same_upd nu
  have s2 : Same (upd G u2 (.lst (ws ++ es))) (upd (upd (upd G u2 (.lst (ws ++ es))) dx (.own t)) t (.ins C dx [])) := fun c o e => by
    rw [upd_ne (ne_of_none e nt), upd_ne (ne_of_none e ndx)]
    exact e
  refine ⟨t, u2, dx, ws ++ es, ownL ++ ops, rfl, upd_same, s2 _ _ upd_same, ((rw1.append r1).same s1).same s2, by rw [List.length_append]; show 16 + ops.length ≤ 100; omega, oko.nd, fun H' tb kp => ⟨rfl, ?_⟩⟩
  have s3 : Same (upd G u2 (.lst (ws ++ es))) H' := fun c o e => kp c o (s2 c o e) (ne_of_none e nt)
  exact q t H' ((sG.trans s1).trans s3) tb
theorem ok_is_pattern (F : Fun K "is_pattern" "is_pattern" s_is_pattern f fd) (T : Txt mg) (C_is_kept : HasIsKept P w K mg base) : FnOk P w K mg base CX0 2 f fd ["reading"] (spIsPat K) := by
  refine F.ok sc_is_pattern (fun vs H Q E h => ?_) (fun cdv A outer s H vs Q E hr h => ?_)
  · obtain ⟨v, k, p, rfl, _⟩ := h
    rfl
  obtain ⟨v, k, p, rfl, hp, hs, q⟩ := h
  refine ⟨_, (pss_cons (ps_set (i := 1) sc_is_pattern.nd rfl (Or.inl rfl) (pe_lst (pa_cons (pv 0) pa_nil)))
    (pss_cons (ps_while PassesOwn.never (pt_truthK (K := K) (pv 1) (by intro _; rfl))
      (pss_cons (ps_set (i := 2) sc_is_pattern.nd rfl (Or.inl rfl) (pe_bm0 PySem.F.plainAttrs_list PySem.F.slot_list_pop PySem.F.type_list_pop mt_pop (pv 1)))
    (pss_one (ps_if (pt_val (pe_callB (call_isiKK (K := K)) (by rfl) T.z_isinstance (by decide +kernel) (pa_cons (pv 2) (pa_cons (pe_bltn (v := .ty "tuple") (by rfl) T.z_tuple (by decide +kernel) rfl) pa_nil))))
      (pss_cons (ps_if (pt_val (pe_callH C_is_kept hr (pa_cons (pe_ix (ix_tupK (K := K)) (pv 2) pe_int (fun _ _ => rfl)) pa_nil)))
      (pss_one (ps_ret pe_bl))
      pss_nil)
    (pss_one (ps_expr (pe_bm PySem.F.plainAttrs_list PySem.F.slot_list_extend PySem.F.type_list_extend mt_extX (pv 1) (pa_cons (pe_slice (sl_tupX (K := K)) (pv 2) (po_some pe_int) po_none) pa_nil)))))
      pss_nil))))
    (pss_one (ps_ret pe_bl)))), ?_⟩
  walk_at "sx"
  rename_i w1 nw
  refine x_while (fun m σ' G => ∃ (vs : List V) (ps : List Pt) (x : Option V), σ' = [some v, some (.ref w1), x] ∧ G w1 = some (.lst vs) ∧ PtsAt K G k vs ps ∧ hasKL ps = hasK p ∧ szL ps ≤ szT p ∧ m = szL ps ∧ Same H G) (szL [p]) ?_ ?_
  · exact ⟨[v], [p], none, rfl, upd_same, .one (hp.same (same_upd nw)), by simp [hasKL], by simp [szL], rfl, same_upd nw⟩
  · rintro m σ' G ⟨vs, ps, x, rfl, hw, hps, hokp, hm, rfl, sG⟩
    have ll := hps.1
    have l2 := szL_len ps
    walk_at "sx"
    refine ⟨!vs.isEmpty, .inl ⟨vs, .of hw, rfl⟩, x_iteB (fun c => ?_) (fun c => ?_)⟩
    · have hn : 0 < vs.length := by
        cases vs with
        | nil => cases c
        | cons a r => exact Nat.succ_pos _
      have hy : vs[vs.length - 1]? = some (vs[vs.length - 1]'(by omega)) := List.getElem?_eq_getElem _
      obtain ⟨u, hu, pu⟩ := hps.at hy
      rw [ll] at hu
      have hs1 := last_szL hu
      have hs2 := szT_pos u
      rw [hasKL_last hu] at hokp
      refine ⟨fun σ' G => ∃ (vs' : List V) (ps' : List Pt) (x : Option V), σ' = [some v, some (.ref w1), x] ∧ G w1 = some (.lst vs') ∧ PtsAt K G k vs' ps' ∧ hasKL ps' = hasK p ∧ szL ps' < szL ps ∧ Same H G, ?_, ?_⟩
      · rintro σ' G' ⟨vs', ps', x', e1, e2, e3, e4, e5, e6⟩
        exact ⟨_, e5, vs', ps', x', e1, e2, e3, e4, by omega, rfl, e6⟩
      walk_at "sx"
      refine ⟨w1, vs, _, rfl, rfl, hw, hy, ?_⟩
      walk_at "sx"
      have hw2 : upd G w1 (.lst vs.dropLast) w1 = some (.lst vs.dropLast) := upd_same
      have pu2 := pu.lst (o := .lst vs.dropLast) hw
      have hps2 := hps.dropLast.lst (o := .lst vs.dropLast) hw
      have sG2 : Same H (upd G w1 (.lst vs.dropLast)) := same_updf sG nw
      generalize upd G w1 (.lst vs.dropLast) = G2 at *
      generalize vs[vs.length - 1]'(by omega) = y at *
      rcases pu2.three with ⟨n, rfl, rfl⟩ | ⟨z, rfl, rfl⟩ | ⟨j, nm, qs, a, us, rfl, rfl, rfl, sa, pq⟩
      · rw [hasK, Bool.or_false] at hokp
        refine x_isT (t := .type "int") (c := false) (.base (.int n)) (kit_ty (by decide +kernel)) ?_
        walk_at "sx"
        exact ⟨_, _, _, rfl, hw2, hps2, hokp, by omega, sG2⟩
      · rw [hasK, Bool.or_false] at hokp
        refine x_isT (t := .type "str") (c := false) (.base (.str z)) (kit_ty (by decide +kernel)) ?_
        walk_at "sx"
        exact ⟨_, _, _, rfl, hw2, hps2, hokp, by omega, sG2⟩
      · refine x_isT (t := .type "tuple") (c := true) (ty_tup sa) (kit_ty (by decide +kernel)) ?_
        walk_at "sx"
        refine ⟨nm, rfl, ?_⟩
        rw [hasK] at hokp
        by_cases ck : nm ∈ keptL
        · rw [decide_eq_true ck]
          rw [decide_eq_true ck, Bool.true_or, Bool.or_true] at hokp
          walk_at "sx"
          rw [← hokp] at q
          exact q _ sG2
        rw [decide_eq_false ck]
        rw [decide_eq_false ck, Bool.false_or] at hokp
        walk_at "sx"
        rw [szT] at hs1
        have lq := szL_len qs
        have lu := pq.1
        have ld := hps2.1
        have ld2 := szL_len ps.dropLast
        refine ⟨a, _, rfl, sa, cut_tail_ne _ _, fun b nb => ?_⟩
        rw [cut_tail]
        walk_at "sx"
        refine ⟨w1, b, vs.dropLast, us, rfl, rfl, by walk_at "hx", upd_same, sz (by omega), ?_⟩
        walk_at "sx"
        have kb : Same G2 (upd G2 b (txO b us)) := same_upd nb
        refine ⟨vs.dropLast ++ us, ps.dropLast ++ qs, _, rfl, upd_same, ?_, by rw [hasKL_append]; exact hokp, by rw [szL_append]; omega, same_updf (sG2.trans kb) nw⟩
        exact ((hps2.same kb).append ((pq.up (Nat.le_succ _)).same kb)).lst (ys := vs.dropLast) (by walk_at "hx")
    · have e0 : ps = [] := by
        cases vs with
        | nil => exact List.eq_nil_of_length_eq_zero (by rw [← ll]; rfl)
        | cons a r => cases c
      subst e0
      walk_at "sx"
      have hk : hasK p = false := by rw [← hokp]; rfl
      rw [hk] at q
      exact q _ sG
end
end Gs
namespace Gs
open PySem PySem.Spec PyProof.Rows L2
section
variable {CX : Cx} {X : Cx} {k n : Nat} {f : Addr} {fd : FuncData} {ps ks : List Str} {sp : Sp} {E : L2.St → XK} {g : List Value → List Value → List Value} {gV : List V → List V → List V} {x : Str} {p pos : Pos} {e : PySem.Expr} {es : List PySem.Expr} {t tk : TA} {kws : List Keyword}
/-- a call with keywords of a def that may raise -/
def tCallNS (n m : Nat) (sp : Sp) (g : List V → List V → List V) (E : L2.St → XK) (t tk : TA) : TE := fun σ H Q => t σ H fun vs H1 => tk σ H1 fun zs H2 => vs.length = n ∧ zs.length = m ∧ sp (g vs zs) H2 Q (E σ)
theorem run_fnNS {pins : List (Addr × Obj)} {σ : L2.St} {H : Hp} {s : Shared} {Q : VK} {us ws : List Value} {vs zs : List V} (F : FnOk X.prog X.w X.K X.mg X.base (L2.CX X.prog X.w) k f fd ps sp) (hr : Room k X.A) (hb : KBn X.K fd ps n ks g gV) (hx : PassesAt (L2.CX X.prog X.w) X σ (E σ))
    (I : Inv X pins σ H s) (r : Vals vs us) (rz : Vals zs ws) (l1 : vs.length = n) (l2 : zs.length = ks.length) (h : sp (gV vs zs) H Q (E σ)) : wpAny (model X.prog X.w) X.A (call (.ref f) us (ks.zip ws)) (EP X pins σ Q) X.xe s := by
  have r2 := hb.rel r rz
  refine wpAny_call (codeAny_mono (F.run X.A X.stack s H ⟨us, ks.zip ws⟩ (g us ws) (gV vs zs) Q (E σ) hr I.env0 (hb.to s us ws I.kIn (r.length.symm.trans l1) (rz.length.symm.trans l2)) r2 h) fun r s' hq => ?_)
  cases r with
  | error e => exact hx pins H s e s' I hq
  | ok fl =>
    cases fl with
    | ret u => exact I.after hq
    | next => exact False.elim hq
    | brk => exact False.elim hq
    | cont => exact False.elim hq
theorem pe_callNS (F : FnOk X.prog X.w X.K X.mg X.base (L2.CX X.prog X.w) k f fd ps sp) (hr : Room k X.A) (hg : Gl X x) (hm : X.mg x = some (.ref f)) (hk : PySem.W.keepIn X.K (.ref f) = true) (hb : KBn X.K fd ps n ks g gV) (hx : ∀ σ, PassesAt (L2.CX X.prog X.w) X σ (E σ))
    (ha : PA X (e :: es) t) (hkw : L2.PK X kws tk) (hall : (backToKw pos (keywordEach kws X.env)).all (·.1.isSome) = true := by rfl) (hks : (backToKw pos (keywordEach kws X.env)).filterMap (·.1) = ks := by rfl)
    (hdb : (x == ("__debug__" : Str)) = false := by decide) (he : starEach (e :: es) X.env = (false, eval e X.env) :: starEach es X.env := by rfl)
    (hpl : ((backTo pos (starEach (e :: es) X.env)).any (·.1) || (backToKw pos (keywordEach kws X.env)).any (·.1.isNone)) = false := by rfl) :
    PE X (.Call (.Name x p) (e :: es) kws pos) (tCallNS n ks.length sp gV E t tk) := by
  refine ⟨fun pins s σ H Q I h => ?_⟩
  refine wpAny_Call_Name_kw (ld_glob I hg hm ?_ hdb)
  refine PySem.W.callWith_KW (h₀ := X.base) I.ok.mod.kin hk hall (thn (ha.run pos pins s σ H _ I h) fun us s1 ⟨vs, H1, I1, r, q⟩ => ?_) hpl he
  refine thn (hkw.run pos pins s1 σ H1 _ I1 q) fun ws s2 ⟨zs, H2, I2, rz, l1, l2, q2⟩ => ⟨I2.kIn, ?_⟩
  rw [hks]
  exact run_fnNS F hr hb (hx σ) I2 r rz l1 l2 q2
theorem pe_callHKE {j : Nat} {dvs : List V} {W : WX} (C : HasKE X.prog X.w X.K X.mg X.base k x ps n ks dvs sp) (hr : Room j X.A) (tak : Takes X W) (ha : PA X (e :: es) t) (hkw : L2.PK X kws tk) (hk : k ≤ j := by decide) (hg : Gl X x := by rfl)
    (hall : (backToKw pos (keywordEach kws X.env)).all (·.1.isSome) = true := by rfl) (hks : (backToKw pos (keywordEach kws X.env)).filterMap (·.1) = ks := by rfl)
    (hdb : (x == ("__debug__" : Str)) = false := by decide) (he : starEach (e :: es) X.env = (false, eval e X.env) :: starEach es X.env := by rfl)
    (hpl : ((backTo pos (starEach (e :: es) X.env)).any (·.1) || (backToKw pos (keywordEach kws X.env)).any (·.1.isNone)) = false := by rfl) :
    PE X (.Call (.Name x p) (e :: es) kws pos) (tCallNS n ks.length sp (fun vs zs => vs ++ zs) (WE W) t tk) := by
  obtain ⟨f, fd, F, _, b, kp, m⟩ := C.ex
  exact pe_callNS F (hr.mono hk) hg m kp b (fun σ => passAt tak σ) ha hkw hall hks hdb he hpl
theorem x_callNS {σ : L2.St} {H : Hp} {Q : VK} {m : Nat} {sp : Sp} {g : List V → List V → List V} {E : L2.St → XK} {t tk : TA} (q : t σ H fun vs H1 => tk σ H1 fun zs H2 => vs.length = n ∧ zs.length = m ∧ sp (g vs zs) H2 Q (E σ)) : tCallNS n m sp g E t tk σ H Q := q
end
end Gs
namespace Gs
open PySem PySem.Spec PyProof.Rows L2 TL
/-- the promise of pieces_of: lines of too many pieces or brackets are refused -/
def spPiecesE (K : PySem.W.Frag) (BZ : Addr) : Sp := fun vs H Q E => ∃ (line : Str) (most : Int) (zs : List Str), vs = [.str line, .int most] ∧ line.length ≤ 100000 ∧ Cut (tl line) (zs.map tl) ∧ (∀ z ∈ zs, isPc (tl z) = true) ∧ ((zs.length : Int) > most ∨ mostOpen zs > 12 → BadS BZ H E) ∧
  ((zs.length : Int) ≤ most → mostOpen zs ≤ 12 → ∀ (p : Addr) (H' : Hp), H p = none → Same H H' → H' p = some (.lst (zs.map V.str)) → Q (.ref p) H')
section
variable {P : Program} {w : World} {K : PySem.W.Frag} {mg : Str → Option Value} {base : Heap} {f BZ : Addr} {fd : FuncData}
def HasPiecesE (BZ : Addr) (P : Program) (w : World) (K : PySem.W.Frag) (mg : Str → Option Value) (base : Heap) : Prop := HasKE P w K mg base 3 "pieces_of" ["line", "most"] 1 ["most"] [.int 200] (spPiecesE K BZ)
theorem ok_pieces_ofE {kws : List (Str × V)} (F : FunD K "pieces_of" "pieces_of" (defArgs s_pieces_of) (defBody s_pieces_of) (defScope s_pieces_of) [] kws f fd) (T : Txt mg) (C_run : HasRun P w K mg base) (C_end_of_piece : HasEnd P w K mg base)
    (C_is_piece : HasIsPiece P w K mg base) (C_most_open : HasMostOpen P w K mg base) (E_BadSize : HasErr P w K mg base "BadSize" "line" BZ) : FnOk P w K mg base (L2.CX P w) 3 f fd ["line", "most"] (spPiecesE K BZ) := by
  refine F.ok sc_pieces_of (fun vs H Q E h => ?_) (fun cdv A outer s H vs Q E hr h => ?_)
  · obtain ⟨line, most, zs, rfl, _⟩ := h
    rfl
  obtain ⟨line, most, zs, rfl, hl, hcut, hpc, bad, q⟩ := h
  refine ⟨_, (pss_cons (ps_set (i := 2) sc_pieces_of.nd rfl (Or.inl rfl) (pe_lst pa_nil))
    (pss_cons (ps_set (i := 3) sc_pieces_of.nd rfl (Or.inl rfl) (pe_callH C_run hr (pa_cons (pv 0) (pa_cons pe_int (pa_cons pe_str pa_nil)))))
    (pss_cons (ps_while (passes_of rfl) (pt_cmpR op_lt (pv 3) (pe_callB call_len_str (by rfl) T.z_len (by decide +kernel) (pa_cons (pv 0) pa_nil)) (nomark _))
      (pss_cons (ps_set (i := 4) sc_pieces_of.nd rfl (Or.inl rfl) (pe_callH C_end_of_piece hr (pa_cons (pv 0) (pa_cons (pv 3) pa_nil))))
    (pss_cons (ps_if (pt_not (pt_val (pe_callH C_is_piece hr (pa_cons (pe_slice sl_str (pv 0) (po_some (pv 3)) (po_some (pv 4))) pa_nil))))
      (pss_one ps_never)
      pss_nil)
    (pss_cons (ps_expr (pe_bm PySem.F.plainAttrs_list PySem.F.slot_list_append PySem.F.type_list_append mt_append (pv 2) (pa_cons (pe_slice sl_str (pv 0) (po_some (pv 3)) (po_some (pv 4))) pa_nil)))
    (pss_one (ps_set (i := 3) sc_pieces_of.nd rfl (Or.inl rfl) (pe_callH C_run hr (pa_cons (pv 0) (pa_cons (pv 4) (pa_cons pe_str pa_nil))))))))))
    (pss_cons (ps_if (PW.pt (pw_or (pt_cmpR op_gt (pe_callB (call_lenK (K := K)) (by rfl) T.z_len (by decide +kernel) (pa_cons (pv 2) pa_nil)) (pv 1) (nomark _)) (pw_or1 (pt_cmpR op_gt (pe_callH C_most_open hr (pa_cons (pv 2) pa_nil)) (pe_globI rfl T.c_BRACKETS) (nomark _)))))
      (pss_one (ps_raiseE E_BadSize rfl (takes_of rfl rfl rfl rfl) hr (pa_cons pe_int pa_nil)))
      pss_nil)
    (pss_one (ps_ret (pv 2))))))), ?_⟩
  walk_at "sx"
  rename_i a na
  have sa := same_upd (o := .lst []) na
  have e32 : tl (" " : Str) = [32] := by decide +kernel
  have hk0 : runL [32] (tl line) 0 ≤ line.length := by
    have := runL_le [32] (tl line) 0 (Nat.zero_le _)
    rw [tl_len] at this
    omega
  refine ⟨line, _, 0, rfl, Nat.zero_le _, hl, ?_⟩
  rw [e32]
  walk_at "sx"
  refine x_while (fun m σ' H' => ∃ (k : Nat) (done todo : List Str) (y : Option V), σ' = [some (.str line), some (.int most), some (.ref a), some (.int (k : Int)), y] ∧ Same H H' ∧ H' a = some (.lst (done.map V.str)) ∧ zs = done ++ todo ∧ Cut ((tl line).drop k) (todo.map tl) ∧
    (∀ r, (tl line).drop k ≠ 32 :: r) ∧ k ≤ line.length ∧ m = line.length - k) _ ⟨_, [], zs, none, rfl, sa, upd_same, rfl, ?_, ?_, ?_, rfl⟩ ?_
  · exact (run_blanks (k := 0) hcut).1
  · exact (run_blanks (k := 0) hcut).2
  · rw [Nat.zero_add]
    exact hk0
  rintro m σ' H' ⟨k, done, todo, y, rfl, sH, eH, ez, hc, hb, hk, rfl⟩
  walk_at "sx"
  refine x_lenS (sz hl) ?_
  walk_at "sx"
  refine x_ite (fun c => ?_) (fun c => ?_)
  · have hkl : k < (tl line).length := by rw [tl_len]; omega
    obtain ⟨cd, hcd⟩ : ∃ cd, (tl line)[k]? = some cd := ⟨_, List.getElem?_eq_getElem hkl⟩
    have ed : (tl line).drop k = cd :: (tl line).drop (k + 1) := by
      obtain ⟨h1, h2⟩ := List.getElem?_eq_some_iff.mp hcd
      rw [List.drop_eq_getElem_cons h1, h2]
    rw [ed] at hc hb
    have hc32 : cd ≠ 32 := fun z => hb _ (by rw [z])
    obtain ⟨t, l, z, todo', el, et, eo, ht, hs, hcut'⟩ : ∃ t l z todo', (tl line).drop (k + 1) = t ++ l ∧ tl z = cd :: t ∧ todo = z :: todo' ∧ (∀ x ∈ t, x ∈ cls cd) ∧ Stop cd l ∧ Cut l (todo'.map tl) := by
      generalize hL : cd :: (tl line).drop (k + 1) = L0 at hc
      generalize hT : todo.map tl = T0 at hc
      cases hc with
      | nil => cases hL
      | blank h => exact absurd (List.cons.inj hL).1 hc32
      | @piece c' t l ts h1 h2 h3 h4 =>
        obtain ⟨e1, e2⟩ := List.cons.inj hL
        subst e1
        cases todo with
        | nil => cases hT
        | cons z todo' =>
          obtain ⟨e3, e4⟩ := List.cons.inj hT
          subst e4
          exact ⟨t, l, z, todo', e2, e3, rfl, h2, h3, h4⟩
    subst eo
    have er : runL (cls cd) (tl line) (k + 1) = t.length := by
      unfold runL
      rw [el, run_stop ht (stop_of hs)]
    have elen : (tl line).length = k + 1 + t.length + l.length := by
      have := congrArg List.length el
      rw [List.length_drop, List.length_append] at this
      omega
    have edl : (tl line).drop (k + 1 + t.length) = l := by
      rw [← List.drop_drop, el, List.drop_left]
    rw [tl_len] at elen
    have hkz : isPc (tl z) = true := hpc z (by rw [ez]; simp)
    have ecut : cutS line (some (k : Int)) (some ((k + 1 + t.length : Nat) : Int)) = z := by
      refine ext_tl ?_
      rw [cut_mid (by omega) (by omega), et, ed, el, show k + 1 + t.length - k = t.length + 1 by omega, List.take_succ_cons, List.take_left]
    have zl : z.length = t.length + 1 := by rw [← tl_len, et, List.length_cons]
    refine ⟨fun σ2 H2 => ∃ (k2 : Nat) (y : Option V), σ2 = [some (.str line), some (.int most), some (.ref a), some (.int (k2 : Int)), y] ∧ Same H H2 ∧ H2 a = some (.lst ((done ++ [z]).map V.str)) ∧ k2 = k + 1 + t.length + runL [32] (tl line) (k + 1 + t.length), fun σ2 H2 h => ?_, ?_⟩
    · obtain ⟨k2, y2, rfl, s2, e2, rfl⟩ := h
      have rb := run_blanks (L := tl line) (k := k + 1 + t.length) (ts := todo'.map tl) (by rw [edl]; exact hcut')
      have rle := runL_le [32] (tl line) (k + 1 + t.length) (by rw [tl_len]; omega)
      rw [tl_len] at rle
      exact ⟨_, by omega, _, done ++ [z], todo', y2, rfl, s2, e2, by rw [ez, List.append_assoc]; rfl, rb.1, rb.2, rle, rfl⟩
    · walk_at "sx"
      refine ⟨line, k, cd, rfl, hl, hcd, ?_⟩
      rw [er]
      walk_at "sx"
      refine x_slS (sz hl) ?_
      rw [ecut]
      walk_at "sx"
      refine ⟨z, rfl, by omega, by omega, ?_⟩
      rw [hkz]
      walk_at "sx"
      refine x_slS (sz hl) ?_
      rw [ecut]
      walk_at "sx"
      have hdl : done.length < 100000 := by
        have h1 := hcut.len
        rw [ez, List.length_map, List.length_append, List.length_cons, tl_len] at h1
        omega
      refine x_app eH (szl (by rw [List.length_map]; exact hdl)) ?_
      walk_at "sx"
      refine ⟨line, _, k + 1 + t.length, rfl, by omega, hl, ?_⟩
      rw [e32]
      walk_at "sx"
      refine ⟨_, _, rfl, fun b o hb2 => ?_, ?_, rfl⟩
      · rw [upd_ne (ne_of_none hb2 na)]
        exact sH b o hb2
      · rw [upd_same, List.map_append]
        rfl
  · have ek : (tl line).drop k = [] := List.drop_eq_nil_of_le (by rw [tl_len]; omega)
    rw [ek] at hc
    have et : todo = [] := by
      generalize hT : todo.map tl = T0 at hc
      cases hc
      cases todo with
      | nil => rfl
      | cons z r => cases hT
    subst et
    rw [List.append_nil] at ez
    subst ez
    walk_at "sx"
    rw [List.length_map]
    refine x_ite (fun cm => ?_) (fun cm => ?_)
    · walk_at "sx"
      exact x_mkE (n := 0) (by decide) fun dd hd => ((bad (.inl cm)).same sH).done hd
    have cm' : ¬ most < (zs.length : Int) := cm
    walk_at "sx"
    refine ⟨a, zs, rfl, .of eH, ?_⟩
    walk_at "sx"
    refine x_ite (fun c12 => ?_) (fun c12 => ?_)
    · walk_at "sx"
      exact x_mkE (n := 0) (by decide) fun dd hd => ((bad (.inr c12)).same sH).done hd
    have c12' : ¬ (12 : Int) < _ := c12
    walk_at "sx"
    exact q (by omega) (by omega) a H' na sH eH
end
end Gs
namespace Gs
open PySem PySem.Spec PyProof.Rows L2 TL
/-! ### a spelling is read to what it spells -/
theorem dropc {zs : List Str} {n : Nat} {z : Str} {r : List Str} (h : zs.drop n = z :: r) : zs[n]? = some z ∧ zs.drop (n + 1) = r := by
  have e : (zs.drop n)[0]? = some z := by rw [h]; rfl
  rw [List.getElem?_drop] at e
  refine ⟨by simpa using e, ?_⟩
  have : zs.drop (n + 1) = (zs.drop n).drop 1 := by rw [List.drop_drop]
  rw [this, h]
  rfl
theorem dropa {zs : List Str} {n : Nat} {a r : List Str} (h : zs.drop n = a ++ r) : zs.drop (n + a.length) = r := by
  rw [← List.drop_drop, h, List.drop_left]
theorem TabOk.no2 {R : List Op} (t : TabOk R) : ∀ nm o, rowOf R nm 2 = some o → nm ≠ ("(" : Str) := fun nm o h z => by
  rw [z, (t.br _ (by simp)).2] at h
  cases h
theorem fo_sign {R : List Op} (t : TabOk R) {z : Str} (hz : z = (")" : Str) ∨ z = ("," : Str)) (m : Int) (r : List Str) : Fo R m (z :: r) := by
  refine ⟨fun e => ?_, fun nm o e ho => ?_⟩
  · have e' : z = ("(" : Str) := Option.some.inj e
    rcases hz with h | h
    · rw [h] at e'
      exact absurd e' (by decide +kernel)
    · rw [h] at e'
      exact absurd e' (by decide +kernel)
  · have e' : z = nm := Option.some.inj e
    rw [← e'] at ho
    rcases hz with h | h
    · rw [h, (t.br _ (by simp)).2] at ho
      cases ho
    · rw [h, (t.br _ (by simp)).2] at ho
      cases ho
theorem num_ne_br {R : List Op} {m : Int} {z : Str} (h : Num R m z) : z ≠ ("(" : Str) := by
  obtain ⟨e, _, _⟩ := h
  rw [figT] at e
  by_cases hm : m < 0
  · rw [if_pos hm] at e
    exact ne_br e (by decide)
  · rw [if_neg hm] at e
    cases en : numL m.toNat with
    | nil => exact absurd en (numL_ne _)
    | cons c t =>
      have := sD_iff.mp (numL_D m.toNat c (by rw [en]; exact List.mem_cons_self ..))
      exact ne_br (by rw [e, en]) (by omega)
theorem unk_ne_br {R : List Op} {z : Str} (h : Unk R z) : z ≠ ("(" : Str) := by
  obtain ⟨⟨c, t, e, hc⟩, _⟩ := h
  exact ne_br e (by have := sC_iff.mp hc; omega)
theorem wd_ne_br {R : List Op} {z : Str} (h : Wd R z) : z ≠ ("(" : Str) := by
  obtain ⟨⟨c, t, e, hc⟩, _⟩ := h
  exact ne_br e (by have := sS_iff.mp hc; omega)
theorem goes_rest {R : List Op} {zs : List Str} {n : Nat} {rest : List Str} {lev most : Int} (h : zs.drop n = rest) (f : Fo R most rest) : goesB R lev most zs[n]? = false := by
  have e : zs[n]? = rest.head? := by rw [← h, List.head?_drop]
  rw [e]
  cases er : rest.head? with
  | none => rfl
  | some nm =>
    cases eo : rowOf R nm 2 with
    | none => simp only [goesB, eo]
    | some o =>
      have := f.2 nm o er eo
      simp only [goesB, eo]
      rw [decide_eq_false (show ¬ o.l ≤ most by omega), Bool.and_false]
theorem goes_on {R : List Op} {lev most : Int} {nm : Str} {o : Op} (h : rowOf R nm 2 = some o) (h1 : lev ≤ lbO o) (h2 : o.l ≤ most) : goesB R lev most (some nm) = true := by
  simp only [goesB, h]
  rw [decide_eq_true h1, decide_eq_true h2]
  rfl
mutual
theorem Prim.rf {R : List Op} {zs : List Str} (tk : TabOk R) : ∀ {e : Nat} {la : Int} {a : Pt} {ta : List Str}, Prim R e la a ta → ∀ (d : Nat), e = d + 1 → ∀ (n : Nat) (most : Int) (rest : List Str), zs.drop n = ta ++ rest → la ≤ most → Fo R (la - 1) rest → RF R zs d most n (some (a, la, n + ta.length))
  | _, _, _, _, .num h, d, he, n, most, rest, hd, hm, _ => .plain (dropc hd).1 h.2.2 (num_ne_br h) (.num h)
  | _, _, _, _, .unk h, d, he, n, most, rest, hd, hm, _ => .plain (dropc hd).1 h.2.1 (unk_ne_br h) (.unk h)
  | _, _, _, _, .word h, d, he, n, most, rest, hd, hm, f => .plain (dropc hd).1 h.2.2.1 (wd_ne_br h) (.word h (by
      have e : zs.drop (n + 1) = rest := (dropc hd).2
      have : zs[n + 1]? = rest.head? := by rw [← e, List.head?_drop]
      rw [this]
      exact f.1))
  | _, _, _, _, .comp (ts := ts) h h0 h4 hl, d, he, n, most, rest, hd, hm, f => by
    cases he
    have h1 := dropc (z := _) (r := ("(" : Str) :: (ts ++ rest)) hd
    have h2 := dropc h1.2
    have := SptL.rb tk hl 0 (n + 1 + 1) rest h2.2 (by omega)
    have e : n + (2 + ts.length) = n + 1 + 1 + ts.length := by omega
    rw [List.length_cons, List.length_cons, show ts.length + 1 + 1 = 2 + ts.length by omega, e]
    exact .plain h1.1 h.2.2.1 (wd_ne_br h) (.comp h h2.1 this)
  | _, _, _, _, .ahead (ts := ts) h hs hl, d, he, n, most, rest, hd, hm, f => by
    cases he
    have h1 := dropc (r := ts ++ rest) hd
    have := Spt.rp tk hs (n + 1) _ rest h1.2 hl f
    rw [List.length_cons, show n + (ts.length + 1) = n + 1 + ts.length by omega]
    exact .ahead h1.1 h hm this
  | _, _, _, _, .paren (ts := ts) hs hl, d, he, n, most, rest, hd, hm, f => by
    cases he
    have h1 := dropc (z := ("(" : Str)) (r := ts ++ ((")" : Str) :: rest)) (by rw [hd]; simp)
    have := Spt.rp tk hs (n + 1) 9 _ h1.2 hl (fo_sign tk (.inl rfl) 9 rest)
    have h2 := dropc (dropa h1.2)
    rw [List.length_cons, List.length_append, List.length_singleton, show n + (ts.length + 1 + 1) = n + 1 + ts.length + 1 by omega]
    exact .br h1.1 this h2.1
theorem Spt.rp {R : List Op} {zs : List Str} (tk : TabOk R) : ∀ {d : Nat} {lev : Int} {p : Pt} {ts : List Str}, Spt R d lev p ts → ∀ (n : Nat) (most : Int) (rest : List Str), zs.drop n = ts ++ rest → lev ≤ most → Fo R most rest → RP R zs d most n (some (p, lev, n + ts.length))
  | _, _, _, _, .mk (ta := ta) (ts := ts) h1 h2, n, most, rest, hd, hm, f => by
    rw [List.append_assoc] at hd
    have hup := h2.up
    have e1 := Prim.rf tk h1 _ rfl n most (ts ++ rest) hd (by omega) (fo_prim h2 (f.less hm) tk.no2)
    have e2 := Stp.rl tk h2 (n + ta.length) most rest (dropa hd) hm f
    rw [List.length_append, ← Nat.add_assoc]
    exact .go e1 e2
theorem Stp.rl {R : List Op} {zs : List Str} (tk : TabOk R) : ∀ {d : Nat} {la : Int} {a : Pt} {lev : Int} {p : Pt} {ts : List Str}, Stp R d la a lev p ts → ∀ (n : Nat) (most : Int) (rest : List Str), zs.drop n = ts ++ rest → lev ≤ most → Fo R most rest → RL R zs d most la a n (some (p, lev, n + ts.length))
  | _, _, _, _, _, _, .nil, n, most, rest, hd, hm, f => .stop (goes_rest hd f)
  | _, _, _, _, _, _, .cons (tb := tb) (ts := ts) (nm := nm) h1 h2 h3 h4 h5, n, most, rest, hd, hm, f => by
    have hup := h5.up
    have e0 := dropc (z := nm) (r := tb ++ (ts ++ rest)) (by rw [hd]; simp)
    have e1 := Spt.rp tk h3 (n + 1) _ (ts ++ rest) e0.2 h4 (fo_step tk.sd h1 h5 (f.less hm) tk.no2)
    have e2 := Stp.rl tk h5 (n + 1 + tb.length) most rest (dropa e0.2) hm f
    rw [List.length_cons, List.length_append, show n + (tb.length + ts.length + 1) = n + 1 + tb.length + ts.length by omega]
    exact .step e0.1 h1 (goes_on h1 h2 (by omega)) e1 e2
theorem SptL.rb {R : List Op} {zs : List Str} (tk : TabOk R) : ∀ {d : Nat} {ps : List Pt} {us : List Str}, SptL R d ps us → ∀ (k n : Nat) (rest : List Str), zs.drop n = us ++ rest → k + ps.length ≤ 4 → RB R zs d k n (some (ps, n + us.length))
  | _, _, _, .one (ts := ts) h h9, k, n, rest, hd, hk => by
    have hd' : zs.drop n = ts ++ ((")" : Str) :: rest) := by rw [hd]; simp
    have e1 := Spt.rp tk h n 9 _ hd' h9 (fo_sign tk (.inl rfl) 9 rest)
    have e2 := dropc (dropa hd')
    rw [List.length_append, List.length_singleton, ← Nat.add_assoc]
    exact .last e1 e2.1 hk
  | _, _, _, .cons (ts := ts) (us := us) h h9 hl, k, n, rest, hd, hk => by
    have hd' : zs.drop n = ts ++ (("," : Str) :: (us ++ rest)) := by rw [hd]; simp
    have e1 := Spt.rp tk h n 9 _ hd' h9 (fo_sign tk (.inr rfl) 9 _)
    have e2 := dropc (dropa hd')
    rw [List.length_cons] at hk
    have e3 := SptL.rb tk hl (k + 1) (n + ts.length + 1) rest e2.2 (by omega)
    rw [List.length_append, List.length_cons, show n + (ts.length + (us.length + 1)) = n + ts.length + 1 + us.length by omega]
    exact .next e1 e2.1 (by omega) e3
end
theorem Spt.rdo {R : List Op} {zs : List Str} (tk : TabOk R) {d : Nat} {lev : Int} {p : Pt} (h : Spt R d lev p zs) (h9 : lev ≤ 9) : RdO R d zs (some p) := by
  have := Spt.rp (zs := zs) tk h 0 9 [] (by simp) h9 ⟨by simp, fun nm o e => by cases e⟩
  rw [Nat.zero_add] at this
  exact ⟨_, this, .inr ⟨p, lev, rfl, rfl⟩⟩
end Gs
namespace Gs
open PySem PySem.Spec PyProof.Rows L2 TL
abbrev s_is_named : Stmt := PySem.Challenge.pw_goalstead_k14_goals_by_their_shapes.main.body.getD 57 (.Pass ⟨0, 0, 0, 0⟩)
theorem sc_is_named : FnScope ["reading", "names", "many"] ["reading", "names", "many"] (defScope s_is_named) := ⟨rfl, rfl, rfl, by decide +kernel, rfl, by decide +kernel, by decide +kernel⟩
abbrev s_parted_by_and : Stmt := PySem.Challenge.pw_goalstead_k14_goals_by_their_shapes.main.body.getD 56 (.Pass ⟨0, 0, 0, 0⟩)
theorem sc_parted_by_and : FnScope ["reading", "parts"] ["reading"] (defScope s_parted_by_and) := ⟨rfl, rfl, rfl, by decide +kernel, rfl, by decide +kernel, by decide +kernel⟩
abbrev s_is_relation : Stmt := PySem.Challenge.pw_goalstead_k14_goals_by_their_shapes.main.body.getD 48 (.Pass ⟨0, 0, 0, 0⟩)
theorem sc_is_relation : FnScope ["reading"] ["reading"] (defScope s_is_relation) := ⟨rfl, rfl, rfl, by decide +kernel, rfl, by decide +kernel, by decide +kernel⟩
abbrev s_is_goal : Stmt := PySem.Challenge.pw_goalstead_k14_goals_by_their_shapes.main.body.getD 49 (.Pass ⟨0, 0, 0, 0⟩)
theorem sc_is_goal : FnScope ["reading"] ["reading"] (defScope s_is_goal) := ⟨rfl, rfl, rfl, by decide +kernel, rfl, by decide +kernel, by decide +kernel⟩
abbrev s_is_not : Stmt := PySem.Challenge.pw_goalstead_k14_goals_by_their_shapes.main.body.getD 50 (.Pass ⟨0, 0, 0, 0⟩)
theorem sc_is_not : FnScope ["reading"] ["reading"] (defScope s_is_not) := ⟨rfl, rfl, rfl, by decide +kernel, rfl, by decide +kernel, by decide +kernel⟩
abbrev s_is_likeness : Stmt := PySem.Challenge.pw_goalstead_k14_goals_by_their_shapes.main.body.getD 51 (.Pass ⟨0, 0, 0, 0⟩)
theorem sc_is_likeness : FnScope ["reading"] ["reading"] (defScope s_is_likeness) := ⟨rfl, rfl, rfl, by decide +kernel, rfl, by decide +kernel, by decide +kernel⟩
abbrev s_is_reckoning : Stmt := PySem.Challenge.pw_goalstead_k14_goals_by_their_shapes.main.body.getD 52 (.Pass ⟨0, 0, 0, 0⟩)
theorem sc_is_reckoning : FnScope ["reading"] ["reading"] (defScope s_is_reckoning) := ⟨rfl, rfl, rfl, by decide +kernel, rfl, by decide +kernel, by decide +kernel⟩
abbrev s_is_test : Stmt := PySem.Challenge.pw_goalstead_k14_goals_by_their_shapes.main.body.getD 53 (.Pass ⟨0, 0, 0, 0⟩)
theorem sc_is_test : FnScope ["reading"] ["reading"] (defScope s_is_test) := ⟨rfl, rfl, rfl, by decide +kernel, rfl, by decide +kernel, by decide +kernel⟩
abbrev s_is_field : Stmt := PySem.Challenge.pw_goalstead_k14_goals_by_their_shapes.main.body.getD 54 (.Pass ⟨0, 0, 0, 0⟩)
theorem sc_is_field : FnScope ["reading"] ["reading"] (defScope s_is_field) := ⟨rfl, rfl, rfl, by decide +kernel, rfl, by decide +kernel, by decide +kernel⟩
abbrev s_is_sum : Stmt := PySem.Challenge.pw_goalstead_k14_goals_by_their_shapes.main.body.getD 55 (.Pass ⟨0, 0, 0, 0⟩)
theorem sc_is_sum : FnScope ["reading"] ["reading"] (defScope s_is_sum) := ⟨rfl, rfl, rfl, by decide +kernel, rfl, by decide +kernel, by decide +kernel⟩
abbrev s_is_range : Stmt := PySem.Challenge.pw_goalstead_k14_goals_by_their_shapes.main.body.getD 58 (.Pass ⟨0, 0, 0, 0⟩)
theorem sc_is_range : FnScope ["reading", "unknown", "span"] ["reading"] (defScope s_is_range) := ⟨rfl, rfl, rfl, by decide +kernel, rfl, by decide +kernel, by decide +kernel⟩
abbrev s_is_box : Stmt := PySem.Challenge.pw_goalstead_k14_goals_by_their_shapes.main.body.getD 59 (.Pass ⟨0, 0, 0, 0⟩)
theorem sc_is_box : FnScope ["reading", "ranges", "part", "names", "unknown"] ["reading"] (defScope s_is_box) := ⟨rfl, rfl, rfl, by decide +kernel, rfl, by decide +kernel, by decide +kernel⟩
abbrev s_are_tests : Stmt := PySem.Challenge.pw_goalstead_k14_goals_by_their_shapes.main.body.getD 60 (.Pass ⟨0, 0, 0, 0⟩)
theorem sc_are_tests : FnScope ["reading", "tests", "part"] ["reading"] (defScope s_are_tests) := ⟨rfl, rfl, rfl, by decide +kernel, rfl, by decide +kernel, by decide +kernel⟩
/-! ### the shapes of goals, told of patterns -/
def sums5 : List Str := ["+", "-", "*", "//", "mod"]
def tests4 : List Str := ["<", "=<", "==", "=/="]
def namedP (ns : List Str) (many : Nat) : Pt → Bool
  | .t nm ps => decide (nm ∈ ns) && decide (ps.length = many)
  | _ => false
def isTup : Pt → Bool
  | .t _ _ => true
  | _ => false
def wordS (z : Str) : Bool := match tl z with
  | c :: _ => decide (c ∈ sS)
  | [] => false
def wordP : Pt → Bool
  | .s z => wordS z
  | _ => false
/-- a part by its number -/
def kid (i : Nat) : Pt → Pt
  | .t _ ps => ps.getD i (.i 0)
  | _ => .i 0
mutual
def sumP : Pt → Bool
  | .i _ => true
  | .s z => unkS z
  | .t nm ps => decide (nm ∈ sums5) && decide (ps.length = 2) && sumPL ps
def sumPL : List Pt → Bool
  | [] => true
  | x :: r => sumP x && sumPL r
end
def relP (p : Pt) : Bool := !hasK p && (wordP p || isTup p)
def notP (p : Pt) : Bool := namedP ["not"] 1 p && relP (kid 0 p)
def likeP (p : Pt) : Bool := namedP ["="] 2 p && (!hasK (kid 0 p) && !hasK (kid 1 p))
def reckP (p : Pt) : Bool := namedP ["is"] 2 p && (!hasK (kid 0 p) && sumP (kid 1 p))
def testP (p : Pt) : Bool := namedP tests4 2 p && (sumP (kid 0 p) && sumP (kid 1 p))
def spanP (p : Pt) : Bool := namedP [".."] 2 p && (sumP (kid 0 p) && sumP (kid 1 p))
def rangeP (p : Pt) : Bool := namedP ["in"] 2 p && (unk (kid 0 p) && spanP (kid 1 p))
/-- the parts that are joined by and -/
def partsN : Nat → Pt → List Pt
  | 0, p => [p]
  | n + 1, p => if namedP ["and"] 2 p = true then kid 0 p :: partsN n (kid 1 p) else [p]
def partsA (p : Pt) : List Pt := partsN (szT p) p
def rname (p : Pt) : Str := match kid 0 p with
  | .s z => z
  | _ => Str.empty
def boxP (p : Pt) : Bool := (partsA p).all rangeP && !(decide (3 < (partsA p).length) || decide ((once ((partsA p).map rname)).length < (partsA p).length)) && (partsA p).all fun r => (once (nmT (kid 1 r))).all fun u => !decide (u ∈ (partsA p).map rname)
def testsP (p : Pt) : Bool := (partsA p).all testP && decide ((partsA p).length ≤ 4)
def fieldQ (p : Pt) : Bool := if namedP ["such"] 2 p = true then boxP (kid 0 p) && testsP (kid 1 p) else boxP p
def goalP (p : Pt) : Bool := relP p || (notP p || (likeP p || (reckP p || (testP p || fieldQ p))))
theorem named_t {ns : List Str} {many : Nat} {p : Pt} (h : namedP ns many p = true) : ∃ nm ps, p = .t nm ps ∧ nm ∈ ns ∧ ps.length = many := by
  cases p with
  | i n => cases h
  | s z => cases h
  | t nm ps =>
    have h' : (decide (nm ∈ ns) && decide (ps.length = many)) = true := h
    rw [Bool.and_eq_true, decide_eq_true_iff, decide_eq_true_iff] at h'
    exact ⟨nm, ps, rfl, h'.1, h'.2⟩
theorem named2 {ns : List Str} {p : Pt} (h : namedP ns 2 p = true) : ∃ nm a b, p = .t nm [a, b] ∧ nm ∈ ns := by
  obtain ⟨nm, ps, rfl, h1, h2⟩ := named_t h
  match ps, h2 with
  | [a, b], _ => exact ⟨nm, a, b, rfl, h1⟩
theorem named1 {ns : List Str} {p : Pt} (h : namedP ns 1 p = true) : ∃ nm a, p = .t nm [a] ∧ nm ∈ ns := by
  obtain ⟨nm, ps, rfl, h1, h2⟩ := named_t h
  match ps, h2 with
  | [a], _ => exact ⟨nm, a, rfl, h1⟩
theorem sumP_two {nm : Str} {a b : Pt} : sumP (.t nm [a, b]) = (decide (nm ∈ sums5) && (sumP a && sumP b)) := by
  rw [sumP, sumPL, sumPL, sumPL, Bool.and_true]
  simp
theorem sumP_not {p : Pt} (ht : isTup p = true) (h : namedP sums5 2 p = false) : sumP p = false := by
  cases p with
  | i n => cases ht
  | s z => cases ht
  | t nm ps =>
    have h' : (decide (nm ∈ sums5) && decide (ps.length = 2)) = false := h
    rw [sumP, h', Bool.false_and]
/-- what holds of a tuple's texts and of its parts' -/
abbrev OkP (p : Pt) : Prop := okT TxOk (fun _ => True) p
theorem OkP.two {nm : Str} {a b : Pt} (h : OkP (.t nm [a, b])) : OkP a ∧ OkP b := by
  have h' : okT TxOk (fun _ => True) (.t nm [a, b]) := h
  rw [okT, okL, okL] at h'
  exact ⟨h'.2.2.2.1, h'.2.2.2.2.1⟩
theorem OkP.one {nm : Str} {a : Pt} (h : OkP (.t nm [a])) : OkP a := by
  have h' : okT TxOk (fun _ => True) (.t nm [a]) := h
  rw [okT, okL] at h'
  exact h'.2.2.2.1
theorem PtAt.two {K : PySem.W.Frag} {H : Hp} {k : Nat} {v : V} {nm : Str} {a b : Pt} (h : PtAt K H k v (.t nm [a, b])) : ∃ j r x y, k = j + 1 ∧ v = .ref r ∧ SqT K H r [.str nm, x, y] ∧ PtAt K H j x a ∧ PtAt K H j y b := by
  rcases h.three with ⟨n, _, e⟩ | ⟨z, _, e⟩ | ⟨j, nm', ps, r, ys, ej, ev, e, sa, pq⟩
  · cases e
  · cases e
  · cases e
    match ys, pq with
    | [x, y], pq => exact ⟨j, r, x, y, ej, ev, sa, pq.2 0 x a rfl rfl, pq.2 1 y b rfl rfl⟩
theorem PtAt.one1 {K : PySem.W.Frag} {H : Hp} {k : Nat} {v : V} {nm : Str} {a : Pt} (h : PtAt K H k v (.t nm [a])) : ∃ j r x, k = j + 1 ∧ v = .ref r ∧ SqT K H r [.str nm, x] ∧ PtAt K H j x a := by
  rcases h.three with ⟨n, _, e⟩ | ⟨z, _, e⟩ | ⟨j, nm', ps, r, ys, ej, ev, e, sa, pq⟩
  · cases e
  · cases e
  · cases e
    match ys, pq with
    | [x], pq => exact ⟨j, r, x, ej, ev, sa, pq.2 0 x a rfl rfl⟩
structure TxG (K : PySem.W.Frag) (mg : Str → Option Value) : Prop where
  tst : ∃ p, mg "TEST_SIGNS" = some (.ref p) ∧ ∀ H, SqT K H p (tests4.map V.str)
  sms : ∃ p, mg "SUM_SIGNS" = some (.ref p) ∧ ∀ H, SqT K H p (sums5.map V.str)
/-- what a def that looks at a pattern tells -/
def spLook (K : PySem.W.Frag) (d : Nat) (f : Pt → Bool) : Sp := fun vs H Q _ => ∃ (v : V) (k : Nat) (p : Pt), vs = [v] ∧ PtAt K H k v p ∧ OkP p ∧ szT p ≤ 1000 ∧ dpT p ≤ d ∧ ∀ H', Same H H' → Q (.bl (f p)) H'
def spNamedG (K : PySem.W.Frag) : Sp := fun vs H Q _ => ∃ (v : V) (b : Addr) (k many : Nat) (p : Pt) (ns : List Str), vs = [v, .ref b, .int (many : Int)] ∧ PtAt K H k v p ∧ SqT K H b (ns.map V.str) ∧ Q (.bl (namedP ns many p)) H
def spPartsA (K : PySem.W.Frag) : Sp := fun vs H Q _ => ∃ (v : V) (k : Nat) (p : Pt), vs = [v] ∧ PtAt K H k v p ∧ szT p ≤ 1000 ∧ ∀ a us H', H a = none → Same H H' → H' a = some (.lst us) → PtsAt K H' k us (partsA p) → Q (.ref a) H'
section
variable {P : Program} {w : World} {K : PySem.W.Frag} {mg : Str → Option Value} {base : Heap} {f : Addr} {fd : FuncData}
def HasLook (k : Nat) (x : Str) (d : Nat) (g : Pt → Bool) (P : Program) (w : World) (K : PySem.W.Frag) (mg : Str → Option Value) (base : Heap) : Prop := Has P w K mg base k x ["reading"] (spLook K d g)
def HasNamedG (P : Program) (w : World) (K : PySem.W.Frag) (mg : Str → Option Value) (base : Heap) : Prop := Has P w K mg base 1 "_is_named" ["reading", "names", "many"] (spNamedG K)
def HasPartsA (P : Program) (w : World) (K : PySem.W.Frag) (mg : Str → Option Value) (base : Heap) : Prop := Has P w K mg base 2 "parted_by_and" ["reading"] (spPartsA K)
def HasWordG (d : Nat) (P : Program) (w : World) (K : PySem.W.Frag) (mg : Str → Option Value) (base : Heap) : Prop := Has P w K mg base 1 "is_word" ["part"] (spLook K d wordP)
theorem ok_is_wordG {d : Nat} (F : Fun K "is_word" "is_word" s_is_word f fd) (T : Txt mg) : FnOk P w K mg base CX0 1 f fd ["part"] (spLook K d wordP) := by
  refine F.ok sc_is_word (fun vs H Q E h => ?_) (fun cdv A outer s H vs Q E hr h => ?_)
  · obtain ⟨v, k, p, rfl, _⟩ := h
    rfl
  obtain ⟨v, k, p, rfl, hp, ok, hz, _, q⟩ := h
  refine ⟨_, (pss_one (ps_ret (pe_and (pe_callB (call_isiKK (K := K)) (by rfl) T.z_isinstance (by decide +kernel) (pa_cons (pv 0) (pa_cons (pe_bltn (v := .ty "str") (by rfl) T.z_str (by decide +kernel) rfl) pa_nil))) (pe_one (pe_cmpR op_in_sign (pe_ix ix_str (pv 0) pe_int (fun _ _ => rfl)) (pe_globS rfl T.c_SMALLS) (by rfl)))))), ?_⟩
  walk_at "sx"
  rcases hp.three with ⟨n, rfl, rfl⟩ | ⟨z, rfl, rfl⟩ | ⟨j, nm, qs, a, us, rfl, rfl, rfl, sa, pq⟩
  · refine x_isT (t := .type "int") (c := false) (.base (.int n)) (kit_ty (by decide +kernel)) ?_
    walk_at "sx"
    exact q _ (same_refl _)
  · refine x_isT (t := .type "str") (c := true) (.base (.str z)) (kit_ty (by decide +kernel)) ?_
    walk_at "sx"
    obtain ⟨c, t, e, hl⟩ := ok
    refine x_ixS (c := c) (sz (by omega)) (at0 (show (tl z)[0]? = some c by rw [e]; rfl)) ?_
    walk_at "sx"
    have eu : wordP (.s z) = decide (c ∈ ("abcdefghijklmnopqrstuvwxyz" : Str).cps.toList) := by
      show wordS z = decide (c ∈ tl ("abcdefghijklmnopqrstuvwxyz" : Str))
      rw [tl_S]
      unfold wordS
      rw [e]
    rw [← eu]
    exact q _ (same_refl _)
  · refine x_isT (t := .type "tuple") (c := false) (ty_tup sa) (kit_ty (by decide +kernel)) ?_
    walk_at "sx"
    exact q _ (same_refl _)
theorem ok_is_namedG (F : Fun K "_is_named" "_is_named" s_is_named f fd) (T : Txt mg) : FnOk P w K mg base CX0 1 f fd ["reading", "names", "many"] (spNamedG K) := by
  refine F.ok sc_is_named (fun vs H Q E h => ?_) (fun cdv A outer s H vs Q E hr h => ?_)
  · obtain ⟨v, b, k, many, p, ns, rfl, _⟩ := h
    rfl
  obtain ⟨v, b, k, many, p, ns, rfl, hv, hb, q⟩ := h
  refine ⟨_, (pss_one (ps_ret (pe_and (pe_callB (call_isiKK (K := K)) (by rfl) T.z_isinstance (by decide +kernel) (pa_cons (pv 0) (pa_cons (pe_bltn (v := .ty "tuple") (by rfl) T.z_tuple (by decide +kernel) rfl) pa_nil))) (pe_and (pe_cmpR (op_inK (K := K)) (pe_ix (ix_tupK (K := K)) (pv 0) pe_int (fun _ _ => rfl)) (pv 1) (by first | exact nomark _ | rfl)) (pe_one (pe_cmpR op_eq (pe_callB (call_lenK (K := K)) (by rfl) T.z_len (by decide +kernel) (pa_cons (pv 0) pa_nil)) (pe_op op_add (pv 2) pe_int) (nomark _))))))), ?_⟩
  walk_at "sx"
  rcases hv.three with ⟨nn, rfl, rfl⟩ | ⟨z, rfl, rfl⟩ | ⟨i0, nm, ps, a, ys, ej, rfl, rfl, sa, pq⟩
  · refine x_isT (t := .type "int") (c := false) (.base (.int nn)) (kit_ty (by decide +kernel)) ?_
    walk_at "sx"
    exact q
  · refine x_isT (t := .type "str") (c := false) (.base (.str z)) (kit_ty (by decide +kernel)) ?_
    walk_at "sx"
    exact q
  · refine x_isT (t := .type "tuple") (c := true) (ty_tup sa) (kit_ty (by decide +kernel)) ?_
    have l1 := pq.1
    walk_at "sx"
    refine ⟨b, _, rfl, .inr hb, rfl, by rw [List.all_map]; exact List.all_eq_true.mpr fun _ _ => rfl, _, rfl, ?_⟩
    have e0 : (if false = true then !inV (V.str nm) (List.map V.str ns) else inV (V.str nm) (List.map V.str ns)) = decide (nm ∈ ns) := by
      rw [if_neg Bool.false_ne_true, inV_strs]
    rw [e0]
    refine x_ite (fun c => ?_) (fun c => ?_)
    · walk_at "sx"
      have e2 : decide (V.int (((V.str nm :: ys).length : Nat) : Int) = V.int ((many : Int) + 1)) = namedP ns many (.t nm ps) := by
        show _ = (decide (nm ∈ ns) && decide (ps.length = many))
        rw [decide_eq_true c, Bool.true_and, decide_eq_decide, List.length_cons, l1]
        exact ⟨fun z => by have := V.int.inj z; omega, fun z => congrArg V.int (by omega)⟩
      rw [e2]
      exact q
    · have e3 : namedP ns many (.t nm ps) = false := by
        show (decide (nm ∈ ns) && decide (ps.length = many)) = false
        rw [decide_eq_false c, Bool.false_and]
      rw [e3] at q
      walk_at "sx"
      exact q
theorem ok_is_sumG (F : Fun K "is_sum" "is_sum" s_is_sum f fd) (T : Txt mg) (TG : TxG K mg) (C_is_named : HasNamedG P w K mg base) (C_is_unknown : HasUnknown P w K mg base) (b : Binds K fd ["reading"] []) (kp : PySem.W.keepIn K (.ref f) = true) (m : mg "is_sum" = some (.ref f)) : ∀ k, FnOk P w K mg base CX0 (k + 2) f fd ["reading"] (fun vs H Q _ => ∃ (v : V) (p : Pt), vs = [v] ∧ PtAt K H k v p ∧ OkP p ∧ ∀ H', Same H H' → Q (.bl (sumP p)) H')
  | 0 => ⟨fun vs H Q E h => by
      obtain ⟨v, p, _, h, _⟩ := h
      exact h.elim, fun A outer s H args us vs Q E _ _ _ _ h => by
      obtain ⟨v, p, _, h, _⟩ := h
      exact h.elim⟩
  | k + 1 => by
    have C_is_sum : Has P w K mg base (k + 2) "is_sum" ["reading"] (fun vs H Q _ => ∃ (v : V) (p : Pt), vs = [v] ∧ PtAt K H k v p ∧ OkP p ∧ ∀ H', Same H H' → Q (.bl (sumP p)) H') := ⟨f, fd, ok_is_sumG F T TG C_is_named C_is_unknown b kp m k, b, kp, m⟩
    refine F.ok sc_is_sum (fun vs H Q E h => ?_) (fun cdv A outer s H vs Q E hr h => ?_)
    · obtain ⟨v, p, rfl, _⟩ := h
      rfl
    obtain ⟨v, p, rfl, hp, ok, q⟩ := h
    obtain ⟨ps0, m_SUM_SIGNS, hss⟩ := TG.sms
    refine ⟨_, (pss_cons (ps_if (pt_val (pe_callB (call_isiKK (K := K)) (by rfl) T.z_isinstance (by decide +kernel) (pa_cons (pv 0) (pa_cons (pe_bltn (v := .ty "tuple") (by rfl) T.z_tuple (by decide +kernel) rfl) pa_nil))))
      (pss_one (ps_ret (pe_and (pe_callH C_is_named hr (pa_cons (pv 0) (pa_cons (pe_glob (v := .ref _) rfl m_SUM_SIGNS rfl) (pa_cons pe_int pa_nil))) (hk := by omega)) (pe_and (pe_callH C_is_sum hr (pa_cons (pe_ix (ix_tupK (K := K)) (pv 0) pe_int (fun _ _ => rfl)) pa_nil) (hk := Nat.le_refl _)) (pe_one (pe_callH C_is_sum hr (pa_cons (pe_ix (ix_tupK (K := K)) (pv 0) pe_int (fun _ _ => rfl)) pa_nil) (hk := Nat.le_refl _)))))))
      pss_nil)
    (pss_one (ps_ret (pe_or (pe_callB (call_isiKK (K := K)) (by rfl) T.z_isinstance (by decide +kernel) (pa_cons (pv 0) (pa_cons (pe_bltn (v := .ty "int") (by rfl) T.z_int (by decide +kernel) rfl) pa_nil))) (pe_one (pe_callH C_is_unknown hr (pa_cons (pv 0) pa_nil) (hk := by omega))))))), ?_⟩
    walk_at "sx"
    rcases id hp.three with ⟨n, rfl, rfl⟩ | ⟨z, rfl, rfl⟩ | ⟨j, nm, ps, a, ys, ej, rfl, rfl, sa, pq⟩
    · refine x_isT (t := .type "int") (c := false) (.base (.int n)) (kit_ty (by decide +kernel)) ?_
      walk_at "sx"
      refine x_isT (t := .type "int") (c := true) (.base (.int n)) (kit_ty (by decide +kernel)) ?_
      walk_at "sx"
      exact q _ (same_refl _)
    · refine x_isT (t := .type "str") (c := false) (.base (.str z)) (kit_ty (by decide +kernel)) ?_
      walk_at "sx"
      refine x_isT (t := .type "str") (c := false) (.base (.str z)) (kit_ty (by decide +kernel)) ?_
      walk_at "sx"
      refine ⟨_, _, .s z, rfl, hp, (fun y e => by cases e; exact ok), ?_⟩
      exact q _ (same_refl _)
    · refine x_isT (t := .type "tuple") (c := true) (ty_tup sa) (kit_ty (by decide +kernel)) ?_
      walk_at "sx"
      refine ⟨_, ps0, _, 2, _, sums5, rfl, hp, hss H, ?_⟩
      cases en : namedP sums5 2 (.t nm ps) with
      | false =>
        walk_at "sx"
        rw [sumP_not rfl en] at q
        exact q _ (same_refl _)
      | true =>
        obtain ⟨nm', x, y, e, hm⟩ := named2 en
        cases e
        have ej' : j = k := by omega
        subst ej'
        obtain ⟨ok1, ok2⟩ := ok.two
        match ys, pq with
        | [v1, v2], pq =>
          have e0 : sumP (.t nm [x, y]) = (sumP x && sumP y) := by rw [sumP_two, decide_eq_true hm, Bool.true_and]
          rw [e0] at q
          walk_at "sx"
          refine ⟨v1, x, rfl, pq.2 0 v1 x rfl rfl, ok1, fun G s1 => ?_⟩
          have sa1 := Same.sqT s1 sa
          cases ex : sumP x with
          | false =>
            rw [ex] at q
            walk_at "sx"
            exact q _ s1
          | true =>
            rw [ex, Bool.true_and] at q
            walk_at "sx"
            exact ⟨v2, y, rfl, (pq.2 1 v2 y rfl rfl).same s1, ok2, fun G2 s2 => q _ (s1.trans s2)⟩
def HasSumG (d : Nat) (P : Program) (w : World) (K : PySem.W.Frag) (mg : Str → Option Value) (base : Heap) : Prop := Has P w K mg base (d + 2) "is_sum" ["reading"] (fun vs H Q _ => ∃ (v : V) (p : Pt), vs = [v] ∧ PtAt K H d v p ∧ OkP p ∧ ∀ H', Same H H' → Q (.bl (sumP p)) H')
theorem partsN_more : ∀ (n : Nat) (p : Pt), szT p ≤ n → partsN n p = partsA p
  | 0, p, h => by
    have := szT_pos p
    omega
  | n + 1, p, h => by
    unfold partsA
    obtain ⟨m, em⟩ : ∃ m, szT p = m + 1 := ⟨szT p - 1, by have := szT_pos p; omega⟩
    rw [em, partsN, partsN]
    cases e : namedP ["and"] 2 p with
    | false => rw [if_neg Bool.false_ne_true, if_neg Bool.false_ne_true]
    | true =>
      obtain ⟨nm, a, b, rfl, _⟩ := named2 e
      have hb : szT b ≤ m := by
        rw [szT, szL, szL, szL] at em
        omega
      rw [if_pos rfl, if_pos rfl]
      show a :: partsN n b = a :: partsN m b
      rw [partsN_more n b (by omega)]
      have := partsN_more m b hb
      rw [this]
theorem partsA_and {nm : Str} {a b : Pt} (h : namedP ["and"] 2 (.t nm [a, b]) = true) : partsA (.t nm [a, b]) = a :: partsA b := by
  have e := partsN_more (szT (.t nm [a, b]) + 1) (.t nm [a, b]) (by omega)
  rw [← e, partsN, if_pos h]
  show a :: partsN _ b = _
  rw [partsN_more _ b (by rw [szT, szL, szL, szL]; omega)]
theorem partsA_one {p : Pt} (h : namedP ["and"] 2 p = false) : partsA p = [p] := by
  have e := partsN_more (szT p + 1) p (by omega)
  rw [← e, partsN, h, if_neg Bool.false_ne_true]
theorem ok_partsA (F : Fun K "parted_by_and" "parted_by_and" s_parted_by_and f fd) (T : Txt mg) (C_is_named : HasNamedG P w K mg base) : FnOk P w K mg base CX0 2 f fd ["reading"] (spPartsA K) := by
  refine F.ok sc_parted_by_and (fun vs H Q E h => ?_) (fun cdv A outer s H vs Q E hr h => ?_)
  · obtain ⟨v, k, p, rfl, _⟩ := h
    rfl
  obtain ⟨v, k, p, rfl, hv, hz, q⟩ := h
  refine ⟨_, (pss_cons (ps_set (i := 1) sc_parted_by_and.nd rfl (Or.inl rfl) (pe_lst pa_nil))
    (pss_cons (ps_while PassesOwn.never (pt_val (pe_callH C_is_named hr (pa_cons (pv 0) (pa_cons (pe_tup (pa_cons pe_str pa_nil)) (pa_cons pe_int pa_nil)))))
      (pss_cons (ps_expr (pe_bm PySem.F.plainAttrs_list PySem.F.slot_list_append PySem.F.type_list_append mt_append (pv 1) (pa_cons (pe_ix (ix_tupK (K := K)) (pv 0) pe_int (fun _ _ => rfl)) pa_nil)))
    (pss_one (ps_set (i := 0) sc_parted_by_and.nd rfl (Or.inl rfl) (pe_ix (ix_tupK (K := K)) (pv 0) pe_int (fun _ _ => rfl))))))
    (pss_cons (ps_expr (pe_bm PySem.F.plainAttrs_list PySem.F.slot_list_append PySem.F.type_list_append mt_append (pv 1) (pa_cons (pv 0) pa_nil)))
    (pss_one (ps_ret (pv 1)))))), ?_⟩
  walk_at "sx"
  rename_i pl npl
  refine x_while (fun m σ' G => ∃ (v' : V) (us : List V) (pre : List Pt) (p' : Pt), σ' = [some v', some (.ref pl)] ∧ PtAt K G k v' p' ∧ G pl = some (.lst us) ∧ PtsAt K G k us pre ∧ partsA p = pre ++ partsA p' ∧ m = szT p' ∧ us.length + szT p' ≤ szT p ∧ Same H G) (szT p) ?_ ?_
  · exact ⟨v, [], [], p, rfl, hv.same (same_upd npl), upd_same, .nil, rfl, rfl, by simp, same_upd npl⟩
  · rintro m σ' G ⟨v', us, pre, p', rfl, hv', hpl, hus, e, rfl, hl, kG⟩
    walk_at "sx"
    rename_i tp ntp
    have k1 : Same G (upd G tp (.tup [V.str "and"])) := same_upd ntp
    refine ⟨v', tp, k, 2, p', ["and"], rfl, hv'.same k1, .of upd_same, ?_⟩
    walk_at "sx"
    have hpl1 := k1 _ _ hpl
    cases en : namedP ["and"] 2 p' with
    | false =>
      walk_at "sx"
      refine x_app hpl1 (szl (by omega)) ?_
      walk_at "sx"
      rw [partsA_one en] at e
      rw [e] at q
      refine q pl _ _ npl (same_updf (kG.trans k1) npl) upd_same ?_
      exact ((hus.same k1).append (.one (hv'.same k1))).lst hpl1
    | true =>
      obtain ⟨nm, a, b, rfl, _⟩ := named2 en
      obtain ⟨j, r, x, y, rfl, rfl, sa, h1, h2⟩ := hv'.two
      have hb := szT_pos a
      have hsz : szT (.t nm [a, b]) = 1 + (szT a + szT b) := by rw [szT, szL, szL, szL]; omega
      refine ⟨fun σ' G => ∃ (v' : V) (us : List V) (pre : List Pt) (p2 : Pt), σ' = [some v', some (.ref pl)] ∧ PtAt K G (j + 1) v' p2 ∧ G pl = some (.lst us) ∧ PtsAt K G (j + 1) us pre ∧ partsA p = pre ++ partsA p2 ∧ szT p2 < szT (.t nm [a, b]) ∧ us.length + szT p2 ≤ szT p ∧ Same H G, ?_, ?_⟩
      · rintro σ' G ⟨v', us, pre, p2, rfl, g1, g2, g3, g4, g5, g6, g7⟩
        exact ⟨_, g5, v', us, pre, p2, rfl, g1, g2, g3, g4, rfl, g6, g7⟩
      have sa1 := Same.sqT k1 sa
      walk_at "sx"
      refine x_app hpl1 (szl (by omega)) ?_
      have g : ∀ c xs, SqT K G c xs → SqT K (upd (upd G tp (.tup [V.str "and"])) pl (.lst (us ++ [x]))) c xs := fun _ _ s => sqT_lst hpl1 (Same.sqT k1 s)
      have sa2 := g _ _ sa
      walk_at "sx"
      refine ⟨y, _, pre ++ [a], b, rfl, (h2.up (by omega)).mono g, upd_same, ?_, by rw [e, partsA_and en, List.append_assoc]; rfl, by omega, by rw [List.length_append, List.length_singleton]; omega, same_updf (kG.trans k1) npl⟩
      exact ((hus.same k1).append (.one ((h1.up (by omega)).same k1))).lst hpl1
theorem OkP.kids {p : Pt} (h : OkP p) : OkP (kid 0 p) ∧ OkP (kid 1 p) := by
  have hi : OkP (.i 0) := by show (0 : Int).natAbs < 10 ^ 60; decide
  cases p with
  | i n => exact ⟨hi, hi⟩
  | s z => exact ⟨hi, hi⟩
  | t nm ps =>
    have h' : okT TxOk (fun _ => True) (.t nm ps) := h
    rw [okT] at h'
    have hl := okL_mem.mp h'.2.2.2
    refine ⟨?_, ?_⟩
    · show OkP (ps.getD 0 (.i 0))
      rw [List.getD_eq_getElem?_getD]
      cases e : ps[0]? with
      | none => exact hi
      | some x => exact hl x (List.mem_of_getElem? e)
    · show OkP (ps.getD 1 (.i 0))
      rw [List.getD_eq_getElem?_getD]
      cases e : ps[1]? with
      | none => exact hi
      | some x => exact hl x (List.mem_of_getElem? e)
theorem two_sd {nm : Str} {a b : Pt} {d z : Nat} (hd : dpT (.t nm [a, b]) ≤ d) (hz : szT (.t nm [a, b]) ≤ z) : dpT a ≤ d ∧ dpT b ≤ d ∧ szT a ≤ z ∧ szT b ≤ z := by
  rw [dpT, dpL, dpL, dpL] at hd
  rw [szT, szL, szL, szL] at hz
  omega
theorem ok_is_relationG {d : Nat} (F : Fun K "is_relation" "is_relation" s_is_relation f fd) (T : Txt mg) (C_is_pattern : HasIsPat P w K mg base) (C_is_word : HasWordG d P w K mg base) : FnOk P w K mg base CX0 3 f fd ["reading"] (spLook K d relP) := by
  refine F.ok sc_is_relation (fun vs H Q E h => ?_) (fun cdv A outer s H vs Q E hr h => ?_)
  · obtain ⟨v, k, p, rfl, _⟩ := h
    rfl
  obtain ⟨v, k, p, rfl, hp, ok, hz, hd, q⟩ := h
  refine ⟨_, (pss_one (ps_ret (pe_and (pe_callH C_is_pattern hr (pa_cons (pv 0) pa_nil)) (pe_one (pe_or (pe_callH C_is_word hr (pa_cons (pv 0) pa_nil)) (pe_one (pe_callB (call_isiKK (K := K)) (by rfl) T.z_isinstance (by decide +kernel) (pa_cons (pv 0) (pa_cons (pe_bltn (v := .ty "tuple") (by rfl) T.z_tuple (by decide +kernel) rfl) pa_nil))))))))), ?_⟩
  walk_at "sx"
  refine ⟨v, k, p, rfl, hp, by omega, fun G s1 => ?_⟩
  unfold relP at q
  cases hk : hasK p with
  | true =>
    rw [hk] at q
    walk_at "sx"
    exact q _ s1
  | false =>
    rw [hk] at q
    walk_at "sx"
    refine ⟨v, k, p, rfl, hp.same s1, ok, hz, hd, fun G2 s2 => ?_⟩
    have hp2 := (hp.same s1).same s2
    have s12 := s1.trans s2
    cases hw : wordP p with
    | true =>
      rw [hw] at q
      walk_at "sx"
      exact q _ s12
    | false =>
      rw [hw] at q
      walk_at "sx"
      rcases hp2.three with ⟨n, rfl, rfl⟩ | ⟨z, rfl, rfl⟩ | ⟨j, nm, qs, a, us, rfl, rfl, rfl, sa, pq⟩
      · exact x_isT (t := .type "int") (c := false) (.base (.int n)) (kit_ty (by decide +kernel)) (q _ s12)
      · exact x_isT (t := .type "str") (c := false) (.base (.str z)) (kit_ty (by decide +kernel)) (q _ s12)
      · exact x_isT (t := .type "tuple") (c := true) (ty_tup sa) (kit_ty (by decide +kernel)) (q _ s12)
theorem ok_is_notG {d : Nat} (F : Fun K "is_not" "is_not" s_is_not f fd) (T : Txt mg) (C_is_named : HasNamedG P w K mg base) (C_is_relation : HasLook 3 "is_relation" d relP P w K mg base) : FnOk P w K mg base CX0 4 f fd ["reading"] (spLook K d notP) := by
  refine F.ok sc_is_not (fun vs H Q E h => ?_) (fun cdv A outer s H vs Q E hr h => ?_)
  · obtain ⟨v, k, p, rfl, _⟩ := h
    rfl
  obtain ⟨v, k, p, rfl, hp, ok, hz, hd, q⟩ := h
  refine ⟨_, (pss_one (ps_ret (pe_and (pe_callH C_is_named hr (pa_cons (pv 0) (pa_cons (pe_tup (pa_cons pe_str pa_nil)) (pa_cons pe_int pa_nil)))) (pe_one (pe_callH C_is_relation hr (pa_cons (pe_ix (ix_tupK (K := K)) (pv 0) pe_int (fun _ _ => rfl)) pa_nil)))))), ?_⟩
  walk_at "sx"
  rename_i tp ntp
  have k1 : Same H (upd H tp (.tup [V.str "not"])) := same_upd ntp
  refine ⟨v, tp, k, 1, p, ["not"], rfl, hp.same k1, .of upd_same, ?_⟩
  unfold notP at q
  cases en : namedP ["not"] 1 p with
  | false =>
    rw [en] at q
    walk_at "sx"
    exact q _ k1
  | true =>
    rw [en] at q
    obtain ⟨nm, a, rfl, _⟩ := named1 en
    obtain ⟨j, r, x, rfl, rfl, sa, h1⟩ := hp.one1
    have sa1 := Same.sqT k1 sa
    rw [szT, szL, szL] at hz
    rw [dpT, dpL, dpL] at hd
    walk_at "sx"
    exact ⟨x, j, a, rfl, h1.same k1, ok.one, by omega, by omega, fun G s1 => q _ (k1.trans s1)⟩
theorem ok_is_likeG {d : Nat} (F : Fun K "is_likeness" "is_likeness" s_is_likeness f fd) (T : Txt mg) (C_is_named : HasNamedG P w K mg base) (C_is_pattern : HasIsPat P w K mg base) : FnOk P w K mg base CX0 3 f fd ["reading"] (spLook K d likeP) := by
  refine F.ok sc_is_likeness (fun vs H Q E h => ?_) (fun cdv A outer s H vs Q E hr h => ?_)
  · obtain ⟨v, k, p, rfl, _⟩ := h
    rfl
  obtain ⟨v, k, p, rfl, hp, ok, hz, hd, q⟩ := h
  refine ⟨_, (pss_one (ps_ret (pe_and (pe_callH C_is_named hr (pa_cons (pv 0) (pa_cons (pe_tup (pa_cons pe_str pa_nil)) (pa_cons pe_int pa_nil)))) (pe_and (pe_callH C_is_pattern hr (pa_cons (pe_ix (ix_tupK (K := K)) (pv 0) pe_int (fun _ _ => rfl)) pa_nil)) (pe_one (pe_callH C_is_pattern hr (pa_cons (pe_ix (ix_tupK (K := K)) (pv 0) pe_int (fun _ _ => rfl)) pa_nil))))))), ?_⟩
  walk_at "sx"
  rename_i tp ntp
  have k1 : Same H (upd H tp (.tup [V.str "="])) := same_upd ntp
  refine ⟨v, tp, k, 2, p, ["="], rfl, hp.same k1, .of upd_same, ?_⟩
  unfold likeP at q
  cases en : namedP ["="] 2 p with
  | false =>
    rw [en] at q
    walk_at "sx"
    exact q _ k1
  | true =>
    rw [en] at q
    obtain ⟨nm, a, b, rfl, _⟩ := named2 en
    obtain ⟨j, r, x, y, rfl, rfl, sa, h1, h2⟩ := hp.two
    have sa1 := Same.sqT k1 sa
    obtain ⟨_, _, z1, z2⟩ := two_sd hd hz
    have q' : ∀ H', Same H H' → Q (.bl (!hasK a && !hasK b)) H' := q
    walk_at "sx"
    refine ⟨x, j, a, rfl, h1.same k1, by omega, fun G s1 => ?_⟩
    have s01 := k1.trans s1
    have sa2 := Same.sqT s01 sa
    cases ha : hasK a with
    | true =>
      rw [ha] at q'
      walk_at "sx"
      exact q' _ s01
    | false =>
      rw [ha] at q'
      walk_at "sx"
      exact ⟨y, j, b, rfl, h2.same s01, by omega, fun G2 s2 => q' _ (s01.trans s2)⟩
theorem ok_is_reckG {d : Nat} (F : Fun K "is_reckoning" "is_reckoning" s_is_reckoning f fd) (T : Txt mg) (C_is_named : HasNamedG P w K mg base) (C_is_pattern : HasIsPat P w K mg base) (C_is_sum : HasSumG d P w K mg base) : FnOk P w K mg base CX0 (d + 3) f fd ["reading"] (spLook K d reckP) := by
  refine F.ok sc_is_reckoning (fun vs H Q E h => ?_) (fun cdv A outer s H vs Q E hr h => ?_)
  · obtain ⟨v, k, p, rfl, _⟩ := h
    rfl
  obtain ⟨v, k, p, rfl, hp, ok, hz, hd, q⟩ := h
  refine ⟨_, (pss_one (ps_ret (pe_and (pe_callH C_is_named hr (pa_cons (pv 0) (pa_cons (pe_tup (pa_cons pe_str pa_nil)) (pa_cons pe_int pa_nil))) (hk := by omega)) (pe_and (pe_callH C_is_pattern hr (pa_cons (pe_ix (ix_tupK (K := K)) (pv 0) pe_int (fun _ _ => rfl)) pa_nil) (hk := by omega)) (pe_one (pe_callH C_is_sum hr (pa_cons (pe_ix (ix_tupK (K := K)) (pv 0) pe_int (fun _ _ => rfl)) pa_nil) (hk := by omega))))))), ?_⟩
  walk_at "sx"
  rename_i tp ntp
  have k1 : Same H (upd H tp (.tup [V.str "is"])) := same_upd ntp
  refine ⟨v, tp, k, 2, p, ["is"], rfl, hp.same k1, .of upd_same, ?_⟩
  unfold reckP at q
  cases en : namedP ["is"] 2 p with
  | false =>
    rw [en] at q
    walk_at "sx"
    exact q _ k1
  | true =>
    rw [en] at q
    obtain ⟨nm, a, b, rfl, _⟩ := named2 en
    obtain ⟨j, r, x, y, rfl, rfl, sa, h1, h2⟩ := hp.two
    have sa1 := Same.sqT k1 sa
    obtain ⟨_, d2, z1, z2⟩ := two_sd hd hz
    have q' : ∀ H', Same H H' → Q (.bl (!hasK a && sumP b)) H' := q
    walk_at "sx"
    refine ⟨x, j, a, rfl, h1.same k1, by omega, fun G s1 => ?_⟩
    have s01 := k1.trans s1
    have sa2 := Same.sqT s01 sa
    cases ha : hasK a with
    | true =>
      rw [ha] at q'
      walk_at "sx"
      exact q' _ s01
    | false =>
      rw [ha] at q'
      walk_at "sx"
      exact ⟨y, b, rfl, (h2.same s01).of_depth d2, ok.two.2, fun G2 s2 => q' _ (s01.trans s2)⟩
theorem ok_is_testG {d : Nat} (F : Fun K "is_test" "is_test" s_is_test f fd) (T : Txt mg) (TG : TxG K mg) (C_is_named : HasNamedG P w K mg base) (C_is_sum : HasSumG d P w K mg base) : FnOk P w K mg base CX0 (d + 3) f fd ["reading"] (spLook K d testP) := by
  refine F.ok sc_is_test (fun vs H Q E h => ?_) (fun cdv A outer s H vs Q E hr h => ?_)
  · obtain ⟨v, k, p, rfl, _⟩ := h
    rfl
  obtain ⟨v, k, p, rfl, hp, ok, hz, hd, q⟩ := h
  obtain ⟨tp, m_TEST_SIGNS, hts⟩ := TG.tst
  refine ⟨_, (pss_one (ps_ret (pe_and (pe_callH C_is_named hr (pa_cons (pv 0) (pa_cons (pe_glob (v := .ref _) rfl m_TEST_SIGNS rfl) (pa_cons pe_int pa_nil))) (hk := by omega)) (pe_and (pe_callH C_is_sum hr (pa_cons (pe_ix (ix_tupK (K := K)) (pv 0) pe_int (fun _ _ => rfl)) pa_nil) (hk := by omega)) (pe_one (pe_callH C_is_sum hr (pa_cons (pe_ix (ix_tupK (K := K)) (pv 0) pe_int (fun _ _ => rfl)) pa_nil) (hk := by omega))))))), ?_⟩
  walk_at "sx"
  refine ⟨v, tp, k, 2, p, tests4, rfl, hp, hts H, ?_⟩
  unfold testP at q
  cases en : namedP tests4 2 p with
  | false =>
    rw [en] at q
    walk_at "sx"
    exact q _ (same_refl _)
  | true =>
    rw [en] at q
    obtain ⟨nm, a, b, rfl, _⟩ := named2 en
    obtain ⟨j, r, x, y, rfl, rfl, sa, h1, h2⟩ := hp.two
    obtain ⟨d1, d2, z1, z2⟩ := two_sd hd hz
    have q' : ∀ H', Same H H' → Q (.bl (sumP a && sumP b)) H' := q
    walk_at "sx"
    refine ⟨x, a, rfl, h1.of_depth d1, ok.two.1, fun G s1 => ?_⟩
    have sa2 := Same.sqT s1 sa
    cases ha : sumP a with
    | false =>
      rw [ha] at q'
      walk_at "sx"
      exact q' _ s1
    | true =>
      rw [ha] at q'
      walk_at "sx"
      exact ⟨y, b, rfl, (h2.same s1).of_depth d2, ok.two.2, fun G2 s2 => q' _ (s1.trans s2)⟩
theorem ok_is_rangeG {d : Nat} (F : Fun K "_is_range" "_is_range" s_is_range f fd) (T : Txt mg) (C_is_named : HasNamedG P w K mg base) (C_is_unknown : HasUnknown P w K mg base) (C_is_sum : HasSumG d P w K mg base) : FnOk P w K mg base CX0 (d + 3) f fd ["reading"] (spLook K d rangeP) := by
  refine F.ok sc_is_range (fun vs H Q E h => ?_) (fun cdv A outer s H vs Q E hr h => ?_)
  · obtain ⟨v, k, p, rfl, _⟩ := h
    rfl
  obtain ⟨v, k, p, rfl, hp, ok, hz, hd, q⟩ := h
  refine ⟨_, (pss_cons (ps_if (pt_not (pt_val (pe_callH C_is_named hr (pa_cons (pv 0) (pa_cons (pe_tup (pa_cons pe_str pa_nil)) (pa_cons pe_int pa_nil))) (hk := by omega))))
      (pss_one (ps_ret pe_bl))
      pss_nil)
    (pss_cons (ps_asg (pe_slice (sl_tupAK (K := K)) (pv 0) (po_some pe_int) po_none) (pg_tup (by rfl) (pgs_cons (pg_name (i := 1) sc_is_range.nd rfl (.inl rfl)) (pgs_cons (pg_name (i := 2) sc_is_range.nd rfl (.inl rfl)) pgs_nil))))
    (pss_one (ps_ret (pe_and (pe_callH C_is_unknown hr (pa_cons (pv 1) pa_nil) (hk := by omega)) (pe_and (pe_callH C_is_named hr (pa_cons (pv 2) (pa_cons (pe_tup (pa_cons pe_str pa_nil)) (pa_cons pe_int pa_nil))) (hk := by omega)) (pe_and (pe_callH C_is_sum hr (pa_cons (pe_ix (ix_tupK (K := K)) (pv 2) pe_int (fun _ _ => rfl)) pa_nil) (hk := by omega)) (pe_one (pe_callH C_is_sum hr (pa_cons (pe_ix (ix_tupK (K := K)) (pv 2) pe_int (fun _ _ => rfl)) pa_nil) (hk := by omega)))))))))), ?_⟩
  walk_at "sx"
  rename_i tp ntp
  have k1 : Same H (upd H tp (.tup [V.str "in"])) := same_upd ntp
  refine ⟨v, tp, k, 2, p, ["in"], rfl, hp.same k1, .of upd_same, ?_⟩
  unfold rangeP at q
  cases en : namedP ["in"] 2 p with
  | false =>
    rw [en] at q
    walk_at "sx"
    exact q _ k1
  | true =>
    rw [en] at q
    obtain ⟨nm, a, b, rfl, _⟩ := named2 en
    obtain ⟨j, r, x, y, rfl, rfl, sa, h1, h2⟩ := hp.two
    have sa1 := Same.sqT k1 sa
    obtain ⟨d1, d2, z1, z2⟩ := two_sd hd hz
    obtain ⟨o1, o2⟩ := ok.two
    have q' : ∀ H', Same H H' → Q (.bl (unk a && spanP b)) H' := q
    walk_at "sx"
    refine x_slA sa1 fun t2 G kG st2 => ?_
    rw [cut_tail] at st2
    have s01 := k1.trans kG
    walk_at "sx"
    refine ⟨x, j, a, rfl, h1.same s01, (fun z e => by subst e; exact o1), ?_⟩
    cases ha : unk a with
    | false =>
      rw [ha] at q'
      walk_at "sx"
      exact q' _ s01
    | true =>
      rw [ha] at q'
      walk_at "sx"
      rename_i tp2 ntp2
      have k3 : Same G (upd G tp2 (.tup [V.str ".."])) := same_upd ntp2
      have s03 := s01.trans k3
      refine ⟨y, tp2, j, 2, b, [".."], rfl, h2.same s03, .of upd_same, ?_⟩
      have q2 : ∀ H', Same H H' → Q (.bl (namedP [".."] 2 b && (sumP (kid 0 b) && sumP (kid 1 b)))) H' := q'
      cases en2 : namedP [".."] 2 b with
      | false =>
        rw [en2] at q2
        walk_at "sx"
        exact q2 _ s03
      | true =>
        rw [en2] at q2
        obtain ⟨nm2, a2, b2, rfl, _⟩ := named2 en2
        obtain ⟨j2, r2, x2, y2, rfl, rfl, sb, g1, g2⟩ := h2.two
        have sb3 := Same.sqT s03 sb
        obtain ⟨e1, e2, _, _⟩ := two_sd d2 z2
        obtain ⟨p1, p2⟩ := o2.two
        have q3 : ∀ H', Same H H' → Q (.bl (sumP a2 && sumP b2)) H' := q2
        walk_at "sx"
        refine ⟨x2, a2, rfl, (g1.same s03).of_depth e1, p1, fun G4 s4 => ?_⟩
        have s04 := s03.trans s4
        have sb4 := Same.sqT s04 sb
        cases hs : sumP a2 with
        | false =>
          rw [hs] at q3
          walk_at "sx"
          exact q3 _ s04
        | true =>
          rw [hs] at q3
          walk_at "sx"
          exact ⟨y2, b2, rfl, (g2.same s04).of_depth e2, p2, fun G5 s5 => q3 _ (s04.trans s5)⟩
theorem partsN_sub : ∀ (n : Nat) (p q : Pt), q ∈ partsN n p → (OkP p → OkP q) ∧ szT q ≤ szT p ∧ dpT q ≤ dpT p
  | 0, p, q, h => by
    rw [partsN, List.mem_singleton] at h
    subst h
    exact ⟨id, Nat.le_refl _, Nat.le_refl _⟩
  | n + 1, p, q, h => by
    rw [partsN] at h
    cases e : namedP ["and"] 2 p with
    | false =>
      rw [e, if_neg Bool.false_ne_true, List.mem_singleton] at h
      subst h
      exact ⟨id, Nat.le_refl _, Nat.le_refl _⟩
    | true =>
      rw [e, if_pos rfl] at h
      obtain ⟨nm, a, b, rfl, _⟩ := named2 e
      have hs : szT (.t nm [a, b]) = 1 + (szT a + szT b) := by rw [szT, szL, szL, szL]; omega
      have hd : dpT (.t nm [a, b]) = 1 + max (dpT a) (dpT b) := by rw [dpT, dpL, dpL, dpL]; omega
      rcases List.mem_cons.mp h with g | h
      · have g' : q = a := g
        rw [g']
        exact ⟨fun o => o.two.1, by omega, by omega⟩
      · obtain ⟨g1, g2, g3⟩ := partsN_sub n b q h
        exact ⟨fun o => g1 o.two.2, by omega, by omega⟩
theorem partsN_len : ∀ (n : Nat) (p : Pt), (partsN n p).length ≤ szT p
  | 0, p => by
    rw [partsN]
    exact szT_pos p
  | n + 1, p => by
    rw [partsN]
    cases e : namedP ["and"] 2 p with
    | false =>
      rw [if_neg Bool.false_ne_true]
      exact szT_pos p
    | true =>
      rw [if_pos rfl]
      obtain ⟨nm, a, b, rfl, _⟩ := named2 e
      have hs : szT (.t nm [a, b]) = 1 + (szT a + szT b) := by rw [szT, szL, szL, szL]; omega
      have := partsN_len n b
      rw [List.length_cons]
      show (partsN n b).length + 1 ≤ _
      omega
theorem all_take {α : Type} (g : α → Bool) (l : List α) (i : Nat) {x : α} (h : l[i]? = some x) (ht : (l.take i).all g = true) : (l.take (i + 1)).all g = g x := by
  rw [List.take_add_one, h, List.all_append, ht, Bool.true_and]
  simp
theorem all_no {α : Type} {g : α → Bool} {l : List α} {x : α} (h : x ∈ l) (e : g x = false) : l.all g = false := by
  rw [List.all_eq_false]
  exact ⟨x, h, by rw [e]; decide⟩
theorem ok_are_testsG {d : Nat} (F : Fun K "_are_tests" "_are_tests" s_are_tests f fd) (T : Txt mg) (C_parted_by_and : HasPartsA P w K mg base) (C_is_test : HasLook (d + 3) "is_test" d testP P w K mg base) : FnOk P w K mg base CX0 (d + 4) f fd ["reading"] (spLook K d testsP) := by
  refine F.ok sc_are_tests (fun vs H Q E h => ?_) (fun cdv A outer s H vs Q E hr h => ?_)
  · obtain ⟨v, k, p, rfl, _⟩ := h
    rfl
  obtain ⟨v, k, p, rfl, hp, ok, hz, hd, q⟩ := h
  refine ⟨_, (pss_cons (ps_set (i := 1) sc_are_tests.nd rfl (Or.inl rfl) (pe_callH C_parted_by_and hr (pa_cons (pv 0) pa_nil) (hk := by omega)))
    (pss_cons (ps_for PassesOwn.never rfl (pi_list (pv 1)) (pg_name (i := 2) sc_are_tests.nd rfl (.inl rfl))
      (pss_one (ps_if (pt_not (pt_val (pe_callH C_is_test hr (pa_cons (pv 2) pa_nil) (hk := by omega))))
      (pss_one (ps_ret pe_bl))
      pss_nil)))
    (pss_one (ps_ret (pe_cmpR op_le (pe_callB (call_lenK (K := K)) (by rfl) T.z_len (by decide +kernel) (pa_cons (pv 1) pa_nil)) (pe_globI rfl T.c_TESTS) (nomark _)))))), ?_⟩
  walk_at "sx"
  refine ⟨v, k, p, rfl, hp, hz, fun a us G na sG ea hu => ?_⟩
  have hlen := partsN_len (szT p) p
  have hlu := hu.1
  unfold testsP at q
  walk_at "sx"
  refine x_forL (K := K) (a := a) (xs := us) (fun i σ' G' => ∃ x2 : Option V, σ' = [some v, some (.ref a), x2] ∧ Same G G' ∧ ((partsA p).take i).all testP = true) ⟨none, rfl, same_refl _, rfl⟩ (fun i σ' G' _ h => by obtain ⟨_, _, h, _⟩ := h; exact .of (h _ _ ea)) ?_ ?_ (.of ea)
  · rintro i x σ' G' hx ⟨x2, rfl, sG', ht⟩
    obtain ⟨u, hu1, pu⟩ := hu.at hx
    obtain ⟨o1, o2, o3⟩ := partsN_sub (szT p) p u (List.mem_of_getElem? hu1)
    walk_at "sx"
    refine ⟨x, k, u, rfl, pu.same sG', o1 ok, by omega, by omega, fun G2 s2 => ?_⟩
    cases et : testP u with
    | false =>
      walk_at "sx"
      rw [all_no (List.mem_of_getElem? hu1) et, Bool.false_and] at q
      exact q _ ((sG.trans sG').trans s2)
    | true =>
      walk_at "sx"
      exact ⟨_, rfl, sG'.trans s2, by rw [all_take _ _ _ hu1 ht, et]⟩
  · rintro σ' G' ⟨x2, rfl, sG', ht⟩
    have ea' := sG' _ _ ea
    rw [hlu, List.take_length] at ht
    rw [ht, Bool.true_and] at q
    walk_at "sx"
    have e : decide ((us.length : Int) ≤ 4) = decide ((partsA p).length ≤ 4) := by
      rw [decide_eq_decide, hlu]
      omega
    rw [e]
    exact q _ (sG.trans sG')
theorem range_parts {p : Pt} (h : rangeP p = true) : ∃ z s, p = .t "in" [.s z, s] ∧ unkS z = true ∧ spanP s = true ∧ rname p = z := by
  unfold rangeP at h
  rw [Bool.and_eq_true, Bool.and_eq_true] at h
  obtain ⟨h1, h2, h3⟩ := h
  obtain ⟨nm, a, b, rfl, hn⟩ := named2 h1
  rw [List.mem_singleton] at hn
  subst hn
  have h2' : unk a = true := h2
  cases a with
  | i n => cases h2'
  | t nm ps => cases h2'
  | s z => exact ⟨z, b, rfl, h2', h3, rfl⟩
theorem ok_is_boxG {d : Nat} (F : Fun K "_is_box" "_is_box" s_is_box f fd) (T : Txt mg) (C_parted_by_and : HasPartsA P w K mg base) (C_is_range : HasLook (d + 3) "_is_range" d rangeP P w K mg base) (C_unknowns_of : Has P w K mg base 2 "unknowns_of" ["pattern"] (spUnknowns K)) : FnOk P w K mg base CX0 (d + 4) f fd ["reading"] (spLook K d boxP) := by
  refine F.ok sc_is_box (fun vs H Q E h => ?_) (fun cdv A outer s H vs Q E hr h => ?_)
  · obtain ⟨v, k, p, rfl, _⟩ := h
    rfl
  obtain ⟨v, k, p, rfl, hp, ok, hz, hd, q⟩ := h
  refine ⟨_, (pss_cons (ps_set (i := 1) sc_is_box.nd rfl (Or.inl rfl) (pe_callH C_parted_by_and hr (pa_cons (pv 0) pa_nil) (hk := by omega)))
    (pss_cons (ps_for PassesOwn.never rfl (pi_list (pv 1)) (pg_name (i := 2) sc_is_box.nd rfl (.inl rfl))
      (pss_one (ps_if (pt_not (pt_val (pe_callH C_is_range hr (pa_cons (pv 2) pa_nil) (hk := by omega))))
      (pss_one (ps_ret pe_bl))
      pss_nil)))
    (pss_cons (ps_setLc (i := 3) (own := [("part", 2)]) (g := gName 2) (tt := tYes) rfl sc_is_box.nd rfl rfl (sw_true rfl rfl rfl (by decide +kernel)) (pi_list (pv 1)) (blkOk_by (own := [("part", 2)]) (N := ["reading", "ranges", "part", "names", "unknown"]) (sc := defScope s_is_box) (by decide +kernel)) (fun _ _ _ _ _ => pg_name (i := 2) sc_is_box.nd rfl (Or.inl rfl)) (fun _ _ _ _ _ => pts_nil) (fun _ _ _ _ _ => (pe_ix (ix_tupK (K := K)) (pv 2) pe_int (fun _ _ => rfl))))
    (pss_cons (ps_if (PW.pt (pw_or (pt_cmpR op_gt (pe_callB (call_lenK (K := K)) (by rfl) T.z_len (by decide +kernel) (pa_cons (pv 1) pa_nil)) (pe_globI rfl T.c_RANGES) (nomark _)) (pw_or1 (pt_cmpR op_lt (pe_lenTx rfl T.z_len rfl T.z_set (pv 3)) (pe_callB (call_lenK (K := K)) (by rfl) T.z_len (by decide +kernel) (pa_cons (pv 3) pa_nil)) (nomark _)))))
      (pss_one (ps_ret pe_bl))
      pss_nil)
    (pss_cons (ps_for PassesOwn.never rfl (pi_list (pv 1)) (pg_name (i := 2) sc_is_box.nd rfl (.inl rfl))
      (pss_one (ps_for PassesOwn.never rfl (pi_list (pe_callH C_unknowns_of hr (pa_cons (pe_ix (ix_tupK (K := K)) (pv 2) pe_int (fun _ _ => rfl)) pa_nil) (hk := by omega))) (pg_name (i := 4) sc_is_box.nd rfl (.inl rfl))
      (pss_one (ps_if (pt_cmpR (op_inK (K := K)) (pv 4) (pv 3) (by first | exact nomark _ | rfl))
      (pss_one (ps_ret pe_bl))
      pss_nil)))))
    (pss_one (ps_ret pe_bl))))))), ?_⟩
  walk_at "sx"
  refine ⟨v, k, p, rfl, hp, hz, fun a us G na sG ea hu => ?_⟩
  have hlen := partsN_len (szT p) p
  have hlu := hu.1
  have hmem : ∀ u ∈ partsA p, (OkP p → OkP u) ∧ szT u ≤ szT p ∧ dpT u ≤ dpT p := fun u h => partsN_sub (szT p) p u h
  unfold boxP at q
  generalize hrs : partsA p = rs at *
  have hlen' : rs.length ≤ szT p := by
    rw [← hrs]
    exact hlen
  walk_at "sx"
  refine x_forL (K := K) (a := a) (xs := us) (fun i σ' G' => ∃ x2 : Option V, σ' = [some v, some (.ref a), x2, none, none] ∧ Same G G' ∧ (rs.take i).all rangeP = true) ⟨none, rfl, same_refl _, rfl⟩ (fun i σ' G' _ h => by obtain ⟨_, _, h, _⟩ := h; exact .of (h _ _ ea)) ?_ ?_ (.of ea)
  · rintro i x σ' G' hx ⟨x2, rfl, sG', ht⟩
    obtain ⟨u, hu1, pu⟩ := hu.at hx
    obtain ⟨o1, o2, o3⟩ := hmem u (List.mem_of_getElem? hu1)
    walk_at "sx"
    refine ⟨x, k, u, rfl, pu.same sG', o1 ok, by omega, by omega, fun G2 s2 => ?_⟩
    cases et : rangeP u with
    | false =>
      walk_at "sx"
      rw [all_no (List.mem_of_getElem? hu1) et, Bool.false_and, Bool.false_and] at q
      exact q _ ((sG.trans sG').trans s2)
    | true =>
      walk_at "sx"
      exact ⟨_, rfl, sG'.trans s2, by rw [all_take _ _ _ hu1 ht, et]⟩
  · rintro σ' G' ⟨x2, rfl, sG', ht⟩
    have ea' := sG' _ _ ea
    have s0' := sG.trans sG'
    rw [hlu, List.take_length] at ht
    rw [ht, Bool.true_and] at q
    have allr : ∀ u ∈ rs, rangeP u = true := List.all_eq_true.mp ht
    have hu' := hu.same sG'
    walk_at "sx"
    refine x_lcML (R := fun H v p => PtAt K H k v p) (S := fun _ v (y : Str) => v = .str y) rname (.of ea') (fun G k => .of (k _ _ ea')) ⟨hu'.1, hu'.2⟩ (fun s h => h.same s) (fun _ _ _ _ _ h => h) (by omega) (fun G3 v3 u kG hm hv Q' P' q' => ?_) (fun D G3 us3 hD kG eD hu3 => ?_)
    · obtain ⟨z, sp, rfl, _, _, en⟩ := range_parts (allr u hm)
      obtain ⟨j, r, x, y, rfl, rfl, sa, g1, g2⟩ := hv.two
      obtain ⟨j', rfl⟩ : ∃ j', j = j' + 1 := by
        cases j with
        | zero => exact g1.elim
        | succ j' => exact ⟨j', rfl⟩
      have ex : x = .str z := g1
      subst ex
      walk_at "sx"
      refine ⟨rfl, ?_⟩
      walk_at "sx"
      exact q' _ _ (same_refl _) (by rw [en])
    have eus : us3 = (rs.map rname).map V.str := by
      refine List.ext_getElem? fun i => ?_
      cases e : us3[i]? with
      | none =>
        have h1 := List.getElem?_eq_none_iff.mp e
        have := hu3.1
        exact (List.getElem?_eq_none (by rw [List.length_map]; omega)).symm
      | some v =>
        have hi := (List.getElem?_eq_some_iff.mp e).1
        have h1 := hu3.1
        have h2 : (rs.map rname)[i]? = some ((rs.map rname)[i]'(by omega)) := List.getElem?_eq_getElem _
        have h3 := hu3.2 i v _ e h2
        rw [List.getElem?_map, h2, h3]
        rfl
    subst eus
    have ea3 := kG _ _ ea'
    have s03 := s0'.trans kG
    walk_at "sx"
    refine x_ite (fun c => ?_) (fun c => ?_)
    · have c' : 3 < rs.length := by
        have : (3 : Int) < (us.length : Int) := c
        omega
      walk_at "sx"
      rw [decide_eq_true c', Bool.true_or] at q
      exact q _ s03
    have c' : ¬ 3 < rs.length := fun h => c (by show (3 : Int) < (us.length : Int); omega)
    rw [decide_eq_false c', Bool.false_or] at q
    walk_at "sx"
    refine x_lenTx ?_
    walk_at "sx"
    refine ⟨D, rs.map rname, rfl, .of eD, by rw [List.length_map]; omega, ?_⟩
    walk_at "sx"
    refine x_ite (fun c2 => ?_) (fun c2 => ?_)
    · have c2' : (once (rs.map rname)).length < rs.length := by
        have : ((once (rs.map rname)).length : Int) < (((rs.map rname).map V.str).length : Int) := c2
        rw [List.length_map, List.length_map] at this
        omega
      walk_at "sx"
      rw [decide_eq_true c2'] at q
      exact q _ s03
    have c2' : ¬ (once (rs.map rname)).length < rs.length := fun h => c2 (by
      show ((once (rs.map rname)).length : Int) < (((rs.map rname).map V.str).length : Int)
      rw [List.length_map, List.length_map]
      omega)
    rw [decide_eq_false c2'] at q
    have q2 : ∀ H', Same H H' → Q (.bl (rs.all fun r => (once (nmT (kid 1 r))).all fun u => !decide (u ∈ rs.map rname))) H' := q
    walk_at "sx"
    refine x_forL (K := K) (a := a) (xs := us) (fun i σ' G' => ∃ x2 x4 : Option V, σ' = [some v, some (.ref a), x2, some (.ref D), x4] ∧ Same G3 G' ∧ ((rs.take i).all fun r => (once (nmT (kid 1 r))).all fun u => !decide (u ∈ rs.map rname)) = true) ⟨_, none, rfl, same_refl _, rfl⟩ (fun i σ' G' _ h => by obtain ⟨_, _, _, h, _⟩ := h; exact .of (h _ _ ea3)) ?_ ?_ (.of ea3)
    · rintro i x σ' G4 hx ⟨x2, x4, rfl, s4, ht4⟩
      obtain ⟨u, hu1, pu⟩ := hu.at hx
      have hur := List.mem_of_getElem? hu1
      obtain ⟨o1, o2, o3⟩ := hmem u hur
      obtain ⟨z, sp, rfl, _, _, en⟩ := range_parts (allr u hur)
      have s34 := (sG'.trans kG).trans s4
      obtain ⟨j, r, x, y, rfl, rfl, sa, g1, g2⟩ := (pu.same s34).two
      rw [szT, szL, szL, szL] at o2
      walk_at "sx"
      refine ⟨y, j, sp, fun _ => True, rfl, g2, (o1 ok).two.2, by omega, fun la G5 nla s5 ela => ?_⟩
      have eD5 := s5 _ _ (s4 _ _ eD)
      walk_at "sx"
      refine x_forL (K := K) (a := la) (xs := (once (nmT sp)).map V.str) (fun m σ' G' => ∃ x4 : Option V, σ' = [some v, some (.ref a), some (.ref r), some (.ref D), x4] ∧ Same G5 G' ∧ (((once (nmT sp)).take m).all fun u => !decide (u ∈ rs.map rname)) = true) ⟨_, rfl, same_refl _, rfl⟩ (fun m σ' G' _ h => by obtain ⟨_, _, h, _⟩ := h; exact .of (h _ _ ela)) ?_ ?_ (.of ela)
      · rintro m y2 σ' G6 hy2 ⟨x5, rfl, s6, ht6⟩
        obtain ⟨z2, hz2, rfl⟩ : ∃ z2, (once (nmT sp))[m]? = some z2 ∧ y2 = .str z2 := by
          rw [List.getElem?_map] at hy2
          cases e : (once (nmT sp))[m]? with
          | none =>
            rw [e] at hy2
            cases hy2
          | some z2 =>
            rw [e] at hy2
            exact ⟨z2, rfl, (Option.some.inj hy2).symm⟩
        walk_at "sx"
        refine ⟨D, _, rfl, .inl (.of (s6 _ _ eD5)), rfl, by rw [List.all_map]; exact List.all_eq_true.mpr fun _ _ => rfl, ?_⟩
        have e0 : (if false = true then !inV (V.str z2) ((rs.map rname).map V.str) else inV (V.str z2) ((rs.map rname).map V.str)) = decide (z2 ∈ rs.map rname) := by
          rw [if_neg Bool.false_ne_true, inV_strs]
        rw [e0]
        by_cases hin : z2 ∈ rs.map rname
        · rw [decide_eq_true hin]
          walk_at "sx"
          have e1 : (rs.all fun r => (once (nmT (kid 1 r))).all fun u => !decide (u ∈ rs.map rname)) = false := all_no hur (all_no (l := once (nmT (kid 1 (.t "in" [.s z, sp])))) (List.mem_of_getElem? hz2) (by rw [decide_eq_true hin]; rfl))
          rw [e1] at q2
          exact q2 _ (((s03.trans s4).trans s5).trans s6)
        · rw [decide_eq_false hin]
          walk_at "sx"
          exact ⟨_, rfl, s6, by rw [all_take _ _ _ hz2 ht6, decide_eq_false hin]; rfl⟩
      · rintro σ' G6 ⟨x5, rfl, s6, ht6⟩
        rw [List.length_map, List.take_length] at ht6
        walk_at "sx"
        exact ⟨_, _, rfl, (s4.trans s5).trans s6, by rw [all_take _ _ _ hu1 ht4]; exact ht6⟩
    · rintro σ' G4 ⟨x2, x4, rfl, s4, ht4⟩
      rw [hlu, List.take_length] at ht4
      rw [ht4] at q2
      walk_at "sx"
      exact q2 _ (s03.trans s4)
theorem ok_is_fieldG {d : Nat} (F : Fun K "is_field" "is_field" s_is_field f fd) (T : Txt mg) (C_is_named : HasNamedG P w K mg base) (C_is_box : HasLook (d + 4) "_is_box" d boxP P w K mg base) (C_are_tests : HasLook (d + 4) "_are_tests" d testsP P w K mg base) : FnOk P w K mg base CX0 (d + 5) f fd ["reading"] (spLook K d fieldQ) := by
  refine F.ok sc_is_field (fun vs H Q E h => ?_) (fun cdv A outer s H vs Q E hr h => ?_)
  · obtain ⟨v, k, p, rfl, _⟩ := h
    rfl
  obtain ⟨v, k, p, rfl, hp, ok, hz, hd, q⟩ := h
  refine ⟨_, (pss_cons (ps_if (pt_val (pe_callH C_is_named hr (pa_cons (pv 0) (pa_cons (pe_tup (pa_cons pe_str pa_nil)) (pa_cons pe_int pa_nil))) (hk := by omega)))
      (pss_one (ps_ret (pe_and (pe_callH C_is_box hr (pa_cons (pe_ix (ix_tupK (K := K)) (pv 0) pe_int (fun _ _ => rfl)) pa_nil) (hk := by omega)) (pe_one (pe_callH C_are_tests hr (pa_cons (pe_ix (ix_tupK (K := K)) (pv 0) pe_int (fun _ _ => rfl)) pa_nil) (hk := by omega))))))
      pss_nil)
    (pss_one (ps_ret (pe_callH C_is_box hr (pa_cons (pv 0) pa_nil) (hk := by omega))))), ?_⟩
  walk_at "sx"
  rename_i tp ntp
  have k1 : Same H (upd H tp (.tup [V.str "such"])) := same_upd ntp
  refine ⟨v, tp, k, 2, p, ["such"], rfl, hp.same k1, .of upd_same, ?_⟩
  unfold fieldQ at q
  cases en : namedP ["such"] 2 p with
  | false =>
    rw [en] at q
    walk_at "sx"
    exact ⟨v, k, p, rfl, hp.same k1, ok, hz, hd, fun G s1 => q _ (k1.trans s1)⟩
  | true =>
    rw [en] at q
    obtain ⟨nm, a, b, rfl, _⟩ := named2 en
    obtain ⟨j, r, x, y, rfl, rfl, sa, h1, h2⟩ := hp.two
    have sa1 := Same.sqT k1 sa
    obtain ⟨d1, d2, z1, z2⟩ := two_sd hd hz
    have q' : ∀ H', Same H H' → Q (.bl (boxP a && testsP b)) H' := q
    walk_at "sx"
    refine ⟨x, j, a, rfl, h1.same k1, ok.two.1, z1, d1, fun G s1 => ?_⟩
    have s01 := k1.trans s1
    have sa2 := Same.sqT s01 sa
    cases hb : boxP a with
    | false =>
      rw [hb] at q'
      walk_at "sx"
      exact q' _ s01
    | true =>
      rw [hb] at q'
      walk_at "sx"
      exact ⟨y, j, b, rfl, h2.same s01, ok.two.2, z2, d2, fun G2 s2 => q' _ (s01.trans s2)⟩
theorem ok_is_goalG {d : Nat} (F : Fun K "is_goal" "is_goal" s_is_goal f fd) (T : Txt mg) (C_is_relation : HasLook 3 "is_relation" d relP P w K mg base) (C_is_not : HasLook 4 "is_not" d notP P w K mg base) (C_is_likeness : HasLook 3 "is_likeness" d likeP P w K mg base) (C_is_reckoning : HasLook (d + 3) "is_reckoning" d reckP P w K mg base) (C_is_test : HasLook (d + 3) "is_test" d testP P w K mg base) (C_is_field : HasLook (d + 5) "is_field" d fieldQ P w K mg base) : FnOk P w K mg base CX0 (d + 6) f fd ["reading"] (spLook K d goalP) := by
  refine F.ok sc_is_goal (fun vs H Q E h => ?_) (fun cdv A outer s H vs Q E hr h => ?_)
  · obtain ⟨v, k, p, rfl, _⟩ := h
    rfl
  obtain ⟨v, k, p, rfl, hp, ok, hz, hd, q⟩ := h
  refine ⟨_, (pss_one (ps_ret (pe_or (pe_callH C_is_relation hr (pa_cons (pv 0) pa_nil) (hk := by omega)) (pe_or (pe_callH C_is_not hr (pa_cons (pv 0) pa_nil) (hk := by omega)) (pe_or (pe_callH C_is_likeness hr (pa_cons (pv 0) pa_nil) (hk := by omega)) (pe_or (pe_callH C_is_reckoning hr (pa_cons (pv 0) pa_nil) (hk := by omega)) (pe_or (pe_callH C_is_test hr (pa_cons (pv 0) pa_nil) (hk := by omega)) (pe_one (pe_callH C_is_field hr (pa_cons (pv 0) pa_nil) (hk := by omega)))))))))), ?_⟩
  unfold goalP at q
  walk_at "sx"
  refine ⟨v, k, p, rfl, hp, ok, hz, hd, fun G1 s1 => ?_⟩
  cases e1 : relP p with
  | true => rw [e1] at q; walk_at "sx"; exact q _ s1
  | false =>
  rw [e1, Bool.false_or] at q
  walk_at "sx"
  refine ⟨v, k, p, rfl, hp.same s1, ok, hz, hd, fun G2 s2 => ?_⟩
  have s12 := s1.trans s2
  cases e2 : notP p with
  | true => rw [e2] at q; walk_at "sx"; exact q _ s12
  | false =>
  rw [e2, Bool.false_or] at q
  walk_at "sx"
  refine ⟨v, k, p, rfl, hp.same s12, ok, hz, hd, fun G3 s3 => ?_⟩
  have s13 := s12.trans s3
  cases e3 : likeP p with
  | true => rw [e3] at q; walk_at "sx"; exact q _ s13
  | false =>
  rw [e3, Bool.false_or] at q
  walk_at "sx"
  refine ⟨v, k, p, rfl, hp.same s13, ok, hz, hd, fun G4 s4 => ?_⟩
  have s14 := s13.trans s4
  cases e4 : reckP p with
  | true => rw [e4] at q; walk_at "sx"; exact q _ s14
  | false =>
  rw [e4, Bool.false_or] at q
  walk_at "sx"
  refine ⟨v, k, p, rfl, hp.same s14, ok, hz, hd, fun G5 s5 => ?_⟩
  have s15 := s14.trans s5
  cases e5 : testP p with
  | true => rw [e5] at q; walk_at "sx"; exact q _ s15
  | false =>
  rw [e5, Bool.false_or] at q
  walk_at "sx"
  exact ⟨v, k, p, rfl, hp.same s15, ok, hz, hd, fun G6 s6 => q _ (s15.trans s6)⟩
end
end Gs
namespace Gs
open PySem PySem.Spec PyProof.Rows L2 TL SrtK
abbrev s_law_free : Stmt := PySem.Challenge.pw_goalstead_k14_goals_by_their_shapes.main.body.getD 77 (.Pass ⟨0, 0, 0, 0⟩)
theorem sc_law_free : FnScope ["word", "ops", "barred", "turn", "row"] ["word", "ops"] (defScope s_law_free) := ⟨rfl, rfl, rfl, by decide +kernel, rfl, by decide +kernel, by decide +kernel⟩
abbrev s_law_leaf : Stmt := PySem.Challenge.pw_goalstead_k14_goals_by_their_shapes.main.body.getD 79 (.Pass ⟨0, 0, 0, 0⟩)
theorem sc_law_leaf : FnScope ["pool", "ops", "way"] ["pool", "ops"] (defScope s_law_leaf) := ⟨rfl, rfl, rfl, by decide +kernel, rfl, by decide +kernel, by decide +kernel⟩
abbrev s_law_pattern : Stmt := PySem.Challenge.pw_goalstead_k14_goals_by_their_shapes.main.body.getD 80 (.Pass ⟨0, 0, 0, 0⟩)
theorem sc_law_pattern : FnScope ["pool", "ops", "top", "deep", "rows", "pile", "turn", "many", "name", "row", "made"] ["pool", "ops", "top", "deep"] (defScope s_law_pattern) := ⟨rfl, rfl, rfl, by decide +kernel, rfl, by decide +kernel, by decide +kernel⟩
theorem cut_drop20 {xs : List V} {j : Nat} (h : j ≤ xs.length) : cutV xs (some (j : Int)) none = xs.drop j := by
  unfold cutV
  rw [HT.sIx_none, HT.sIx_nat, Nat.min_eq_left h]
  rw [List.take_of_length_le (by rw [List.length_drop]; omega)]
theorem cut_take20 {xs : List V} {j : Nat} (h : j ≤ xs.length) : cutV xs none (some (j : Int)) = xs.take j := by
  unfold cutV
  rw [HT.sIx_none, HT.sIx_nat, Nat.min_eq_left h, List.drop_zero, Nat.sub_zero]
theorem PtsAt.all20 {K : PySem.W.Frag} {H : Hp} {k : Nat} {vs : List V} {ps : List Pt} (r : PtsAt K H k vs ps) {j : Nat} (h : dpL ps ≤ j) : PtsAt K H j vs ps :=
  ⟨r.1, fun i y u h1 h2 => (r.2 i y u h1 h2).of_depth (Nat.le_trans (dpL_mem (List.mem_of_getElem? h2)) h)⟩
theorem own_head : ∀ o ∈ ownL, (∃ c t, tl o.n = c :: t ∧ (c ∈ sS ∨ c ∈ sM)) ∧ (o.n ∈ keptL ∨ o.n = ("mod" : Str) ∨ ∃ c t, tl o.n = c :: t ∧ c ∈ sM) := by
  have h : (ownL.all fun o => match tl o.n with | [] => false | c :: t => decide ((c ∈ sS ∨ c ∈ sM) ∧ (o.n ∈ keptL ∨ o.n = ("mod" : Str) ∨ c ∈ sM))) = true := by decide +kernel
  intro o ho
  have h2 := List.all_eq_true.mp h o ho
  cases e : tl o.n with
  | nil =>
    rw [e] at h2
    cases h2
  | cons c t =>
    rw [e] at h2
    obtain ⟨h3, h4⟩ := of_decide_eq_true h2
    refine ⟨⟨c, t, rfl, h3⟩, ?_⟩
    rcases h4 with h4 | h4 | h4
    · exact .inl h4
    · exact .inr (.inl h4)
    · exact .inr (.inr ⟨c, t, rfl, h4⟩)
/-- the first sign of an operator's name -/
theorem rows_head {ops : List Op} (k : OpsOk ops) : ∀ o ∈ ownL ++ ops, ∃ c t, tl o.n = c :: t ∧ (c ∈ sS ∨ c ∈ sM) := fun o ho => by
  rcases List.mem_append.mp ho with ho | ho
  · exact (own_head o ho).1
  · obtain ⟨way, c, t, e, h⟩ := k.nm o ho
    have hl := k.lc o ho c t e
    rcases h with ⟨_, hc, _⟩ | ⟨_, hc, _⟩ | ⟨_, hc, _⟩
    · exact ⟨c, t, e, .inl hc⟩
    · exact absurd hc hl
    · exact ⟨c, t, e, .inr hc⟩
/-- no operator begins so -/
theorem row_no {ops : List Op} (k : OpsOk ops) {z : Str} {c : Nat} {t : List Nat} (e : tl z = c :: t) (h1 : c ∉ sS) (h2 : c ∉ sM) (many : Nat) : rowOf (ownL ++ ops) z many = none := by
  cases er : rowOf (ownL ++ ops) z many with
  | none => rfl
  | some o =>
    obtain ⟨ho, hn, _⟩ := rowOf_some er
    obtain ⟨c', t', e', h⟩ := rows_head k o ho
    rw [hn, e] at e'
    obtain ⟨rfl, _⟩ := List.cons.inj e'
    exact absurd h (fun z => z.elim h1 h2)
theorem tab_ok {ops : List Op} (k : OpsOk ops) : TabOk (ownL ++ ops) := by
  refine ⟨rows_lv k, k.sid, fun z hz => ?_⟩
  have : ∃ c, tl z = [c] ∧ (c = 40 ∨ c = 41 ∨ c = 44) := by
    simp only [List.mem_cons, List.not_mem_nil, or_false] at hz
    rcases hz with rfl | rfl | rfl
    · exact ⟨40, tl_op, .inl rfl⟩
    · exact ⟨41, tl_cl, .inr (.inl rfl)⟩
    · exact ⟨44, by decide +kernel, .inr (.inr rfl)⟩
  obtain ⟨c, e, hc⟩ := this
  have h1 : c ∉ sS := by rw [sS_iff]; omega
  have h2 : c ∉ sM := by rcases hc with rfl | rfl | rfl <;> decide
  exact ⟨row_no k e h1 h2 1, row_no k e h1 h2 2⟩
theorem fig_no {ops : List Op} (k : OpsOk ops) (n : Int) (many : Nat) : rowOf (ownL ++ ops) (figS n) many = none := by
  have e := figS_tl n
  rw [figT] at e
  by_cases hm : n < 0
  · rw [if_pos hm] at e
    exact row_no k e (by decide) (by decide) many
  · rw [if_neg hm] at e
    cases en : numL n.toNat with
    | nil => exact absurd en (numL_ne _)
    | cons c t =>
      have hd := numL_D n.toNat c (by rw [en]; exact List.mem_cons_self ..)
      have := sD_iff.mp hd
      refine row_no k (by rw [e, en]) (by rw [sS_iff]; omega) (fun hm => ?_) many
      have := sM_all hm
      omega
/-- a word free of operators -/
def FreeW (ops : List Op) (z : Str) : Prop := NameOk 0 (tl z) ∧ z ∉ keptL ∧ z ≠ ("mod" : Str) ∧ ∀ o ∈ ops, o.n ≠ z
theorem free_wd {ops : List Op} {z : Str} (h : FreeW ops z) : Wd (ownL ++ ops) z := by
  obtain ⟨hn, hk, hm, ho⟩ := h
  have l12 := (NmOk.len ⟨_, hn⟩)
  obtain ⟨c, t, e, hh⟩ := hn
  have hc : c ∈ sS := by
    rcases hh with ⟨_, hc, _⟩ | ⟨h, _⟩ | ⟨h, _⟩
    · exact hc
    · exact absurd h (by decide)
    · exact absurd h (by decide)
  have no : ∀ many, rowOf (ownL ++ ops) z many = none := fun many => by
    cases er : rowOf (ownL ++ ops) z many with
    | none => rfl
    | some o =>
      obtain ⟨hoR, hn, _⟩ := rowOf_some er
      rcases List.mem_append.mp hoR with hoR | hoR
      · rcases (own_head o hoR).2 with h | h | ⟨c', t', e', h⟩
        · exact absurd (hn ▸ h) hk
        · exact absurd (hn.symm.trans h) hm
        · rw [hn, e] at e'
          obtain ⟨rfl, _⟩ := List.cons.inj e'
          have := sM_all h
          have := sS_iff.mp hc
          omega
      · exact absurd hn (ho o hoR)
  exact ⟨⟨c, t, e, hc⟩, hk, no 1, no 2, l12⟩
theorem cap_unk {ops : List Op} (k : OpsOk ops) {z : Str} (h : NameOk 1 (tl z)) : Unk (ownL ++ ops) z := by
  have l12 := (NmOk.len ⟨_, h⟩)
  obtain ⟨c, t, e, hh⟩ := h
  have hc : c ∈ sC := by
    rcases hh with ⟨h, _⟩ | ⟨_, hc, _⟩ | ⟨h, _⟩
    · exact absurd h (by decide)
    · exact hc
    · exact absurd h (by decide)
  have := sC_iff.mp hc
  refine ⟨⟨c, t, e, hc⟩, row_no k e (by rw [sS_iff]; omega) (fun hm => ?_) 1, l12⟩
  have := sM_all hm
  omega
theorem sub_len {α : Type} [DecidableEq α] : ∀ {l m : List α}, l.Nodup → (∀ x ∈ l, x ∈ m) → l.length ≤ m.length
  | [], _, _, _ => Nat.zero_le _
  | x :: r, m, nd, h => by
    obtain ⟨h1, h2⟩ := List.nodup_cons.mp nd
    have hx := h x (List.mem_cons_self ..)
    have := sub_len (m := m.erase x) h2 fun y hy => (List.mem_erase_of_ne (fun z => h1 (by rw [z] at hy; exact hy))).mpr (h y (List.mem_cons_of_mem _ hy))
    rw [List.length_erase_of_mem hx] at this
    have := List.length_pos_of_mem hx
    rw [List.length_cons]
    omega
def zt (i : Nat) : Str := ("z" : Str) ++ Str.ofString (toString ((i : Nat) : Int))
theorem zt_nd : ((List.range 20).map zt).Nodup := by decide +kernel
theorem zt_no : ∀ z ∈ (List.range 20).map zt, z ∉ keptL ∧ z ≠ ("mod" : Str) := by decide +kernel
theorem zt_nm {i : Nat} (h : i < 20) : NameOk 0 (tl (zt i)) := by
  have hl := numL_len (k := 2) (n := i) (by decide) (by omega)
  refine ⟨122, numL i, ?_, .inl ⟨rfl, by decide, fun x hx => List.mem_append_right _ (numL_D i x hx), by omega⟩⟩
  show tl (("z" : Str) ++ Str.ofString (toString ((i : Nat) : Int))) = _
  rw [tl_append, tl_num, show tl ("z" : Str) = [122] from by decide +kernel]
  rfl
/-- not all of twenty words are barred -/
theorem zt_free {ops : List Op} (k : OpsOk ops) (h : ∀ i < 20, zt i ∈ keptL ++ [("mod" : Str)] ++ ops.map (·.n)) : False := by
  have hs : ∀ z ∈ (List.range 20).map zt, z ∈ ops.map (·.n) := fun z hz => by
    obtain ⟨i, hi, rfl⟩ := List.mem_map.mp hz
    have no := zt_no _ hz
    have := h i (List.mem_range.mp hi)
    rcases List.mem_append.mp this with h1 | h1
    · rcases List.mem_append.mp h1 with h1 | h1
      · exact absurd h1 no.1
      · exact absurd (List.mem_singleton.mp h1) no.2
    · exact h1
  have := sub_len zt_nd hs
  rw [List.length_map, List.length_map, List.length_range] at this
  have := k.len
  omega
def spFree (K : PySem.W.Frag) : Sp := fun vs H Q _ => ∃ (z : Str) (a : Addr) (es : List V) (ops : List Op), vs = [.str z, .ref a] ∧ NameOk 0 (tl z) ∧ H a = some (.lst es) ∧ RowsAt K H es ops ∧ OpsOk ops ∧ ∀ y H', Same H H' → FreeW ops y → Q (.str y) H'
section
variable {P : Program} {w : World} {K : PySem.W.Frag} {mg : Str → Option Value} {base : Heap} {f : Addr} {fd : FuncData}
def HasFree (P : Program) (w : World) (K : PySem.W.Frag) (mg : Str → Option Value) (base : Heap) : Prop := Has P w K mg base 2 "_law_free" ["word", "ops"] (spFree K)
theorem ok_law_free (F : Fun K "_law_free" "_law_free" s_law_free f fd) (T : Txt mg) (C_law_kept : HasKept P w K mg base) : FnOk P w K mg base CX0 2 f fd ["word", "ops"] (spFree K) := by
  refine F.ok sc_law_free (fun vs H Q E h => ?_) (fun cdv A outer s H vs Q E hr h => ?_)
  · obtain ⟨z, a, es, ops, rfl, _⟩ := h
    rfl
  obtain ⟨z, a, es, ops, rfl, hz, ha, hro, oko, q⟩ := h
  have l7 := oko.len
  have hes : es.length = ops.length := hro.1
  refine ⟨_, (pss_cons (ps_set (i := 2) sc_law_free.nd rfl (Or.inl rfl) (pe_op op_cat (pe_op op_cat (pe_callH0 C_law_kept hr) (pe_lst (pa_cons pe_str pa_nil))) (pe_lc (own := [("row", 4)]) (g := gName 4) (tt := tYes) rfl sc_law_free.nd (pi_list (pv 1)) (blkOk_by (own := [("row", 4)]) (N := ["word", "ops", "barred", "turn", "row"]) (sc := defScope s_law_free) (by decide +kernel)) (fun _ _ _ _ _ => pg_name (i := 4) sc_law_free.nd rfl (Or.inl rfl)) (fun _ _ _ _ _ => pts_nil) (fun _ _ _ _ _ => (pe_ix (ix_tupK (K := K)) (pv 4) pe_int (fun _ _ => rfl))))))
    (pss_cons (ps_for PassesOwn.never rfl (pi_range1 (by rfl) T.z_range (pa_cons pe_int pa_nil)) (pg_name (i := 3) sc_law_free.nd rfl (.inl rfl))
      (pss_one (ps_if (pt_cmpR (op_inK (K := K)) (pv 0) (pv 2) (by first | exact nomark _ | rfl))
      (pss_one (ps_set (i := 0) sc_law_free.nd rfl (Or.inl rfl) (pe_op op_add_str pe_str (pe_callTy call_str_int (by rfl) T.z_str (by decide +kernel) (pa_cons (pv 3) pa_nil)))))
      pss_nil)))
    (pss_one (ps_ret (pv 0))))), ?_⟩
  walk_at "sx"
  refine ⟨rfl, fun kq G nk hk sk => ?_⟩
  walk_at "sx"
  rename_i o1 no1 o2 no2
  have s1 := same_upd (o := .lst [.str ("mod" : Str)]) no1
  have s2 := same_upd (o := .lst (keptL.map V.str ++ [.str ("mod" : Str)])) no2
  have sA := (sk.trans s1).trans s2
  have aA := sA _ _ ha
  have rA := hro.same sA
  have o22 : upd (upd G o1 (.lst [.str ("mod" : Str)])) o2 (.lst (keptL.map V.str ++ [.str ("mod" : Str)])) o2 = some (.lst (keptL.map V.str ++ [.str ("mod" : Str)])) := upd_same
  generalize upd (upd G o1 (.lst [.str ("mod" : Str)])) o2 (.lst (keptL.map V.str ++ [.str ("mod" : Str)])) = G2 at *
  walk_at "sx"
  refine x_lcML (R := fun H v (o : Op) => ∃ t, v = .ref t ∧ SqT K H t (rowV o)) (S := fun H v (y : Str) => v = .str y) (fun o => o.n) (.of aA) (fun G' k' => .of (k' _ _ aA)) ⟨rA.1, rA.2⟩ (fun s ⟨t, e, h⟩ => ⟨t, e, Same.sqT s h⟩) (fun _ _ _ _ _ h => h) (by omega) (fun G3 v x kG hx hv Q' P' q' => ?_) (fun D G3 us hD kG eD hu => ?_)
  · obtain ⟨t, rfl, st⟩ := hv
    walk_at "sx"
    refine ⟨rfl, ?_⟩
    walk_at "sx"
    exact q' _ _ (same_refl _) rfl
  have eus : us = (ops.map (·.n)).map V.str := by
    refine List.ext_getElem? fun i => ?_
    cases e : us[i]? with
    | none =>
      have h1 := List.getElem?_eq_none_iff.mp e
      have := hu.1
      rw [List.length_map] at this
      exact (List.getElem?_eq_none (by rw [List.length_map, List.length_map]; omega)).symm
    | some v =>
      have hi := (List.getElem?_eq_some_iff.mp e).1
      have h1 := hu.1
      have h2 : (ops.map fun o => o.n)[i]? = some ((ops.map fun o => o.n)[i]'(by omega)) := List.getElem?_eq_getElem _
      have h3 := hu.2 i v _ e h2
      rw [List.getElem?_map, h2, h3]
      rfl
  subst eus
  walk_at "sx"
  refine x_cat (kG _ _ o22) eD (sz (by have h15 : keptL.length = 15 := (by decide +kernel); simp only [List.length_append, List.length_map, List.length_singleton]; omega)) fun bq nbq => ?_
  have ebs : keptL.map V.str ++ [.str ("mod" : Str)] ++ (ops.map (·.n)).map V.str = (keptL ++ [("mod" : Str)] ++ ops.map (·.n)).map V.str := by simp
  rw [ebs]
  have sB : Same H (upd G3 bq (.lst ((keptL ++ [("mod" : Str)] ++ ops.map (·.n)).map V.str))) := (sA.trans kG).trans (same_upd nbq)
  have bqq : upd G3 bq (.lst ((keptL ++ [("mod" : Str)] ++ ops.map (·.n)).map V.str)) bq = some (.lst ((keptL ++ [("mod" : Str)] ++ ops.map (·.n)).map V.str)) := upd_same
  generalize upd G3 bq (.lst ((keptL ++ [("mod" : Str)] ++ ops.map (·.n)).map V.str)) = G4 at *
  walk_at "sx"
  refine x_forR1 (n := 20) (fun i σ' G => ∃ (y : Str) (x3 : Option V), σ' = [some (.str y), some (.ref a), some (.ref bq), x3, none] ∧ NameOk 0 (tl y) ∧ (y ∉ keptL ++ [("mod" : Str)] ++ ops.map (·.n) ∨ ∀ j < i, zt j ∈ keptL ++ [("mod" : Str)] ++ ops.map (·.n)) ∧ G = G4) (by omega) (by omega) ?_ (fun i σ' G hi h => ?_) (fun σ' G h => ?_)
  · exact ⟨z, none, rfl, hz, .inr fun j hj => absurd hj (Nat.not_lt_zero _), rfl⟩
  · obtain ⟨y, x3, rfl, hy, hb, rfl⟩ := h
    walk_at "sx"
    refine ⟨bq, _, rfl, .inl (.of bqq), rfl, by rw [List.all_map]; exact List.all_eq_true.mpr fun x _ => rfl, ?_⟩
    rw [if_neg (by decide), inV_strs]
    by_cases hin : y ∈ keptL ++ [("mod" : Str)] ++ ops.map (·.n)
    · rw [decide_eq_true hin]
      have hb2 := hb.resolve_left (fun h => h hin)
      walk_at "sx"
      refine x_strI (strLog20 (by omega)) ?_
      refine x_addS (sz (by
        have h60 := numL_len (k := 2) (n := i) (by decide) (by omega)
        have : (Str.ofString (toString ((i : Nat) : Int))).length = (numL i).length := by rw [← tl_lenP, tl_num]
        have l1 : ("z" : Str).length = 1 := by decide +kernel
        omega)) ?_
      walk_at "sx"
      refine ⟨zt i, _, rfl, zt_nm (by omega), ?_, rfl⟩
      by_cases hz2 : zt i ∈ keptL ++ [("mod" : Str)] ++ ops.map (·.n)
      · refine .inr fun j hj => ?_
        rcases Nat.lt_or_ge j i with h | h
        · exact hb2 j h
        · rw [show j = i by omega]
          exact hz2
      · exact .inl hz2
    · rw [decide_eq_false hin]
      walk_at "sx"
      exact ⟨y, _, rfl, hy, .inl hin, rfl⟩
  · obtain ⟨y, x3, rfl, hy, hb, rfl⟩ := h
    walk_at "sx"
    have hin : y ∉ keptL ++ [("mod" : Str)] ++ ops.map (·.n) := by
      rcases hb with h | h
      · exact h
      · exact (zt_free oko h).elim
    rw [List.mem_append, List.mem_append] at hin
    exact q y _ sB ⟨hy, fun h => hin (.inl (.inl h)), fun h => hin (.inl (.inr (List.mem_singleton.mpr h))), fun o ho h => hin (.inr (List.mem_map.mpr ⟨o, ho, h⟩))⟩
/-- a thing that is read back -/
structure ThOk (ops : List Op) (u : Pt) : Prop where
  nm : okT NmOk NmOk u
  rd : rdT (ownL ++ ops) u
  nk : okT (fun _ => True) NoK u
def spLeaf12 (K : PySem.W.Frag) : Sp := fun vs H Q _ => ∃ (p l a : Addr) (c : Int) (es : List V) (ops : List Op), vs = [.ref p, .ref a] ∧ PoolAt H p l c ∧ c + 60 ≤ 1000000000000 ∧ H a = some (.lst es) ∧ a ≠ p ∧ a ≠ l ∧ RowsAt K H es ops ∧ OpsOk ops ∧
  ∀ x u H', (∀ G k, PtAt K G (k + 1) x u) → ThOk ops u → szT u = 1 → dpT u = 1 → PoolAt H' p l (c + 60) → Kx p l H H' → Q x H'
def HasLeaf12 (P : Program) (w : World) (K : PySem.W.Frag) (mg : Str → Option Value) (base : Heap) : Prop := Has P w K mg base 4 "_law_leaf" ["pool", "ops"] (spLeaf12 K)
def HasNum12 (P : Program) (w : World) (K : PySem.W.Frag) (mg : Str → Option Value) (base : Heap) : Prop := Has P w K mg base 3 "_law_number" ["pool"] (spNumber K)
theorem ok_law_leaf (F : Fun K "_law_leaf" "_law_leaf" s_law_leaf f fd) (T : Txt mg) (C_law_take : HasTake P w K mg base) (C_law_number : HasNum12 P w K mg base) (C_law_name : HasName P w K mg base) (C_law_free : HasFree P w K mg base) : FnOk P w K mg base CX0 4 f fd ["pool", "ops"] (spLeaf12 K) := by
  refine F.ok sc_law_leaf (fun vs H Q E h => ?_) (fun cdv A outer s H vs Q E hr h => ?_)
  · obtain ⟨p, l, a, c, es, ops, rfl, _⟩ := h
    rfl
  obtain ⟨p, l, a, c, es, ops, rfl, P0, hc, ha, ap, al, hro, oko, q⟩ := h
  refine ⟨_, (pss_cons (ps_set (i := 2) sc_law_leaf.nd rfl (Or.inl rfl) (pe_callH C_law_take hr (pa_cons (pv 0) (pa_cons pe_int pa_nil))))
    (pss_cons (ps_if (pt_cmpR op_eq (pv 2) pe_int (nomark _))
      (pss_one (ps_ret (pe_callH C_law_number hr (pa_cons (pv 0) pa_nil))))
      pss_nil)
    (pss_one (ps_ret (pe_ix (ix_listK (K := K)) (pe_lst (pa_cons (pe_callH C_law_name hr (pa_cons (pv 0) (pa_cons pe_int pa_nil))) (pa_cons (pe_callH C_law_free hr (pa_cons (pe_callH C_law_name hr (pa_cons (pv 0) (pa_cons pe_int pa_nil))) (pa_cons (pv 1) pa_nil))) pa_nil))) (pe_op op_sub (pv 2) pe_int) (fun _ _ => rfl)))))), ?_⟩
  walk_at "sx"
  refine ⟨p, l, c, 3, rfl, P0, by omega, by decide, by decide, fun n1 G1 n10 n13 P1 k1 => ?_⟩
  walk_at "sx"
  refine x_ite (fun c1 => ?_) (fun c1 => ?_)
  · walk_at "sx"
    exact ⟨p, l, c + 1, rfl, P1, by omega, fun m G2 hm P2 k2 => q _ (.i m) _ (fun _ _ => rfl) ⟨hm, ⟨hm, fig_no oko m 1⟩, hm⟩ rfl rfl (P2.mono (by omega)) (k1.trans k2)⟩
  · have hn1 : ¬ n1 = 0 := fun z => c1 (congrArg V.int z)
    walk_at "sx"
    refine ⟨p, l, c + 1, 1, rfl, P1, by omega, by decide, by decide, fun z2 G2 hz2 P2 k2 => ?_⟩
    walk_at "sx"
    refine ⟨p, l, c + 1 + 20, 0, rfl, P2, by omega, by decide, by decide, fun z3 G3 hz3 P3 k3 => ?_⟩
    have k03 := (k1.trans k2).trans k3
    walk_at "sx"
    refine ⟨z3, a, es, ops, rfl, hz3, k03 _ _ ha ap al, hro.kx k03 P0, oko, fun z4 G4 s4 hf => ?_⟩
    walk_at "sx"
    rename_i o no
    have P4 := (P3.same s4).upd (o := .lst [.str z2, .str z4]) no
    have k04 := (k03.trans (.of s4)).updn (o := .lst [.str z2, .str z4]) no
    rcases (show n1 = 1 ∨ n1 = 2 by omega) with rfl | rfl
    · exact x_ixL (.of upd_same) (at0 rfl) (q _ (.s z2) _ (fun _ _ => rfl) ⟨⟨_, hz2⟩, .inl (cap_unk oko hz2), trivial⟩ rfl rfl (P4.mono (by omega)) k04)
    · exact x_ixL (.of upd_same) (at1 rfl) (q _ (.s z4) _ (fun _ _ => rfl) ⟨⟨_, hf.1⟩, .inr (free_wd hf), trivial⟩ rfl rfl (P4.mono (by omega)) k04)
theorem own11_nm12 : ∀ o ∈ ownL, o.n ∉ keptL → NmOk o.n := by
  have h : (ownL.all fun o => decide (o.n ∈ keptL) || match tl o.n with | [] => false | c :: t => decide ((c ∈ sS ∧ (∀ x ∈ t, x ∈ sS ++ sD) ∧ t.length + 1 ≤ 12) ∨ (c ∈ sM ∧ (∀ x ∈ t, x ∈ sM) ∧ t.length + 1 ≤ 3))) = true := by decide +kernel
  intro o ho hk
  have h2 := List.all_eq_true.mp h o ho
  rw [decide_eq_false hk, Bool.false_or] at h2
  cases e : tl o.n with
  | nil =>
    rw [e] at h2
    cases h2
  | cons c t =>
    rw [e] at h2
    rcases of_decide_eq_true h2 with ⟨a1, a2, a3⟩ | ⟨a1, a2, a3⟩
    · exact ⟨0, c, t, e, .inl ⟨rfl, a1, a2, a3⟩⟩
    · exact ⟨2, c, t, e, .inr (.inr ⟨rfl, a1, a2, a3⟩)⟩
def GoodNm (ops : List Op) (nm : Str) (m : Nat) : Prop := 1 ≤ m ∧ m ≤ 4 ∧ NmOk nm ∧ nm ∉ keptL ∧ (rowOf (ownL ++ ops) nm m = none → Wd (ownL ++ ops) nm)
theorem row_good {ops : List Op} (k : OpsOk ops) {o : Op} (ho : o ∈ ownL ++ ops) (hk : o.n ∉ keptL) : GoodNm ops o.n (if o.s = ("ahead" : Str) then 1 else 2) := by
  refine ⟨by split <;> omega, by split <;> omega, ?_, hk, fun hn => ?_⟩
  · rcases List.mem_append.mp ho with h | h
    · exact own11_nm12 o h hk
    · exact k.nm o h
  · have h' : (ownL ++ ops).find? (isRow o.n (if o.s = ("ahead" : Str) then 1 else 2)) = none := hn
    exact absurd (decide_eq_true ⟨rfl, rfl⟩) (List.find?_eq_none.mp h' o ho)
theorem ThOk.made {ops : List Op} {nm : Str} {ps : List Pt} (g : GoodNm ops nm ps.length) (h : ∀ p ∈ ps, ThOk ops p) : ThOk ops (.t nm ps) := by
  obtain ⟨g1, g2, g3, g4, g5⟩ := g
  have rdl : ∀ ps : List Pt, (∀ p ∈ ps, ThOk ops p) → rdL (ownL ++ ops) ps := fun ps => by
    induction ps with
    | nil => exact fun _ => trivial
    | cons x r ih => exact fun h => ⟨(h x (List.mem_cons_self ..)).rd, ih fun p hp => h p (List.mem_cons_of_mem _ hp)⟩
  exact ⟨⟨g3, by omega, g2, okL_mem.mpr fun p hp => (h p hp).nm⟩, ⟨by omega, g2, g5, rdl ps h⟩, ⟨g4, by omega, g2, okL_mem.mpr fun p hp => (h p hp).nk⟩⟩
def spPattern (K : PySem.W.Frag) : Sp := fun vs H Q _ => ∃ (p l a : Addr) (c top : Int) (deep : Nat) (es : List V) (ops : List Op), vs = [.ref p, .ref a, .int top, .int (deep : Int)] ∧ 1 ≤ deep ∧ deep ≤ 12 ∧ PoolAt H p l c ∧ c + 12000 ≤ 1000000000000 ∧ 1 ≤ top ∧ top ≤ 60 ∧ H a = some (.lst es) ∧ a ≠ p ∧ a ≠ l ∧ RowsAt K H es ops ∧ OpsOk ops ∧
  ∀ x u H', PtAt K H' 12 x u → ThOk ops u → (szT u : Int) ≤ top → dpT u ≤ deep → PoolAt H' p l (c + 12000) → Kx p l H H' → Q x H'
def HasPattern (P : Program) (w : World) (K : PySem.W.Frag) (mg : Str → Option Value) (base : Heap) : Prop := Has P w K mg base 16 "_law_pattern" ["pool", "ops", "top", "deep"] (spPattern K)
theorem ok_law_pattern (F : Fun K "_law_pattern" "_law_pattern" s_law_pattern f fd) (T : Txt mg) (C_law_take : HasTake P w K mg base) (C_law_own : HasLOwn P w K mg base) (C_law_kept : HasKept P w K mg base) (C_law_name : HasName P w K mg base) (C_law_free : HasFree P w K mg base) (C_law_leaf : HasLeaf12 P w K mg base) (C_law_weight : HasWt 13 P w K mg base) : FnOk P w K mg base CX0 16 f fd ["pool", "ops", "top", "deep"] (spPattern K) := by
  refine F.ok sc_law_pattern (fun vs H Q E h => ?_) (fun cdv A outer s H vs Q E hr h => ?_)
  · obtain ⟨p, l, a, c, top, deep, es, ops, rfl, _⟩ := h
    rfl
  obtain ⟨p, l, a, c, top, deep, es, ops, rfl, hd1, hd12, P0, hc, ht1, ht60, ha, ap, al, hro, oko, q⟩ := h
  have l7 := oko.len
  refine ⟨_, (pss_cons (ps_setLc (i := 4) (own := [("row", 9)]) (g := gName 9) rfl sc_law_pattern.nd rfl rfl (sw_true rfl rfl rfl (by decide +kernel)) (pi_list (pe_op op_cat (pe_callH0 C_law_own hr) (pv 1))) (blkOk_by (own := [("row", 9)]) (N := ["pool", "ops", "top", "deep", "rows", "pile", "turn", "many", "name", "row", "made"]) (sc := defScope s_law_pattern) (by decide +kernel)) (fun _ _ _ _ _ => pg_name (i := 9) sc_law_pattern.nd rfl (Or.inl rfl)) (fun _ _ _ _ _ => (pts_one (pt_cmpR (op_notInK (K := K)) (pe_ix (ix_tupK (K := K)) (pv 9) pe_int (fun _ _ => rfl)) (pe_callH0 C_law_kept hr) (by first | exact nomark _ | rfl)))) (fun _ _ _ _ _ => (pv 9)))
    (pss_cons (ps_set (i := 5) sc_law_pattern.nd rfl (Or.inl rfl) (pe_lst (pa_cons (pe_callH C_law_leaf hr (pa_cons (pv 0) (pa_cons (pv 1) pa_nil))) pa_nil)))
    (pss_cons (ps_for PassesOwn.never rfl (pi_range1 (by rfl) T.z_range (pa_cons (pe_callH C_law_take hr (pa_cons (pv 0) (pa_cons (pv 2) pa_nil))) pa_nil)) (pg_name (i := 6) sc_law_pattern.nd rfl (.inl rfl))
      (pss_cons (ps_set (i := 7) sc_law_pattern.nd rfl (Or.inl rfl) (pe_op op_add pe_int (pe_callH C_law_take hr (pa_cons (pv 0) (pa_cons pe_int pa_nil)))))
    (pss_cons (ps_set (i := 8) sc_law_pattern.nd rfl (Or.inl rfl) (pe_callH C_law_free hr (pa_cons (pe_callH C_law_name hr (pa_cons (pv 0) (pa_cons pe_int pa_nil))) (pa_cons (pv 1) pa_nil))))
    (Evl.pss_cut (ps_if (pt_cmpR op_gt (pe_callH C_law_take hr (pa_cons (pv 0) (pa_cons pe_int pa_nil))) pe_int (nomark _))
      (pss_cons (ps_set (i := 9) sc_law_pattern.nd rfl (Or.inl rfl) (pe_ix (ix_listK (K := K)) (pv 4) (pe_callH C_law_take hr (pa_cons (pv 0) (pa_cons (pe_callB (call_lenK (K := K)) (by rfl) T.z_len (by decide +kernel) (pa_cons (pv 4) pa_nil)) pa_nil))) (fun _ _ => rfl)))
    (pss_cons (ps_set (i := 8) sc_law_pattern.nd rfl (Or.inl rfl) (pe_ix (ix_tupK (K := K)) (pv 9) pe_int (fun _ _ => rfl)))
    (pss_one (ps_set (i := 7) sc_law_pattern.nd rfl (Or.inl rfl) (pe_op op_sub pe_int (pe_callTy call_int1 (by rfl) T.z_int (by decide +kernel) (pa_cons (pe_cmpR op_eq (pe_ix (ix_tupK (K := K)) (pv 9) pe_int (fun _ _ => rfl)) pe_str (nomark _)) pa_nil)))))))
      pss_nil)
    (Evl.pss_cut (ps_set (i := 10) sc_law_pattern.nd rfl (Or.inl rfl) (pe_op (op_catAK (K := K)) (pe_tup (pa_cons (pv 8) pa_nil)) (pe_callTy call_tuple_of (by rfl) T.z_tuple (by decide +kernel) (pa_cons (pe_slice (sl_listK (K := K)) (pv 5) (po_some (pe_callB (call_max2 rfl) (by rfl) T.z_max (by decide +kernel) (pa_cons pe_int (pa_cons (pe_op op_sub (pe_callB (call_lenK (K := K)) (by rfl) T.z_len (by decide +kernel) (pa_cons (pv 5) pa_nil)) (pv 7)) pa_nil)))) po_none) pa_nil))))
    (pss_one (ps_if (PW.pt (pw_and (pt_cmpR op_eq (pe_callH C_law_take hr (pa_cons (pv 0) (pa_cons pe_int pa_nil))) pe_int (nomark _)) (pw_and (pt_cmpR op_le (pv 7) (pe_callB (call_lenK (K := K)) (by rfl) T.z_len (by decide +kernel) (pa_cons (pv 5) pa_nil)) (nomark _)) (pw_and1 (pt_cmpR op_le (pe_ix (ix_tupK (K := K)) (pe_callH C_law_weight hr (pa_cons (pv 10) pa_nil)) pe_int (fun _ _ => rfl)) (pv 3) (nomark _))))))
      (pss_one (ps_set (i := 5) sc_law_pattern.nd rfl (Or.inl rfl) (pe_op op_cat (pe_slice (sl_listK (K := K)) (pv 5) po_none (po_some (pe_op op_sub (pe_callB (call_lenK (K := K)) (by rfl) T.z_len (by decide +kernel) (pa_cons (pv 5) pa_nil)) (pv 7)))) (pe_lst (pa_cons (pv 10) pa_nil)))))
      (pss_one (ps_expr (pe_bm PySem.F.plainAttrs_list PySem.F.slot_list_append PySem.F.type_list_append mt_append (pv 5) (pa_cons (pe_callH C_law_leaf hr (pa_cons (pv 0) (pa_cons (pv 1) pa_nil))) pa_nil)))))))))))
    (pss_one (ps_ret (pe_maxOwn C_law_weight hr rfl rfl T.z_max (pa_cons (pv 5) pa_nil))))))), ?_⟩
  walk_at "sx"
  refine ⟨rfl, fun o ws G no ho sG rw1 => ?_⟩
  have a1 := sG _ _ ha
  have r1 := hro.same sG
  have hws : ws.length = 16 := rw1.1
  have hes : es.length = ops.length := hro.1
  walk_at "sx"
  refine x_cat ho a1 (sz (by omega)) fun u nu => ?_
  have r2 := (rw1.append r1).same (same_upd (o := .lst (ws ++ es)) nu)
  have s2 : Same H (upd G u (.lst (ws ++ es))) := sG.trans (same_upd nu)
  have u2 : upd G u (.lst (ws ++ es)) u = some (.lst (ws ++ es)) := upd_same
  generalize upd G u (.lst (ws ++ es)) = G2 at *
  have at11 : (ownL ++ ops)[11]? = some ⟨4, "left", "+"⟩ := by
    rw [List.getElem?_append_left (by decide)]
    rfl
  refine x_lcL (K := K) (a := u) (xs := ws ++ es) (fun D j G => ∃ (us : List V) (rs : List Op), Same G2 G ∧ G D = some (.lst us) ∧ us.length ≤ j ∧ RowsAt K G us rs ∧ (∀ o ∈ rs, o ∈ ownL ++ ops ∧ o.n ∉ keptL) ∧ (12 ≤ j → rs ≠ [])) (.of u2) ?_ ?_ ?_ ?_
  · intro D hD
    exact ⟨[], [], same_upd hD, upd_same, Nat.le_refl _, .nil, (fun o h => by cases h), fun h => absurd h (by decide)⟩
  · rintro D hD j G' _ ⟨us, rs, h1, _⟩
    exact .of (h1 _ _ u2)
  · rintro D hD j x G' hx ⟨us, rs, h1, h2, h3, h4, h5, h6⟩
    obtain ⟨t, e, rfl, he, st⟩ := r2.at hx
    have st' := Same.sqT h1 st
    have hj : j < (ws ++ es).length := (List.getElem?_eq_some_iff.mp hx).1
    rw [List.length_append] at hj
    walk_at "sx"
    refine ⟨rfl, ?_⟩
    walk_at "sx"
    refine ⟨rfl, fun kq G9 nk hk sk => ?_⟩
    walk_at "sx"
    refine ⟨kq, keptL.map V.str, rfl, .inl (.of hk), rfl, by decide, ?_⟩
    rw [inV_strs]
    by_cases hin : e.n ∈ keptL
    · rw [decide_eq_true hin]
      walk_at "sx"
      refine ⟨us, rs, h1.trans sk, sk _ _ h2, by omega, h4.same sk, h5, fun h12 => ?_⟩
      rcases Nat.lt_or_ge 11 j with h | h
      · exact h6 (by omega)
      · have : j = 11 := by omega
        rw [this, at11] at he
        cases he
        exact absurd hin (by decide +kernel)
    · rw [decide_eq_false hin]
      walk_at "sx"
      refine ⟨_, sk _ _ h2, szl (by omega), us ++ [.ref t], rs ++ [e], same_updf (h1.trans sk) hD, upd_same, by rw [List.length_append]; show us.length + 1 ≤ _; omega, (((h4.same sk).append (.cons (Same.sqT sk st') .nil))).lst (ys := us) (sk _ _ h2), fun o ho => ?_, fun _ => by simp⟩
      rcases List.mem_append.mp ho with ho | ho
      · exact h5 o ho
      · rw [List.mem_singleton.mp ho]
        exact ⟨List.mem_of_getElem? he, hin⟩
  rintro D hD G3 ⟨us, rs, h1, h2, h3, h4, h5, h6⟩
  have hrs : 0 < rs.length := List.length_pos_iff.mpr (h6 (by rw [List.length_append]; omega))
  rw [List.length_append] at h3
  have sH := s2.trans h1
  have P3 := P0.same sH
  have Df := (P0.same s2).fresh hD
  have a3 := sH _ _ ha
  have r3 := hro.same sH
  walk_at "sx"
  refine ⟨p, l, a, c, es, ops, rfl, P3, by omega, a3, ap, al, r3, oko, fun x u1 G4 hx th szu dpu P4 k4 => ?_⟩
  walk_at "sx"
  rename_i o2 no2
  have of2 := P4.fresh no2
  have k04 : Kx p l H G4 := (Kx.of sH).trans k4
  have D4 := k4 _ _ h2 Df.1 Df.2
  have no20 : H o2 = none := k04.none no2 of2.1 of2.2
  refine ⟨p, l, c + 60, top, rfl, P4.upd no2, by omega, by omega, by omega, fun n5 G5 n50 n51 P5 k5 => ?_⟩
  have o25 := kxl P4 no2 k5
  have k45 : Kx p l G4 G5 := ((Kx.refl _).updn no2).trans k5
  have D5 := k45 _ _ D4 Df.1 Df.2
  have r5 := (h4.kx k4 P3).kx k45 P4
  walk_at "sx"
  refine x_forR1 (n := n5) (fun i σ' G => ∃ (pl : Addr) (xs : List V) (ups : List Pt) (x6 x7 x8 x9 x10 : Option V), σ' = [some (.ref p), some (.ref a), some (.int top), some (.int (deep : Int)), some (.ref D), some (.ref pl), x6, x7, x8, x9, x10] ∧ G pl = some (.lst xs) ∧ pl ≠ p ∧ pl ≠ l ∧ H pl = none ∧ PtsAt K G 12 xs ups ∧ (∀ e ∈ ups, ThOk ops e ∧ dpT e ≤ deep) ∧ szL ups ≤ i + 1 ∧ 0 < ups.length ∧ PoolAt G p l (c + 61 + 150 * i) ∧ Kx p l H G ∧ G D = some (.lst us) ∧ RowsAt K G us rs ∧ D ≠ pl) (by omega) (by omega) ?_ (fun i σ' G hi h => ?_) (fun σ' G h => ?_)
  · exact ⟨o2, [x], [u1], none, none, none, none, none, rfl, o25, of2.1, of2.2, no20, .one (hx _ _), (fun e he => by rw [List.mem_singleton.mp he]; exact ⟨th, by omega⟩), by simp [szL, szu], by simp, P5.mono (by omega), k04.trans k45, D5, r5, fun z => by rw [z, no2] at D4; cases D4⟩
  · obtain ⟨pl, xs, ups, x6, x7, x8, x9, x10, rfl, hpl, fp, fl, npl, hps, hth, hsz, hpos, PG, kG, DG, rG, nDp⟩ := h
    have lxs := hps.1
    have lup := szL_len ups
    walk_at "sx"
    refine ⟨p, l, _, 4, rfl, PG, by omega, by decide, by decide, fun n6 G6 n60 n61 P6 k6 => ?_⟩
    walk_at "sx"
    refine ⟨p, l, c + 61 + 150 * i + 1, 0, rfl, P6, by omega, by decide, by decide, fun z7 G7 hz7 P7 k7 => ?_⟩
    have k67 := k6.trans k7
    have k07 := kG.trans k67
    walk_at "sx"
    refine ⟨z7, a, es, ops, rfl, hz7, k07 _ _ ha ap al, hro.kx k07 P0, oko, fun y8 G8 s8 hf => ?_⟩
    have kG8 : Kx p l G G8 := k67.trans (.of s8)
    obtain ⟨m6, hm6, m61, m64⟩ : ∃ m : Nat, 1 + n6 = (m : Int) ∧ 1 ≤ m ∧ m ≤ 4 := ⟨(1 + n6).toNat, by omega, by omega, by omega⟩
    have wd := free_wd hf
    have P8 := P7.same s8
    walk_at "sx"
    rw [hm6]
    refine x_cut (M := fun σ' G' => ∃ (m : Nat) (nm : Str) (x9 x10 : Option V), σ' = [some (.ref p), some (.ref a), some (.int top), some (.int (deep : Int)), some (.ref D), some (.ref pl), some (.int (i : Int)), some (.int (m : Int)), some (.str nm), x9, x10] ∧ GoodNm ops nm m ∧ PoolAt G' p l (c + 61 + 150 * i + 30) ∧ Kx p l G G') ?_ ?_
    · walk_at "sx"
      refine ⟨p, l, c + 61 + 150 * i + 1 + 20, 4, rfl, P8, by omega, by decide, by decide, fun n9 G9 n90 n91 P9 k9 => ?_⟩
      have kG9 := kG8.trans k9
      have D9 := kG9 _ _ DG Df.1 Df.2
      have r9 := rG.kx kG9 PG
      have lrs := rG.1
      walk_at "sx"
      refine x_ite (fun c9 => ?_) (fun c9 => ?_)
      · walk_at "sx"
        refine ⟨p, l, c + 61 + 150 * i + 1 + 20 + 1, _, rfl, P9, by omega, by omega, by omega, fun n10 G10 n100 n101 P10 k10 => ?_⟩
        obtain ⟨v, hv, hat⟩ := atL (xs := us) n100 n101
        have r10 := r9.kx k10 P9
        obtain ⟨j, hj⟩ := List.getElem?_of_mem hv
        obtain ⟨t, e, rfl, he, st⟩ := r10.at hj
        refine x_ixL (.of (k10 _ _ D9 Df.1 Df.2)) hat ?_
        obtain ⟨he1, he2⟩ := h5 e (List.mem_of_getElem? he)
        walk_at "sx"
        rw [many_of]
        exact ⟨_, _, _, _, rfl, row_good oko he1 he2, P10.mono (by omega), kG9.trans k10⟩
      · walk_at "sx"
        exact ⟨m6, y8, _, _, rfl, ⟨m61, m64, ⟨_, hf.1⟩, hf.2.1, fun _ => wd⟩, P9.mono (by omega), kG9⟩
    rintro σ' G11 ⟨m, nm, x9, x10, rfl, good, P11, kG11⟩
    have hpl11 := kG11 _ _ hpl fp fl
    have hps11 := hps.kx kG11 PG
    have D11 := kG11 _ _ DG Df.1 Df.2
    have r11 := rG.kx kG11 PG
    have k011 := kG.trans kG11
    have good0 := good
    obtain ⟨g1, g2, _⟩ := good
    refine x_cut (M := fun σ' G' => ∃ (md : Addr), σ' = [some (.ref p), some (.ref a), some (.int top), some (.int (deep : Int)), some (.ref D), some (.ref pl), some (.int (i : Int)), some (.int (m : Int)), some (.str nm), x9, some (.ref md)] ∧ SqT K G' md (.str nm :: xs.drop (xs.length - m)) ∧ Same G11 G') ?_ ?_
    · walk_at "sx"
      rename_i t0 nt0
      have st0 := same_upd (o := .tup [.str nm]) nt0
      have ej : (if (xs.length : Int) - (m : Int) > 0 then (xs.length : Int) - (m : Int) else 0) = ((xs.length - m : Nat) : Int) := by split <;> omega
      refine ⟨0, _, rfl, _, rfl, ?_⟩
      rw [ej]
      walk_at "sx"
      refine x_slL (.of (st0 _ _ hpl11)) fun tp ntp => ?_
      rw [cut_drop20 (Nat.sub_le _ _)]
      walk_at "sx"
      refine ⟨tp, xs.drop (xs.length - m), rfl, .inl ⟨.of upd_same, fun ta nta => ?_⟩⟩
      refine x_catA (xs := [.str nm]) (ys := xs.drop (xs.length - m)) (sqT_new nta (sqT_new ntp (.of upd_same))) (.of upd_same) (sz (by rw [List.length_drop]; show 1 + _ ≤ _; omega)) fun r G8 k8 sr => ?_
      walk_at "sx"
      exact ⟨r, rfl, sr, ((st0.trans (same_upd ntp)).trans (same_upd nta)).trans k8⟩
    rintro σ' G12 ⟨md, rfl, smd, s12⟩
    have hpl12 := s12 _ _ hpl11
    have hps12 := hps11.same s12
    have P12 := P11.same s12
    have k012 := k011.trans (.of s12)
    walk_at "sx"
    refine ⟨p, l, c + 61 + 150 * i + 30, 2, rfl, P12, by omega, by decide, by decide, fun n13 G13 n130 n131 P13 k13 => ?_⟩
    have hpl13 := k13 _ _ hpl12 fp fl
    have hps13 := hps12.kx k13 P12
    have D13 := k13 _ _ (s12 _ _ D11) Df.1 Df.2
    have r13 := (r11.same s12).kx k13 P12
    have k013 := k012.trans k13
    have smd13 := k13.sqT P12 smd
    walk_at "sx"
    refine x_ite (fun c13 => ?_) (fun c13 => ?_)
    rotate_left 1
    · 
      walk_at "sx"
      refine ⟨p, l, a, c + 61 + 150 * i + 30 + 1, es, ops, rfl, P13, by omega, k013 _ _ ha ap al, ap, al, hro.kx k013 P0, oko, fun xb ub G6 hxb thb szb dpb P6 k6 => ?_⟩
      have hpl6 := k6 _ _ hpl13 fp fl
      walk_at "sx"
      refine x_app hpl6 (szl (by omega)) ?_
      refine ⟨pl, xs ++ [xb], ups ++ [ub], _, _, _, _, _, rfl, upd_same, fp, fl, npl, ((hps13.kx k6 P13).append (.one (hxb _ 11))).lst hpl6, fun e he => ?_, by rw [szL_append]; simp [szL, szb]; omega, by rw [List.length_append]; omega, (P6.updo fp fl).mono (by omega), (k013.trans k6).updf npl, by rw [upd_ne nDp]; exact k6 _ _ D13 Df.1 Df.2, (r13.kx k6 P13).lst hpl6, nDp⟩
      rcases List.mem_append.mp he with he | he
      · exact hth e he
      · rw [List.mem_singleton.mp he]
        exact ⟨thb, by omega⟩
    walk_at "sx"
    refine x_ite (fun cm => ?_) (fun cm => ?_)
    rotate_left 1
    · 
      walk_at "sx"
      refine ⟨p, l, a, c + 61 + 150 * i + 30 + 1, es, ops, rfl, P13, by omega, k013 _ _ ha ap al, ap, al, hro.kx k013 P0, oko, fun xb ub G6 hxb thb szb dpb P6 k6 => ?_⟩
      have hpl6 := k6 _ _ hpl13 fp fl
      walk_at "sx"
      refine x_app hpl6 (szl (by omega)) ?_
      refine ⟨pl, xs ++ [xb], ups ++ [ub], _, _, _, _, _, rfl, upd_same, fp, fl, npl, ((hps13.kx k6 P13).append (.one (hxb _ 11))).lst hpl6, fun e he => ?_, by rw [szL_append]; simp [szL, szb]; omega, by rw [List.length_append]; omega, (P6.updo fp fl).mono (by omega), (k013.trans k6).updf npl, by rw [upd_ne nDp]; exact k6 _ _ D13 Df.1 Df.2, (r13.kx k6 P13).lst hpl6, nDp⟩
      rcases List.mem_append.mp he with he | he
      · exact hth e he
      · rw [List.mem_singleton.mp he]
        exact ⟨thb, by omega⟩
    have cm' : (m : Int) ≤ (xs.length : Int) := cm
    have hdl : (xs.drop (xs.length - m)).length = m := by rw [List.length_drop]; omega
    have hdl2 : (ups.drop (xs.length - m)).length = m := by rw [List.length_drop]; omega
    have thm : ThOk ops (.t nm (ups.drop (xs.length - m))) := ThOk.made (by rw [hdl2]; exact good0) fun e he => (hth e (List.mem_of_mem_drop he)).1
    walk_at "sx"
    refine ⟨.ref md, .t nm (ups.drop (xs.length - m)), rfl, PtAt.tup smd13 (hps13.drop _), thm.nm, fun v14 G14 s14 tv14 => ?_⟩
    obtain ⟨t14, rfl, st14⟩ := two_inv tv14
    have hpl14 := s14 _ _ hpl13
    have hps14 := hps13.same s14
    have P14 := P13.same s14
    have k014 := k013.trans (.of s14)
    have D14 := s14 _ _ D13
    have r14 := r13.same s14
    have smd14 := Same.sqT s14 smd13
    walk_at "sx"
    refine x_ite (fun cd => ?_) (fun cd => ?_)
    rotate_left 1
    · 
      walk_at "sx"
      refine ⟨p, l, a, c + 61 + 150 * i + 30 + 1, es, ops, rfl, P14, by omega, k014 _ _ ha ap al, ap, al, hro.kx k014 P0, oko, fun xb ub G6 hxb thb szb dpb P6 k6 => ?_⟩
      have hpl6 := k6 _ _ hpl14 fp fl
      walk_at "sx"
      refine x_app hpl6 (szl (by omega)) ?_
      refine ⟨pl, xs ++ [xb], ups ++ [ub], _, _, _, _, _, rfl, upd_same, fp, fl, npl, ((hps14.kx k6 P14).append (.one (hxb _ 11))).lst hpl6, fun e he => ?_, by rw [szL_append]; simp [szL, szb]; omega, by rw [List.length_append]; omega, (P6.updo fp fl).mono (by omega), (k014.trans k6).updf npl, by rw [upd_ne nDp]; exact k6 _ _ D14 Df.1 Df.2, (r14.kx k6 P14).lst hpl6, nDp⟩
      rcases List.mem_append.mp he with he | he
      · exact hth e he
      · rw [List.mem_singleton.mp he]
        exact ⟨thb, by omega⟩
    have cd' : ((dpT (.t nm (ups.drop (xs.length - m))) : Nat) : Int) ≤ (deep : Int) := cd
    have cd2 : dpT (.t nm (ups.drop (xs.length - m))) ≤ deep := by omega
    have em : (xs.length : Int) - (m : Int) = ((xs.length - m : Nat) : Int) := by omega
    walk_at "sx"
    rw [em]
    refine x_slL (.of hpl14) fun q2 nq => ?_
    rw [cut_take20 (Nat.sub_le _ _)]
    walk_at "sx"
    rename_i lb nlb
    have s15 := same_upd (o := .lst (xs.take (xs.length - m))) nq
    have s16 := same_upd (o := .lst [.ref md]) nlb
    have q16 := s16 _ _ (upd_same (H := G14) (a := q2) (o := .lst (xs.take (xs.length - m))))
    refine x_cat (xs := xs.take (xs.length - m)) (zs := [.ref md]) q16 upd_same (sz (by rw [List.length_take]; show _ + 1 ≤ _; omega)) fun pn npn => ?_
    have sA := (s15.trans s16).trans (same_upd (o := .lst (xs.take (xs.length - m) ++ [.ref md])) npn)
    have fpn := ((P14.same (s15.trans s16))).fresh npn
    have npn0 := (k014.trans (.of (s15.trans s16))).none npn fpn.1 fpn.2
    have nDn : D ≠ pn := fun z => by
      have := (s15.trans s16) _ _ D14
      rw [z, npn] at this
      cases this
    have hpsA := hps14.same sA
    have dd := dpT_pos (.t nm (ups.drop (xs.length - m)))
    rw [dpT] at cd'
    have hnew := (PtAt.tup (Same.sqT sA smd14) ((hpsA.drop (xs.length - m)).all20 (j := 11) (by omega)) : PtAt K _ 12 (.ref md) (.t nm (ups.drop (xs.length - m))))
    have sza := szL_append (ups.take (xs.length - m)) (ups.drop (xs.length - m))
    rw [List.take_append_drop] at sza
    walk_at "sx"
    refine ⟨pn, _, ups.take (xs.length - m) ++ [.t nm (ups.drop (xs.length - m))], _, _, _, _, _, rfl, upd_same, fpn.1, fpn.2, npn0, (hpsA.take (xs.length - m)).append (.one hnew), fun e he => ?_, ?_, by rw [List.length_append]; simp, (P14.same sA).mono (by omega), k014.trans (.of sA), sA _ _ D14, r14.same sA, nDn⟩
    · rcases List.mem_append.mp he with he | he
      · exact hth e (List.mem_of_mem_take he)
      · rw [List.mem_singleton.mp he]
        exact ⟨thm, cd2⟩
    · rw [szL_append]
      simp only [szL, szT]
      omega
  · obtain ⟨pl, xs, ups, x6, x7, x8, x9, x10, rfl, hpl, fp, fl, npl, hps, hth, hsz, hpos, PG, kG, DG, rG, nDp⟩ := h
    walk_at "sx"
    refine x_maxOwn ?_
    walk_at "sx"
    refine ⟨pl, xs, rfl, .of hpl, fun z => by rw [← hps.1, z] at hpos; exact absurd hpos (by decide), fun x hx G1 s1 => ?_, fun x hx G1 s1 => ?_⟩
    · obtain ⟨i, hi⟩ := List.getElem?_of_mem hx
      obtain ⟨e, he, pe⟩ := hps.at hi
      exact ⟨x, e, rfl, (pe.up (by decide)).same s1, (hth e (List.mem_of_getElem? he)).1.nm, fun v H' s2 tv => ⟨s2, _, _, tv⟩⟩
    · obtain ⟨i, hi⟩ := List.getElem?_of_mem hx
      obtain ⟨e, he, pe⟩ := hps.at hi
      have := szL_mem20 (List.mem_of_getElem? he)
      exact q x e G1 (pe.same s1) (hth e (List.mem_of_getElem? he)).1 (by omega) (hth e (List.mem_of_getElem? he)).2 ((PG.mono (by omega)).same s1) (kG.trans (.of s1))
end
end Gs
namespace Gs
open PySem PySem.Spec PyProof.Rows L2 TL
abbrev s_law_kind : Stmt := PySem.Challenge.pw_goalstead_k14_goals_by_their_shapes.main.body.getD 82 (.Pass ⟨0, 0, 0, 0⟩)
theorem sc_law_kind : FnScope ["bit", "some", "k"] ["bit"] (defScope s_law_kind) := ⟨rfl, rfl, rfl, by decide +kernel, rfl, by decide +kernel, by decide +kernel⟩
abbrev s_law_stuck : Stmt := PySem.Challenge.pw_goalstead_k14_goals_by_their_shapes.main.body.getD 83 (.Pass ⟨0, 0, 0, 0⟩)
theorem sc_law_stuck : FnScope ["left", "right", "one", "other"] ["left", "right"] (defScope s_law_stuck) := ⟨rfl, rfl, rfl, by decide +kernel, rfl, by decide +kernel, by decide +kernel⟩
abbrev s_law_line : Stmt := PySem.Challenge.pw_goalstead_k14_goals_by_their_shapes.main.body.getD 84 (.Pass ⟨0, 0, 0, 0⟩)
theorem sc_law_line : FnScope ["bits", "pool", "text", "last", "bit", "gap"] ["bits", "pool"] (defScope s_law_line) := ⟨rfl, rfl, rfl, by decide +kernel, rfl, by decide +kernel, by decide +kernel⟩
def kindOf (c : Nat) : Int := if c ∈ sD ∨ c = 126 then 0 else if c ∈ sS then 1 else if c ∈ sC then 2 else if c ∈ [40, 41, 44] then 3 else 4
def spKind (K : PySem.W.Frag) : Sp := fun vs H Q _ => ∃ (z : Str) (c : Nat) (t : List Nat), vs = [.str z] ∧ tl z = c :: t ∧ z.length ≤ 1000 ∧ ∀ H', Same H H' → Q (.int (kindOf c)) H'
def spStuck (K : PySem.W.Frag) : Sp := fun vs H Q _ => ∃ (y z : Str) (c d : Nat) (t r : List Nat), vs = [.str y, .str z] ∧ tl y = c :: t ∧ tl z = d :: r ∧ y.length ≤ 1000 ∧ z.length ≤ 1000 ∧ ∀ (b : Bool) H', Same H H' → (b = false → d ∉ cls c) → Q (.bl b) H'
theorem not_stuck {c d : Nat} (h : (if kindOf c > 2 ∨ kindOf d > 1 ∨ d = 126 then kindOf c = 4 ∧ kindOf d = 4 else kindOf c > 0 ∨ kindOf d = 0) → False) : d ∉ cls c := by
  intro hd
  apply h
  have z := cls_small hd
  unfold cls at hd
  by_cases h1 : c ∈ sD ∨ c = 126
  · rw [if_pos h1] at hd
    have kc : kindOf c = 0 := if_pos h1
    have kd : kindOf d = 0 := if_pos (.inl hd)
    have := sD_iff.mp hd
    rw [if_neg (by rw [kc, kd]; omega)]
    exact .inr kd
  · rw [if_neg h1] at hd
    by_cases h2 : c ∈ sS ∨ c ∈ sC
    · rw [if_pos h2] at hd
      have kc : kindOf c = 1 ∨ kindOf c = 2 := by
        unfold kindOf
        rw [if_neg h1]
        by_cases h3 : c ∈ sS
        · rw [if_pos h3]
          exact .inl rfl
        · rw [if_neg h3, if_pos (h2.resolve_left h3)]
          exact .inr rfl
      have kd : (kindOf d = 0 ∨ kindOf d = 1) ∧ d ≠ 126 := by
        rcases List.mem_append.mp hd with hd | hd
        · have h3 := sS_iff.mp hd
          refine ⟨.inr ?_, by omega⟩
          unfold kindOf
          rw [if_neg (by rw [sD_iff]; omega), if_pos hd]
        · have h3 := sD_iff.mp hd
          exact ⟨.inl (if_pos (.inl hd)), by omega⟩
      rw [if_neg (by omega)]
      omega
    · rw [if_neg h2] at hd
      by_cases h3 : c ∈ sM
      · rw [if_pos h3] at hd
        have k4 : ∀ x, x ∈ sM → kindOf x = 4 := fun x hx => by
          have h4 := sM_all hx
          unfold kindOf
          rw [if_neg (by rw [sD_iff]; omega), if_neg (by rw [sS_iff]; omega), if_neg (by rw [sC_iff]; omega), if_neg]
          simp only [List.mem_cons, List.not_mem_nil, or_false]
          omega
        have kc := k4 c h3
        have kd := k4 d hd
        rw [if_pos (by omega)]
        exact ⟨kc, kd⟩
      · rw [if_neg h3] at hd
        cases hd
def five (c : Nat) : List Str := [("0123456789~" : Str), ("abcdefghijklmnopqrstuvwxyz" : Str), ("ABCDEFGHIJKLMNOPQRSTUVWXYZ" : Str), ("()," : Str), ⟨#[c]⟩]
def fnd (c i : Nat) : Bool := decide (c ∈ tl ((five c).getD i Str.empty))
theorem kind_head (c : Nat) : ((((List.range (5 : Int).toNat).filter (fnd c)).map fun k : Nat => ((k : Nat) : Int)).map V.int)[0]? = some (.int (kindOf c)) := by
  have e : List.range (5 : Int).toNat = [0, 1, 2, 3, 4] := by decide
  have f0 : fnd c 0 = decide (c ∈ sD ∨ c = 126) := by
    show decide (c ∈ tl ("0123456789~" : Str)) = _
    rw [show tl ("0123456789~" : Str) = sD ++ [126] from by decide +kernel, decide_eq_decide, List.mem_append, List.mem_singleton]
  have f1 : fnd c 1 = decide (c ∈ sS) := by
    show decide (c ∈ tl ("abcdefghijklmnopqrstuvwxyz" : Str)) = _
    rw [tl_S]
  have f2 : fnd c 2 = decide (c ∈ sC) := by
    show decide (c ∈ tl ("ABCDEFGHIJKLMNOPQRSTUVWXYZ" : Str)) = _
    rw [tl_C]
  have f3 : fnd c 3 = decide (c ∈ [40, 41, 44]) := by
    show decide (c ∈ tl ("()," : Str)) = _
    rw [show tl ("()," : Str) = [40, 41, 44] from by decide +kernel]
  have f4 : fnd c 4 = true := by
    show decide (c ∈ [c]) = true
    exact decide_eq_true (List.mem_singleton.mpr rfl)
  rw [e]
  unfold kindOf
  by_cases h0 : c ∈ sD ∨ c = 126
  · rw [List.filter_cons_of_pos (by rw [f0]; exact decide_eq_true h0), if_pos h0]
    rfl
  rw [List.filter_cons_of_neg (by rw [f0]; simpa using h0), if_neg h0]
  by_cases h1 : c ∈ sS
  · rw [List.filter_cons_of_pos (by rw [f1]; exact decide_eq_true h1), if_pos h1]
    rfl
  rw [List.filter_cons_of_neg (by rw [f1]; simpa using h1), if_neg h1]
  by_cases h2 : c ∈ sC
  · rw [List.filter_cons_of_pos (by rw [f2]; exact decide_eq_true h2), if_pos h2]
    rfl
  rw [List.filter_cons_of_neg (by rw [f2]; simpa using h2), if_neg h2]
  by_cases h3 : c ∈ [40, 41, 44]
  · rw [List.filter_cons_of_pos (by rw [f3]; exact decide_eq_true h3), if_pos h3]
    rfl
  rw [List.filter_cons_of_neg (by rw [f3]; simpa using h3), if_neg h3, List.filter_cons_of_pos f4]
  rfl
section
variable {P : Program} {w : World} {K : PySem.W.Frag} {mg : Str → Option Value} {base : Heap} {f : Addr} {fd : FuncData}
theorem ok_law_kind (F : Fun K "_law_kind" "_law_kind" s_law_kind f fd) (T : Txt mg) : FnOk P w K mg base CX0 1 f fd ["bit"] (spKind K) := by
  refine F.ok sc_law_kind (fun vs H Q E h => ?_) (fun cdv A outer s H vs Q E hr h => ?_)
  · obtain ⟨z, c, t, rfl, _⟩ := h
    rfl
  obtain ⟨z, c, t, rfl, et, hl, q⟩ := h
  have et' : z.cps.toList = c :: t := et
  refine ⟨_, (pss_cons (ps_set (i := 1) sc_law_kind.nd rfl (Or.inr rfl) (pe_lst (pa_cons pe_str (pa_cons pe_str (pa_cons pe_str (pa_cons pe_str (pa_cons (pe_ix ix_str (pv 0) pe_int (fun _ _ => rfl)) pa_nil)))))))
    (pss_one (ps_ret (pe_ix (ix_listK (K := K)) (pe_lc (own := [("k", 2)]) (g := gName 2) rfl sc_law_kind.nd (pi_range1 (by rfl) T.z_range (pa_cons pe_int pa_nil)) (blkOk_by (own := [("k", 2)]) (N := ["bit", "some", "k"]) (sc := defScope s_law_kind) (by decide +kernel)) (fun _ _ _ _ _ => pg_name (i := 2) sc_law_kind.nd rfl (Or.inl rfl)) (fun _ _ _ _ _ => (pts_one (pt_cmpR op_in_sign (pe_ix ix_str (pv 0) pe_int (fun _ _ => rfl)) (pe_ix (ix_listK (K := K)) (pv 1) (pv 2) (fun _ _ => rfl)) (by rfl)))) (fun _ _ _ _ _ => (pv 2))) pe_int (fun _ _ => rfl))))), ?_⟩
  walk_at "sx"
  refine x_ixS (c := c) (sz (by omega)) (at0 (by rw [et']; rfl)) ?_
  walk_at "sx"
  rename_i a na
  have sa := same_upd (o := .lst [.str ("0123456789~" : Str), .str ("abcdefghijklmnopqrstuvwxyz" : Str), .str ("ABCDEFGHIJKLMNOPQRSTUVWXYZ" : Str), .str ("()," : Str), .str ⟨#[c]⟩]) na
  refine x_lcR1 (n := 5) (fun D i H' => H' D = some (.lst ((((List.range i).filter (fnd c)).map fun k : Nat => ((k : Nat) : Int)).map V.int)) ∧ Same H H' ∧ H' a = some (.lst ((five c).map V.str)) ∧ D ≠ a) (by omega) (by omega) ?_ ?_ ?_
  · intro D hD
    exact ⟨upd_same, sa.trans (same_upd hD), by rw [upd_ne (ne_of_none upd_same hD)]; exact upd_same, (ne_of_none upd_same hD).symm⟩
  · rintro D hD i H' hi ⟨eD, sH, ea, nDa⟩
    have hi5 : i < (five c).length := by show i < 5; omega
    walk_at "sx"
    refine ⟨rfl, ?_⟩
    walk_at "sx"
    refine x_ixS (c := c) (sz (by omega)) (at0 (by rw [et']; rfl)) ?_
    walk_at "sx"
    refine x_ixL (xs := (five c).map V.str) (v := .str (five c)[i]) (.of ea) (atI_nat (by rw [List.getElem?_map, List.getElem?_eq_getElem hi5]; rfl)) ?_
    walk_at "sx"
    have ef : fnd c i = decide (c ∈ tl (five c)[i]) := by
      unfold fnd
      rw [List.getD_eq_getElem?_getD, List.getElem?_eq_getElem hi5]
      rfl
    have er : ∀ b : Bool, fnd c i = b → (List.range (i + 1)).filter (fnd c) = (List.range i).filter (fnd c) ++ (if b then [i] else []) := fun b hb => by
      rw [List.range_succ, List.filter_append]
      congr 1
      cases b with
      | true => rw [List.filter_cons_of_pos hb]; rfl
      | false => rw [List.filter_cons_of_neg (by rw [hb]; decide)]; rfl
    refine x_ite (fun cc => ?_) (fun cc => ?_)
    · walk_at "sx"
      refine ⟨_, eD, szl ?_, ?_, ?_, ?_, nDa⟩
      · rw [List.length_map, List.length_map]
        have := List.length_filter_le (fnd c) (List.range i)
        rw [List.length_range] at this
        omega
      · rw [upd_same, er true (by rw [ef]; exact decide_eq_true cc), List.map_append, List.map_append]
        rfl
      · intro b o hb
        rw [upd_ne (ne_of_none hb (sa.free hD))]
        exact sH b o hb
      · rw [upd_ne nDa.symm]
        exact ea
    · walk_at "sx"
      refine ⟨?_, sH, ea, nDa⟩
      rw [eD, er false (by rw [ef]; exact decide_eq_false cc)]
      simp
  · rintro D hD H' ⟨eD, sH, ea, nDa⟩
    walk_at "sx"
    have eh : ((((List.range (5 : Int).toNat).filter (fnd c)).map fun k : Nat => ((k : Nat) : Int)).map V.int)[0]? = some (.int (kindOf c)) := kind_head c
    refine x_ixL (.of eD) (at0 eh) ?_
    exact q H' sH
def HasKind (P : Program) (w : World) (K : PySem.W.Frag) (mg : Str → Option Value) (base : Heap) : Prop := Has P w K mg base 1 "_law_kind" ["bit"] (spKind K)
theorem ok_law_stuck (F : Fun K "_law_stuck" "_law_stuck" s_law_stuck f fd) (T : Txt mg) (C_law_kind : HasKind P w K mg base) : FnOk P w K mg base CX0 2 f fd ["left", "right"] (spStuck K) := by
  refine F.ok sc_law_stuck (fun vs H Q E h => ?_) (fun cdv A outer s H vs Q E hr h => ?_)
  · obtain ⟨y, z, c, d, t, r, rfl, _⟩ := h
    rfl
  obtain ⟨y, z, c, d, t, r, rfl, ey, ez, ly, lz, q⟩ := h
  have ez' : z.cps.toList = d :: r := ez
  refine ⟨_, (pss_cons (ps_set (i := 2) sc_law_stuck.nd rfl (Or.inl rfl) (pe_callH C_law_kind hr (pa_cons (pv 0) pa_nil)))
    (pss_cons (ps_set (i := 3) sc_law_stuck.nd rfl (Or.inl rfl) (pe_callH C_law_kind hr (pa_cons (pv 1) pa_nil)))
    (pss_cons (ps_if (PW.pt (pw_or (pt_cmpR op_gt (pv 2) pe_int (nomark _)) (pw_or (pt_cmpR op_gt (pv 3) pe_int (nomark _)) (pw_or1 (pt_cmpR op_eq (pe_ix ix_str (pv 1) pe_int (fun _ _ => rfl)) pe_str (nomark _))))))
      (pss_one (ps_ret (pe_and (pe_cmpR op_eq (pv 2) pe_int (nomark _)) (pe_one (pe_cmpR op_eq (pv 3) pe_int (nomark _))))))
      pss_nil)
    (pss_one (ps_ret (pe_or (pe_cmpR op_gt (pv 2) pe_int (nomark _)) (pe_one (pe_cmpR op_eq (pv 3) pe_int (nomark _))))))))), ?_⟩
  walk_at "sx"
  refine ⟨y, c, t, rfl, ey, ly, fun H1 s1 => ?_⟩
  walk_at "sx"
  refine ⟨z, d, r, rfl, ez, lz, fun H2 s2 => ?_⟩
  have s12 := s1.trans s2
  have e126 : (V.str ⟨#[d]⟩ = V.str ("~" : Str)) ↔ d = 126 := by
    rw [one_eq, show tl ("~" : Str) = [126] from by decide +kernel]
    exact ⟨fun h => (List.cons.inj h).1.symm, fun h => by rw [h]⟩
  have ns := @not_stuck c d
  have big : (kindOf c > 2 ∨ kindOf d > 1 ∨ d = 126) → ∀ b : Bool, (b = true ↔ kindOf c = 4 ∧ kindOf d = 4) → Q (.bl b) H2 := fun h b hb => by
    refine q b H2 s12 fun e => ns fun z => ?_
    rw [if_pos h, ← hb, e] at z
    cases z
  walk_at "sx"
  have bigV : ∀ h : (kindOf c > 2 ∨ kindOf d > 1 ∨ d = 126), (kindOf c = 4 → Q (.bl (decide (V.int (kindOf d) = V.int 4))) H2) ∧ (kindOf c ≠ 4 → Q (.bl false) H2) := fun h => by
    refine ⟨fun h4 => big h _ ?_, fun h4 => big h _ ?_⟩
    · rw [decide_eq_true_iff]
      exact ⟨fun z => ⟨h4, V.int.inj z⟩, fun z => by rw [z.2]⟩
    · exact ⟨(fun z => by cases z), fun z => absurd z.1 h4⟩
  have ei : ∀ a b : Int, (V.int a = V.int b) ↔ a = b := fun a b => ⟨V.int.inj, congrArg V.int⟩
  refine x_ite (fun c1 => ?_) (fun c1 => ?_)
  · walk_at "sx"
    refine x_ite (fun c4 => ?_) (fun c4 => ?_)
    · rw [ei] at c4
      walk_at "sx"
      exact (bigV (.inl c1)).1 c4
    · rw [ei] at c4
      walk_at "sx"
      exact (bigV (.inl c1)).2 c4
  walk_at "sx"
  refine x_ite (fun c2 => ?_) (fun c2 => ?_)
  · walk_at "sx"
    refine x_ite (fun c4 => ?_) (fun c4 => ?_)
    · rw [ei] at c4
      walk_at "sx"
      exact (bigV (.inr (.inl c2))).1 c4
    · rw [ei] at c4
      walk_at "sx"
      exact (bigV (.inr (.inl c2))).2 c4
  walk_at "sx"
  refine x_ixS (c := d) (sz (by omega)) (at0 (by rw [ez']; rfl)) ?_
  walk_at "sx"
  refine x_ite (fun c3 => ?_) (fun c3 => ?_)
  · rw [e126] at c3
    walk_at "sx"
    refine x_ite (fun c4 => ?_) (fun c4 => ?_)
    · rw [ei] at c4
      walk_at "sx"
      exact (bigV (.inr (.inr c3))).1 c4
    · rw [ei] at c4
      walk_at "sx"
      exact (bigV (.inr (.inr c3))).2 c4
  rw [e126] at c3
  have small : ∀ b : Bool, (b = true ↔ kindOf c > 0 ∨ kindOf d = 0) → Q (.bl b) H2 := fun b hb => by
    refine q b H2 s12 fun e => ns fun z => ?_
    rw [if_neg (by omega), ← hb, e] at z
    cases z
  walk_at "sx"
  refine x_ite (fun c5 => ?_) (fun c5 => ?_)
  · walk_at "sx"
    exact small true ⟨fun _ => .inl c5, fun _ => rfl⟩
  · walk_at "sx"
    refine small _ ?_
    rw [decide_eq_true_iff, ei]
    exact ⟨.inr, fun z => z.resolve_left c5⟩
def HasStuck (P : Program) (w : World) (K : PySem.W.Frag) (mg : Str → Option Value) (base : Heap) : Prop := Has P w K mg base 2 "_law_stuck" ["left", "right"] (spStuck K)
def spLine (K : PySem.W.Frag) : Sp := fun vs H Q _ => ∃ (a p l : Addr) (zs : List Str) (c : Int), vs = [.ref a, .ref p] ∧ SqL K H a (zs.map V.str) ∧ a ≠ p ∧ a ≠ l ∧ (∀ z ∈ zs, OkBit (tl z)) ∧ zs.length ≤ 1000 ∧ PoolAt H p l c ∧ c + 1050 ≤ 1000000000000 ∧
  ∀ (z : Str) (H' : Hp), Cut (tl z) (zs.map tl) → z.length ≤ 90000 → PoolAt H' p l (c + 1050) → Kx p l H H' → Q (.str z) H'
theorem Kx.sqL {K : PySem.W.Frag} {p l a : Addr} {H H' : Hp} {xs : List V} (k : Kx p l H H') (h1 : a ≠ p) (h2 : a ≠ l) (h : SqL K H a xs) : SqL K H' a xs := by
  rcases h with (h | ⟨o, h⟩) | h
  · exact .inl (.inl (k _ _ h h1 h2))
  · exact .inl (.inr ⟨o, k _ _ h h1 h2⟩)
  · exact .inr h
theorem blanks {n : Int} (h0 : 0 ≤ n) (h1 : n ≤ 10) : MulOk (" " : Str) n ∧ tl (Txt.mul (" " : Str) n) = List.replicate n.toNat 32 := by
  have e : (" " : Str) = ⟨#[32]⟩ := by decide +kernel
  refine ⟨?_, ?_⟩
  · rw [e]
    rcases (show n = 0 ∨ n = 1 ∨ n = 2 ∨ n = 3 ∨ n = 4 ∨ n = 5 ∨ n = 6 ∨ n = 7 ∨ n = 8 ∨ n = 9 ∨ n = 10 by omega) with rfl | rfl | rfl | rfl | rfl | rfl | rfl | rfl | rfl | rfl | rfl <;> exact ⟨by decide, by decide, by decide⟩
  · rw [e]
    exact mul_one_list 32 n
theorem ok_law_line (F : Fun K "_law_line" "_law_line" s_law_line f fd) (T : Txt mg) (C_law_take : HasTake P w K mg base) (C_law_stuck : HasStuck P w K mg base) : FnOk P w K mg base CX0 3 f fd ["bits", "pool"] (spLine K) := by
  refine F.ok sc_law_line (fun vs H Q E h => ?_) (fun cdv A outer s H vs Q E hr h => ?_)
  · obtain ⟨a, p, l, zs, c, rfl, _⟩ := h
    rfl
  obtain ⟨a, p, l, zs, c, rfl, hS, ap, al, hz, hz200, P0, hc, q⟩ := h
  refine ⟨_, (pss_cons (ps_set (i := 2) sc_law_line.nd rfl (Or.inl rfl) (pe_op op_strMul pe_str (pe_callH C_law_take hr (pa_cons (pv 1) (pa_cons pe_int pa_nil)))))
    (pss_cons (ps_set (i := 3) sc_law_line.nd rfl (Or.inl rfl) pe_str)
    (pss_cons (ps_for PassesOwn.never rfl (pi_list (pv 0)) (pg_name (i := 4) sc_law_line.nd rfl (.inl rfl))
      (pss_cons (ps_set (i := 5) sc_law_line.nd rfl (Or.inl rfl) (pe_callH C_law_take hr (pa_cons (pv 1) (pa_cons pe_int pa_nil))))
    (Evl.pss_cut (ps_if (PW.pt (pw_and (pt_cmpR op_eq (pv 5) pe_int (nomark _)) (pw_and1 (pt_val (pe_callH C_law_stuck hr (pa_cons (pv 3) (pa_cons (pv 4) pa_nil)))))))
      (pss_one (ps_set (i := 5) sc_law_line.nd rfl (Or.inl rfl) pe_int))
      pss_nil)
    (pss_cons (ps_set (i := 2) sc_law_line.nd rfl (Or.inl rfl) (pe_op op_add_str (pe_op op_add_str (pv 2) (pe_op op_strMul pe_str (pv 5))) (pv 4)))
    (pss_one (ps_set (i := 3) sc_law_line.nd rfl (Or.inl rfl) (pv 4)))))))
    (pss_one (ps_ret (pe_op op_add_str (pv 2) (pe_op op_strMul pe_str (pe_callH C_law_take hr (pa_cons (pv 1) (pa_cons pe_int pa_nil)))))))))), ?_⟩
  walk_at "sx"
  refine ⟨p, l, c, 3, rfl, P0, by omega, by decide, by decide, fun n H1 n0 n1 P1 k1 => ?_⟩
  walk_at "sx"
  obtain ⟨mo1, e1⟩ := blanks n0 (by omega)
  refine x_mul mo1 ?_
  walk_at "sx"
  refine x_forL (a := a) (xs := zs.map V.str) (fun i σ' H' => ∃ (txt last : Str) (cl : Nat) (tlast : List Nat) (x y : Option V), σ' = [some (.ref a), some (.ref p), some (.str txt), some (.str last), x, y] ∧ Laid (tl txt) ((zs.take i).map tl) cl ∧ tl last = cl :: tlast ∧ last.length ≤ 61 ∧
    txt.length ≤ 10 + 70 * i ∧ PoolAt H' p l (c + 1 + i) ∧ Kx p l H H') ?_ (fun i σ' H' _ h => ?_) (fun i x σ' H' hx h => ?_) (fun σ' H' h => ?_) (k1.sqL ap al hS)
  · refine ⟨_, _, 40, [], none, none, rfl, ?_, by decide +kernel, by decide +kernel, ?_, P1.mono (by omega), k1⟩
    · rw [e1]
      exact Laid.start _
    · rw [← tl_len, e1, List.length_replicate]
      omega
  · obtain ⟨_, _, _, _, _, _, _, _, _, _, _, _, kk⟩ := h
    exact kk.sqL ap al hS
  · obtain ⟨txt, last, cl, tlast, x0, y0, rfl, hlaid, elast, llast, ltxt, PH, kH⟩ := h
    obtain ⟨z, hzi, rfl⟩ : ∃ z, zs[i]? = some z ∧ x = .str z := by
      rw [List.getElem?_map] at hx
      cases e : zs[i]? with
      | none =>
        rw [e] at hx
        cases hx
      | some z =>
        rw [e] at hx
        exact ⟨z, rfl, (Option.some.inj hx).symm⟩
    have hil : i < zs.length := (List.getElem?_eq_some_iff.mp hzi).1
    have hok : OkBit (tl z) := hz z (List.mem_of_getElem? hzi)
    obtain ⟨d, r, ez, _, _⟩ := hok.ex
    have lz := hok.len
    rw [tl_len] at lz
    walk_at "sx"
    refine ⟨p, l, _, 3, rfl, PH, by omega, by decide, by decide, fun g H2 g0 g1 P2 k2 => ?_⟩
    walk_at "sx"
    refine x_cut (M := fun σ' G => ∃ g : Int, σ' = [some (.ref a), some (.ref p), some (.str txt), some (.str last), some (.str z), some (.int g)] ∧ 0 ≤ g ∧ g ≤ 3 ∧ (0 < g ∨ d ∉ cls cl) ∧ PoolAt G p l (c + 1 + i + 1) ∧ Kx p l H G) ?_ ?_
    · walk_at "sx"
      refine x_ite (fun cg => ?_) (fun cg => ?_)
      · walk_at "sx"
        refine ⟨last, z, cl, d, tlast, r, rfl, elast, ez, by omega, by omega, fun b H3 s3 hb => ?_⟩
        walk_at "sx"
        have PG := P2.same s3
        have kG : Kx p l H H3 := (kH.trans k2).trans (.of s3)
        refine x_iteB (fun eb => ?_) (fun eb => ?_)
        · walk_at "sx"
          exact ⟨1, rfl, by decide, by decide, .inl (by decide), PG, kG⟩
        · walk_at "sx"
          exact ⟨g, rfl, g0, by omega, .inr (hb eb), PG, kG⟩
      · walk_at "sx"
        have cg' : g ≠ 0 := fun h => cg (congrArg V.int h)
        exact ⟨g, rfl, g0, by omega, .inl (by omega), P2, kH.trans k2⟩
    · rintro σ' G ⟨g, rfl, g0, g3, hg, PG, kG⟩
      obtain ⟨mo2, e2⟩ := blanks g0 (by omega)
      have lg : (Txt.mul (" " : Str) g).length ≤ 3 := by
        rw [← tl_len, e2, List.length_replicate]
        omega
      walk_at "sx"
      refine x_mul mo2 ?_
      refine x_addS (sz (by omega)) ?_
      have lt2 : (txt ++ Txt.mul (" " : Str) g).length ≤ 13 + 70 * i := by
        rw [← tl_len, tl_append, List.length_append, tl_len, tl_len]
        omega
      walk_at "sx"
      refine x_addS (sz (by omega)) ?_
      walk_at "sx"
      refine ⟨_, z, d, r, some (.str z), some (.int g), rfl, ?_, ez, by omega, ?_, PG.mono (by omega), kG⟩
      · rw [tl_append, tl_append, e2, ez, List.take_add_one, hzi, List.map_append]
        have h3 := hlaid.add (g := g.toNat) (c := d) (t := r) (by rw [← ez]; exact hok) (hg.imp (fun h => by omega) id)
        rw [← ez] at h3 ⊢
        exact h3
      · rw [← tl_len, tl_append, List.length_append, tl_len, tl_len]
        omega
  · obtain ⟨txt, last, cl, tlast, x0, y0, rfl, hlaid, elast, llast, ltxt, PH, kH⟩ := h
    rw [List.length_map] at hlaid ltxt PH
    rw [List.take_length] at hlaid
    walk_at "sx"
    refine ⟨p, l, _, 3, rfl, PH, by omega, by decide, by decide, fun g H2 g0 g1 P2 k2 => ?_⟩
    obtain ⟨mo2, e2⟩ := blanks g0 (by omega)
    have lg : (Txt.mul (" " : Str) g).length ≤ 3 := by
      rw [← tl_len, e2, List.length_replicate]
      omega
    walk_at "sx"
    refine x_mul mo2 ?_
    refine x_addS (sz (by omega)) ?_
    walk_at "sx"
    refine q _ H2 ?_ ?_ (P2.mono (by omega)) (kH.trans k2)
    · rw [tl_append, e2]
      exact hlaid.done _
    · rw [← tl_len, tl_append, List.length_append, tl_len, tl_len]
      omega
end
end Gs
namespace Gs
open PySem PySem.Spec PyProof.Rows L2 TL SrtK
abbrev s_law_spelt : Stmt := PySem.Challenge.pw_goalstead_k14_goals_by_their_shapes.main.body.getD 81 (.Pass ⟨0, 0, 0, 0⟩)
theorem sc_law_spelt : FnScope ["thing", "top", "ops", "pool", "held", "row", "paired", "bits", "k"] ["thing", "top", "ops", "pool", "held"] (defScope s_law_spelt) := ⟨rfl, rfl, rfl, by decide +kernel, rfl, by decide +kernel, by decide +kernel⟩
/-! ### a pattern spelt with needless brackets -/
def joinC : List (List Str) → List Str
  | [] => []
  | [t] => t
  | t :: u :: r => t ++ ("," : Str) :: joinC (u :: r)
theorem joinC_commas : ∀ {zss : List (List Str)}, 0 < zss.length → commas zss = joinC zss ++ [(")" : Str)]
  | [], h => absurd h (by simp)
  | [t], _ => rfl
  | t :: u :: r, _ => by
    show t ++ ("," : Str) :: commas (u :: r) = (t ++ ("," : Str) :: joinC (u :: r)) ++ _
    rw [joinC_commas (zss := u :: r) (by simp)]
    simp
theorem joinC_snoc : ∀ (zss : List (List Str)) (z : List Str), joinC (zss ++ [z]) = joinC zss ++ (if zss.length = 0 then [] else [("," : Str)]) ++ z
  | [], z => by simp [joinC]
  | [t], z => by simp [joinC]
  | t :: u :: r, z => by
    show t ++ ("," : Str) :: joinC ((u :: r) ++ [z]) = (t ++ ("," : Str) :: joinC (u :: r)) ++ _ ++ z
    rw [joinC_snoc (u :: r) z]
    simp
/-- what is told of a spelling, no pair of brackets round it yet -/
structure Spl0 (R : List Op) (lv : Int) (held : Int) (u : Pt) (zs : List Str) : Prop where
  sp : ∀ d, 2 * dpT u ≤ d + 1 → ∃ lev, lev ≤ lv ∧ Spt R d lev u zs
  ok : ∀ z ∈ zs, OkBit (tl z)
  op : Opn zs (20 - held)
  ln : zs.length + 3 ≤ 5 * szT u
structure Spl (R : List Op) (lv : Int) (held : Int) (u : Pt) (zs : List Str) : Prop where
  sp : ∀ d, 2 * dpT u ≤ d → ∃ lev, lev ≤ lv ∧ Spt R d lev u zs
  ok : ∀ z ∈ zs, OkBit (tl z)
  op : Opn zs (20 - held)
  ln : zs.length + 1 ≤ 5 * szT u
theorem Spl0.spl {R : List Op} {lv held top : Int} {u : Pt} {zs : List Str} (h : Spl0 R lv held u zs) (ht : lv ≤ top) : Spl R top held u zs := by
  refine ⟨fun d hd => ?_, h.ok, h.op, by have := h.ln; omega⟩
  obtain ⟨lev, h1, h2⟩ := h.sp d (by omega)
  exact ⟨lev, by omega, h2⟩
theorem ok_open : OkBit (tl ("(" : Str)) := by rw [tl_op]; exact ok_sign (.inl rfl)
theorem ok_shut : OkBit (tl (")" : Str)) := by rw [tl_cl]; exact ok_sign (.inr (.inl rfl))
theorem ok_comma : OkBit (tl ("," : Str)) := by rw [show tl ("," : Str) = [44] from by decide +kernel]; exact ok_sign (.inr (.inr rfl))
theorem Spl0.pair {R : List Op} {lv held top : Int} {u : Pt} {zs : List Str} (h : Spl0 R lv (held + 1) u zs) (h9 : lv ≤ 9) (h0 : 0 ≤ top) (hh : held + 1 ≤ 20) : Spl R top held u (("(" : Str) :: (zs ++ [(")" : Str)])) := by
  refine ⟨fun d hd => ?_, fun z hz => ?_, ?_, ?_⟩
  · have := dpT_pos u
    obtain ⟨d, rfl⟩ : ∃ e, d = e + 1 := ⟨d - 1, by omega⟩
    obtain ⟨lev, h1, h2⟩ := h.sp d (by omega)
    exact ⟨0, h0, (Prim.paren h2 (by omega)).spt⟩
  · rcases List.mem_cons.mp hz with rfl | hz
    · exact ok_open
    · rcases List.mem_append.mp hz with hz | hz
      · exact h.ok z hz
      · rw [List.mem_singleton.mp hz]
        exact ok_shut
  · have := opn_par h.op (by omega)
    exact this.mono (by omega)
  · have := h.ln
    rw [List.length_cons, List.length_append, List.length_singleton]
    omega
def rowU (R : List Op) : Pt → Option Op
  | .t nm ps => rowOf R nm ps.length
  | _ => none
def lvU (R : List Op) (u : Pt) : Int := match rowU R u with | some o => o.l | none => 0
def RvAt (K : PySem.W.Frag) (H : Hp) (v : V) : Option Op → Prop
  | none => v = .non
  | some o => ∃ t, v = .ref t ∧ SqT K H t (rowV o)
theorem RvAt.same {K : PySem.W.Frag} {H G : Hp} {v : V} {r : Option Op} (h : RvAt K H v r) (s : Same H G) : RvAt K G v r := by
  cases r with
  | none => exact h
  | some o =>
    obtain ⟨t, e, st⟩ := h
    exact ⟨t, e, Same.sqT s st⟩
theorem RvAt.kx {K : PySem.W.Frag} {p l : Addr} {c : Int} {H G : Hp} {v : V} {r : Option Op} (h : RvAt K H v r) (k : Kx p l H G) (P : PoolAt H p l c) : RvAt K G v r := by
  cases r with
  | none => exact h
  | some o =>
    obtain ⟨t, e, st⟩ := h
    exact ⟨t, e, k.sqT P st⟩
theorem rdL_mem {R : List Op} : ∀ {ps : List Pt} {p : Pt}, rdL R ps → p ∈ ps → rdT R p
  | [], _, _, h => by cases h
  | x :: r, p, h, hp => by
    rw [rdL] at h
    rcases List.mem_cons.mp hp with rfl | hp
    · exact h.1
    · exact rdL_mem h.2 hp
theorem fig_bit (n : Int) (h : n.natAbs < 10 ^ 60) : OkBit (tl (figS n)) := by
  rw [figS_tl, figT]
  split
  · exact ok_neg (by omega) (by omega)
  · exact ok_num (by omega)
theorem nm_bit {z : Str} (h : NmOk z) : OkBit (tl z) := by
  obtain ⟨way, h⟩ := h
  exact h.bit
theorem spl_int {R : List Op} {n : Int} {held : Int} (h : rdT R (.i n)) (hh : held ≤ 20) : Spl0 R 0 held (.i n) [figS n] := by
  rw [rdT] at h
  refine ⟨fun d hd => ?_, fun z hz => ?_, (opn_name (figS_sign n).1 (figS_sign n).2).mono (by omega), by simp [szT]⟩
  · rw [dpT] at hd
    obtain ⟨d, rfl⟩ : ∃ e, d = e + 1 := ⟨d - 1, by omega⟩
    exact ⟨0, Int.le_refl _, (Prim.num ⟨figS_tl n, h.1, h.2⟩).spt⟩
  · rw [List.mem_singleton.mp hz]
    exact fig_bit n h.1
theorem spl_str {R : List Op} {z : Str} {held : Int} (h : rdT R (.s z)) (hz : NmOk z) (hh : held ≤ 20) : Spl0 R 0 held (.s z) [z] := by
  have sg : z ≠ ("(" : Str) ∧ z ≠ (")" : Str) := by
    rw [rdT] at h
    rcases h with ⟨⟨c, t, e, hc⟩, _⟩ | h
    · have := sC_iff.mp hc
      exact not_sign e (by omega) (by omega)
    · exact wd_sign h
  rw [rdT] at h
  refine ⟨fun d hd => ?_, fun y hy => ?_, (opn_name sg.1 sg.2).mono (by omega), by simp [szT]⟩
  · rw [dpT] at hd
    obtain ⟨d, rfl⟩ : ∃ e, d = e + 1 := ⟨d - 1, by omega⟩
    rcases h with h | h
    · exact ⟨0, Int.le_refl _, (Prim.unk h).spt⟩
    · exact ⟨0, Int.le_refl _, (Prim.word h).spt⟩
  · rw [List.mem_singleton.mp hy]
    exact nm_bit hz
/-- the parts of a plain tuple, spelt -/
structure Prts (R : List Op) (held : Int) (ps : List Pt) (zss : List (List Str)) : Prop where
  len : zss.length = ps.length
  sp : ∀ (i : Nat) (p : Pt) (z : List Str), ps[i]? = some p → zss[i]? = some z → Spl R 9 held p z
  ln : (joinC zss).length + (if zss.length = 0 then 0 else 1) ≤ 5 * szL ps
theorem Prts.nil {R : List Op} {held : Int} : Prts R held [] [] := ⟨rfl, fun _ _ _ h => (by cases h), by simp [joinC]⟩
theorem Prts.snoc {R : List Op} {held : Int} {ps : List Pt} {zss : List (List Str)} {p : Pt} {z : List Str} (h : Prts R held ps zss) (hz : Spl R 9 held p z) : Prts R held (ps ++ [p]) (zss ++ [z]) := by
  have hl := h.len
  refine ⟨by rw [List.length_append, List.length_append, hl]; rfl, fun i q y h1 h2 => ?_, ?_⟩
  · by_cases c : i < ps.length
    · rw [List.getElem?_append_left c] at h1
      rw [List.getElem?_append_left (by omega)] at h2
      exact h.sp i q y h1 h2
    · rw [List.getElem?_append_right (by omega)] at h1
      rw [List.getElem?_append_right (by omega), hl] at h2
      cases e : i - ps.length with
      | zero =>
        rw [e] at h1 h2
        cases h1
        cases h2
        exact hz
      | succ j =>
        rw [e] at h1
        cases h1
  · have h1 := h.ln
    have h2 := hz.ln
    rw [joinC_snoc, szL_append, List.length_append, List.length_append, List.length_append, List.length_singleton]
    simp only [szL]
    by_cases c : zss.length = 0
    · rw [if_pos c] at h1 ⊢
      rw [if_neg (by omega)]
      rw [List.length_nil]
      omega
    · rw [if_neg c] at h1 ⊢
      rw [if_neg (by omega)]
      rw [List.length_singleton]
      omega
theorem sptL_of {R : List Op} {d : Nat} : ∀ {ps : List Pt} {zss : List (List Str)}, zss.length = ps.length → 0 < ps.length → (∀ (i : Nat) (p : Pt) (z : List Str), ps[i]? = some p → zss[i]? = some z → ∃ lev, lev ≤ 9 ∧ Spt R d lev p z) → SptL R d ps (commas zss)
  | [], _, _, h, _ => absurd h (by simp)
  | _ :: _, [], h, _, _ => by simp at h
  | [p], [z], _, _, h => by
    obtain ⟨lev, h1, h2⟩ := h 0 p z rfl rfl
    exact .one h2 h1
  | [_], _ :: _ :: _, h, _, _ => by simp at h
  | _ :: _ :: _, [_], h, _, _ => by simp at h
  | p :: q :: r, z :: y :: s, hl, _, h => by
    obtain ⟨lev, h1, h2⟩ := h 0 p z rfl rfl
    exact .cons h2 h1 (sptL_of (ps := q :: r) (zss := y :: s) (by simpa using hl) (by simp) fun i p z e1 e2 => h (i + 1) p z e1 e2)
theorem joinC_mem : ∀ {zss : List (List Str)} {z : Str}, z ∈ joinC zss → z = ("," : Str) ∨ ∃ t ∈ zss, z ∈ t
  | [], _, h => by cases h
  | [t], z, h => .inr ⟨t, List.mem_cons_self .., h⟩
  | t :: u :: r, z, h => by
    rcases List.mem_append.mp (show z ∈ t ++ ("," : Str) :: joinC (u :: r) from h) with h | h
    · exact .inr ⟨t, List.mem_cons_self .., h⟩
    · rcases List.mem_cons.mp h with h | h
      · exact .inl h
      · rcases joinC_mem h with h | ⟨s, h1, h2⟩
        · exact .inl h
        · exact .inr ⟨s, List.mem_cons_of_mem _ h1, h2⟩
theorem Prts.all {R : List Op} {held : Int} {nm : Str} {ps : List Pt} {zss : List (List Str)} (h : Prts R (held + 1) ps zss) (l0 : 0 < ps.length) (l4 : ps.length ≤ 4) (hw : Wd R nm) (hn : NmOk nm) (hh : held ≤ 19) : Spl0 R 0 held (.t nm ps) (nm :: ("(" : Str) :: (joinC zss ++ [(")" : Str)])) := by
  have hl := h.len
  rw [← joinC_commas (by omega)]
  have sg := wd_sign hw
  refine ⟨fun d hd => ?_, fun z hz => ?_, ?_, ?_⟩
  · rw [dpT] at hd
    obtain ⟨d, rfl⟩ : ∃ e, d = e + 1 := ⟨d - 1, by omega⟩
    refine ⟨0, Int.le_refl _, (Prim.comp hw l0 l4 (sptL_of hl l0 fun i p z h1 h2 => (h.sp i p z h1 h2).sp d ?_)).spt⟩
    have := dpL_mem (List.mem_of_getElem? h1)
    omega
  · rcases List.mem_cons.mp hz with rfl | hz
    · exact nm_bit hn
    · rcases List.mem_cons.mp hz with rfl | hz
      · exact ok_open
      · rw [joinC_commas (by omega)] at hz
        rcases List.mem_append.mp hz with hz | hz
        · rcases joinC_mem hz with rfl | ⟨t, h1, h2⟩
          · exact ok_comma
          · obtain ⟨i, hi⟩ := List.getElem?_of_mem h1
            have hil : i < ps.length := by
              have := (List.getElem?_eq_some_iff.mp hi).1
              omega
            exact (h.sp i _ t (List.getElem?_eq_getElem hil) hi).ok z h2
        · rw [List.mem_singleton.mp hz]
          exact ok_shut
  · refine opn_cons sg.1 sg.2 (fun m c => ?_) (by omega)
    rw [List.foldl_cons, mo_open]
    obtain ⟨m2, e2, h2⟩ := opn_commas (k := 20 - (held + 1)) (by omega) zss (by omega) (fun t ht => by
      obtain ⟨i, hi⟩ := List.getElem?_of_mem ht
      have hil : i < ps.length := by
        have := (List.getElem?_eq_some_iff.mp hi).1
        omega
      exact (h.sp i _ t (List.getElem?_eq_getElem hil) hi).op) (if c + 1 > m then c + 1 else m) (c + 1)
    refine ⟨m2, by rw [e2, Int.add_sub_cancel], ?_⟩
    split at h2 <;> omega
  · have := h.ln
    rw [if_neg (by omega)] at this
    rw [szT, List.length_cons, List.length_cons, joinC_commas (by omega), List.length_append, List.length_singleton]
    omega
theorem spl_ahead {R : List Op} {nm : Str} {x : Pt} {o : Op} {held : Int} {zs : List Str} (ho : rowOf R nm 1 = some o) (hn : NmOk nm) (br : ∀ z ∈ ([("(" : Str), (")" : Str), ("," : Str)] : List Str), rowOf R z 1 = none ∧ rowOf R z 2 = none) (h : Spl R (o.l - 1) held x zs) (hh : held ≤ 20) : Spl0 R o.l held (.t nm [x]) (nm :: zs) := by
  have sg := row_sign br (.inl rfl) ho
  refine ⟨fun d hd => ?_, fun z hz => ?_, opn_cons sg.1 sg.2 h.op (by omega), ?_⟩
  · rw [dpT, dpL, dpL] at hd
    obtain ⟨d, rfl⟩ : ∃ e, d = e + 1 := ⟨d - 1, by omega⟩
    obtain ⟨lev, h1, h2⟩ := h.sp d (by omega)
    exact ⟨o.l, Int.le_refl _, (Prim.ahead ho h2 h1).spt⟩
  · rcases List.mem_cons.mp hz with rfl | hz
    · exact nm_bit hn
    · exact h.ok z hz
  · have := h.ln
    rw [szT, szL, szL, List.length_cons]
    omega
theorem spl_between {R : List Op} {nm : Str} {x y : Pt} {o : Op} {held : Int} {zs ys : List Str} (ho : rowOf R nm 2 = some o) (hn : NmOk nm) (br : ∀ z ∈ ([("(" : Str), (")" : Str), ("," : Str)] : List Str), rowOf R z 1 = none ∧ rowOf R z 2 = none) (h : Spl R (lbO o) held x zs) (g : Spl R (rbO o) held y ys) (hh : held ≤ 20) : Spl0 R o.l held (.t nm [x, y]) (zs ++ [nm] ++ ys) := by
  have sg := row_sign br (.inr rfl) ho
  refine ⟨fun d hd => ?_, fun z hz => ?_, ?_, ?_⟩
  · rw [dpT, dpL, dpL, dpL] at hd
    obtain ⟨d, rfl⟩ : ∃ e, d = e + 1 := ⟨d - 1, by omega⟩
    obtain ⟨la, h1, h2⟩ := h.sp (d + 1) (by omega)
    obtain ⟨le, h3, h4⟩ := g.sp d (by omega)
    refine ⟨o.l, Int.le_refl _, ?_⟩
    have := Spt.join ho h2 h1 h4 h3
    simpa using this
  · rcases List.mem_append.mp hz with hz | hz
    · rcases List.mem_append.mp hz with hz | hz
      · exact h.ok z hz
      · rw [List.mem_singleton.mp hz]
        exact nm_bit hn
    · exact g.ok z hz
  · rw [List.append_assoc]
    exact h.op.app (opn_cons sg.1 sg.2 g.op (by omega))
  · have := h.ln
    have := g.ln
    rw [szT, szL, szL, szL, List.length_append, List.length_append, List.length_singleton]
    omega
theorem cut_comma (i : Nat) : cutV [V.str ("," : Str)] none (some (if decide ((1 : Int) < 1 + (i : Int)) = true then (1 : Int) else 0)) = (if i = 0 then [] else [("," : Str)]).map V.str := by
  by_cases h : i = 0
  · rw [if_pos h, if_neg (by rw [decide_eq_true_iff]; omega)]
    exact cut_take20 (j := 0) (Nat.zero_le _)
  · rw [if_neg h, if_pos (by rw [decide_eq_true_iff]; omega)]
    exact cut_take20 (j := 1) (Nat.le_refl _)
def spSpelt (K : PySem.W.Frag) (k : Nat) : Sp := fun vs H Q _ => ∃ (x : V) (u : Pt) (top : Int) (b : Addr) (es : List V) (ops : List Op) (p l : Addr) (c held : Int), vs = [x, .int top, .ref b, .ref p, .int held] ∧ PtAt K H k x u ∧ okT NmOk NmOk u ∧ rdT (ownL ++ ops) u ∧ H b = some (.lst es) ∧ b ≠ p ∧ b ≠ l ∧ RowsAt K H es ops ∧ OpsOk ops ∧ 0 ≤ top ∧ top ≤ 9 ∧ PoolAt H p l c ∧ c + szT u ≤ 1000000000000 ∧ szT u ≤ 1000 ∧ 0 ≤ held ∧ held + dpT u ≤ 21 ∧
  ∀ D zs H', Spl (ownL ++ ops) top held u zs → H' D = some (.lst (zs.map V.str)) → D ≠ p → D ≠ l → PoolAt H' p l (c + szT u) → Kx p l H H' → Q (.ref D) H'
section
variable {P : Program} {w : World} {K : PySem.W.Frag} {mg : Str → Option Value} {base : Heap} {f : Addr} {fd : FuncData}
def HasSpelt (k : Nat) (P : Program) (w : World) (K : PySem.W.Frag) (mg : Str → Option Value) (base : Heap) : Prop := Has P w K mg base (k + 22) "_law_spelt" ["thing", "top", "ops", "pool", "held"] (spSpelt K k)
theorem ok_law_spelt (F : Fun K "_law_spelt" "_law_spelt" s_law_spelt f fd) (T : Txt mg) (C_law_take : HasTake P w K mg base) (C_law_figure : HasFig P w K mg base) (C_law_row : HasRow P w K mg base) (C_law_weight : HasWt 21 P w K mg base) (b : Binds K fd ["thing", "top", "ops", "pool", "held"] []) (kp : PySem.W.keepIn K (.ref f) = true) (m : mg "_law_spelt" = some (.ref f)) : ∀ k, FnOk P w K mg base CX0 (k + 22) f fd ["thing", "top", "ops", "pool", "held"] (spSpelt K k)
  | 0 => ⟨fun vs H Q E h => by
      obtain ⟨v, p, _, _, _, _, _, _, _, _, _, h, _⟩ := h
      exact h.elim, fun A outer s H args us vs Q E _ _ _ _ h => by
      obtain ⟨v, p, _, _, _, _, _, _, _, _, _, h, _⟩ := h
      exact h.elim⟩
  | k + 1 => by
    have C_law_spelt : HasSpelt k P w K mg base := ⟨f, fd, ok_law_spelt F T C_law_take C_law_figure C_law_row C_law_weight b kp m k, b, kp, m⟩
    refine F.ok sc_law_spelt (fun vs H Q E h => ?_) (fun cdv A outer s H vs Q E hr h => ?_)
    · obtain ⟨v, u, _, _, _, _, _, _, _, _, rfl, _⟩ := h
      rfl
    obtain ⟨v, u, top, bo, es, ops, p, l, c, held, rfl, hp, ok, hrd, hb, bp, bl, hrow, oko, h0, h9, P0, hc, hsz, hh0, hh, q⟩ := h
    have br := (tab_ok oko).br
    have hd0 := dpT_pos u
    have hs0 := szT_pos u
    refine ⟨_, (pss_cons (ps_set (i := 5) sc_law_spelt.nd rfl (Or.inl rfl) pe_non)
    (Evl.pss_cut (ps_if (pt_val (pe_callB (call_isiKK (K := K)) (by rfl) T.z_isinstance (by decide +kernel) (pa_cons (pv 0) (pa_cons (pe_bltn (v := .ty "tuple") (by rfl) T.z_tuple (by decide +kernel) rfl) pa_nil))))
      (pss_one (ps_set (i := 5) sc_law_spelt.nd rfl (Or.inl rfl) (pe_callH C_law_row hr (pa_cons (pe_ix (ix_tupK (K := K)) (pv 0) pe_int (fun _ _ => rfl)) (pa_cons (pe_op op_sub (pe_callB (call_lenK (K := K)) (by rfl) T.z_len (by decide +kernel) (pa_cons (pv 0) pa_nil)) pe_int) (pa_cons (pv 2) pa_nil))) (hk := by omega))))
      pss_nil)
    (Evl.pss_cut (ps_set (i := 6) sc_law_spelt.nd rfl (Or.inl rfl) (pe_and (pe_cmpR op_notN (pv 5) pe_non (nomark _)) (pe_one (pe_cmpR op_gt (pe_ix (ix_tupK (K := K)) (pv 5) pe_int (fun _ _ => rfl)) (pv 1) (nomark _)))))
    (Evl.pss_cut (ps_if (PW.pt (pw_and (pt_cmpR op_notN (pv 3) pe_non (nomark _)) (pw_and (pt_cmpR op_eq (pe_callH C_law_take hr (pa_cons (pv 3) (pa_cons pe_int pa_nil)) (hk := by omega)) pe_int (nomark _)) (pw_and1 (pt_cmpR op_le (pe_op op_add (pv 4) (pe_ix (ix_tupK (K := K)) (pe_callH C_law_weight hr (pa_cons (pv 0) pa_nil) (hk := by omega)) pe_int (fun _ _ => rfl))) pe_int (nomark _))))))
      (pss_one (ps_set (i := 6) sc_law_spelt.nd rfl (Or.inl rfl) pe_bl))
      pss_nil)
    (pss_cons (ps_set (i := 4) sc_law_spelt.nd rfl (Or.inl rfl) (pe_op op_add (pv 4) (pe_callTy call_int1 (by rfl) T.z_int (by decide +kernel) (pa_cons (pv 6) pa_nil))))
    (Evl.pss_cut (ps_if (pt_not (pt_val (pe_callB (call_isiKK (K := K)) (by rfl) T.z_isinstance (by decide +kernel) (pa_cons (pv 0) (pa_cons (pe_bltn (v := .ty "tuple") (by rfl) T.z_tuple (by decide +kernel) rfl) pa_nil)))))
      (pss_one (ps_set (i := 7) sc_law_spelt.nd rfl (Or.inl rfl) (pe_lst (pa_cons (pe_callH C_law_figure hr (pa_cons (pv 0) pa_nil) (hk := by omega)) pa_nil))))
      (pss_one (ps_if (pt_cmpR op_isN (pv 5) pe_non (nomark _))
      (pss_cons (ps_set (i := 7) sc_law_spelt.nd rfl (Or.inl rfl) (pe_lst (pa_cons (pe_ix (ix_tupK (K := K)) (pv 0) pe_int (fun _ _ => rfl)) (pa_cons pe_str pa_nil))))
    (pss_cons (ps_for PassesOwn.never rfl (pi_range2 (by rfl) T.z_range (pa_cons pe_int (pa_cons (pe_callB (call_lenK (K := K)) (by rfl) T.z_len (by decide +kernel) (pa_cons (pv 0) pa_nil)) pa_nil))) (pg_name (i := 8) sc_law_spelt.nd rfl (.inl rfl))
      (pss_one (ps_set (i := 7) sc_law_spelt.nd rfl (Or.inl rfl) (pe_op op_cat (pe_op op_cat (pv 7) (pe_slice (sl_listK (K := K)) (pe_lst (pa_cons pe_str pa_nil)) po_none (po_some (pe_callTy call_int1 (by rfl) T.z_int (by decide +kernel) (pa_cons (pe_cmpR op_gt (pv 8) pe_int (nomark _)) pa_nil))))) (pe_callH C_law_spelt hr (pa_cons (pe_ix (ix_tupK (K := K)) (pv 0) (pv 8) (fun _ _ => rfl)) (pa_cons pe_int (pa_cons (pv 2) (pa_cons (pv 3) (pa_cons (pe_op op_add (pv 4) pe_int) pa_nil))))) (hk := Nat.le_refl _))))))
    (pss_one (ps_set (i := 7) sc_law_spelt.nd rfl (Or.inl rfl) (pe_op op_cat (pv 7) (pe_lst (pa_cons pe_str pa_nil)))))))
      (pss_one (ps_if (pt_cmpR op_eq (pe_ix (ix_tupK (K := K)) (pv 5) pe_int (fun _ _ => rfl)) pe_str (nomark _))
      (pss_one (ps_set (i := 7) sc_law_spelt.nd rfl (Or.inl rfl) (pe_op op_cat (pe_lst (pa_cons (pe_ix (ix_tupK (K := K)) (pv 0) pe_int (fun _ _ => rfl)) pa_nil)) (pe_callH C_law_spelt hr (pa_cons (pe_ix (ix_tupK (K := K)) (pv 0) pe_int (fun _ _ => rfl)) (pa_cons (pe_op op_sub (pe_ix (ix_tupK (K := K)) (pv 5) pe_int (fun _ _ => rfl)) pe_int) (pa_cons (pv 2) (pa_cons (pv 3) (pa_cons (pv 4) pa_nil))))) (hk := Nat.le_refl _)))))
      (pss_cons (ps_set (i := 7) sc_law_spelt.nd rfl (Or.inl rfl) (pe_op op_cat (pe_callH C_law_spelt hr (pa_cons (pe_ix (ix_tupK (K := K)) (pv 0) pe_int (fun _ _ => rfl)) (pa_cons (pe_op op_sub (pe_ix (ix_tupK (K := K)) (pv 5) pe_int (fun _ _ => rfl)) (pe_callTy call_int1 (by rfl) T.z_int (by decide +kernel) (pa_cons (pe_cmpR op_ne (pe_ix (ix_tupK (K := K)) (pv 5) pe_int (fun _ _ => rfl)) pe_str (nomark _)) pa_nil))) (pa_cons (pv 2) (pa_cons (pv 3) (pa_cons (pv 4) pa_nil))))) (hk := Nat.le_refl _)) (pe_lst (pa_cons (pe_ix (ix_tupK (K := K)) (pv 0) pe_int (fun _ _ => rfl)) pa_nil))))
    (pss_one (ps_set (i := 7) sc_law_spelt.nd rfl (Or.inl rfl) (pe_op op_cat (pv 7) (pe_callH C_law_spelt hr (pa_cons (pe_ix (ix_tupK (K := K)) (pv 0) pe_int (fun _ _ => rfl)) (pa_cons (pe_op op_sub (pe_ix (ix_tupK (K := K)) (pv 5) pe_int (fun _ _ => rfl)) (pe_callTy call_int1 (by rfl) T.z_int (by decide +kernel) (pa_cons (pe_cmpR op_ne (pe_ix (ix_tupK (K := K)) (pv 5) pe_int (fun _ _ => rfl)) pe_str (nomark _)) pa_nil))) (pa_cons (pv 2) (pa_cons (pv 3) (pa_cons (pv 4) pa_nil))))) (hk := Nat.le_refl _)))))))))))
    (pss_cons (ps_if (pt_val (pv 6))
      (pss_one (ps_ret (pe_op op_cat (pe_op op_cat (pe_lst (pa_cons pe_str pa_nil)) (pv 7)) (pe_lst (pa_cons pe_str pa_nil)))))
      pss_nil)
    (pss_one (ps_ret (pv 7)))))))))), ?_⟩
    walk_at "sx"
    refine x_cut (M := fun σ' G => ∃ (rv : V), σ' = [some v, some (.int top), some (.ref bo), some (.ref p), some (.int held), some rv, none, none, none] ∧ RvAt K G rv (rowU (ownL ++ ops) u) ∧ Same H G) ?_ ?_
    · walk_at "sx"
      rcases hp.three with ⟨n, rfl, rfl⟩ | ⟨z, rfl, rfl⟩ | ⟨j, nm, ps, a, ys, ej, rfl, rfl, sa, pq⟩
      · refine x_isT (t := .type "int") (c := false) (.base (.int n)) (kit_ty (by decide +kernel)) ?_
        walk_at "sx"
        exact ⟨_, rfl, rfl, same_refl _⟩
      · refine x_isT (t := .type "str") (c := false) (.base (.str z)) (kit_ty (by decide +kernel)) ?_
        walk_at "sx"
        exact ⟨_, rfl, rfl, same_refl _⟩
      · refine x_isT (t := .type "tuple") (c := true) (ty_tup sa) (kit_ty (by decide +kernel)) ?_
        walk_at "sx"
        refine ⟨nm, ps.length, bo, es, ops, by rw [List.length_cons, pq.1]; congr 2; simp, hb, hrow, Nat.le_trans oko.len (by decide), fun hn G0 s0 => ?_, fun o ho t G0 s0 st => ?_⟩
        · walk_at "sx"
          exact ⟨_, rfl, by rw [rowU, hn]; rfl, s0⟩
        · walk_at "sx"
          exact ⟨_, rfl, by rw [rowU, ho]; exact ⟨t, rfl, st⟩, s0⟩
    · rintro σ' G ⟨rv, rfl, hrv, sG⟩
      have PG := P0.same sG
      have kG : Kx p l H G := .of sG
      walk_at "sx"
      refine x_cut (M := fun σ' G' => ∃ (pb : Bool), σ' = [some v, some (.int top), some (.ref bo), some (.ref p), some (.int held), some rv, some (.bl pb), none, none] ∧ (pb = true ↔ lvU (ownL ++ ops) u > top) ∧ G' = G) ?_ ?_
      · walk_at "sx"
        refine ⟨rfl, _, rfl, ?_⟩
        cases er : rowU (ownL ++ ops) u with
        | none =>
          rw [er] at hrv
          cases hrv
          rw [if_neg (by simp)]
          walk_at "sx"
          refine ⟨false, rfl, ⟨fun h => (by cases h), fun h => ?_⟩, rfl⟩
          unfold lvU at h
          rw [er] at h
          have h' : (0 : Int) > top := h
          omega
        | some o =>
          rw [er] at hrv
          obtain ⟨t, rfl, st⟩ := hrv
          rw [if_pos (by simp)]
          walk_at "sx"
          refine ⟨_, rfl, ?_, rfl⟩
          unfold lvU
          rw [er]
          simp
      · rintro σ' G' ⟨pb, rfl, hpb, rfl⟩
        walk_at "sx"
        refine x_cut (M := fun σ' G' => ∃ (pb : Bool), σ' = [some v, some (.int top), some (.ref bo), some (.ref p), some (.int held), some rv, some (.bl pb), none, none] ∧ (lvU (ownL ++ ops) u > top → pb = true) ∧ (pb = true → held + 1 ≤ 20 ∧ (lvU (ownL ++ ops) u > top ∨ held + dpT u ≤ 12)) ∧ PoolAt G' p l (c + 1) ∧ Kx p l H G' ∧ RvAt K G' rv (rowU (ownL ++ ops) u)) ?_ ?_
        · walk_at "sx"
          refine ⟨rfl, _, rfl, x_iteN (fun _ => ?_) (fun z => by cases z)⟩
          walk_at "sx"
          have keep : ∀ (x : Prop), PoolAt G' p l (c + 1) → x → x := fun _ _ h => h
          refine ⟨p, l, c, 4, rfl, PG, by omega, by decide, by decide, fun n1 H1 n10 n11 P1 k1 => ?_⟩
          have k01 := kG.trans k1
          have hv1 := hp.kx k01 P0
          have hrv1 := hrv.kx k1 PG
          have stay : lvU (ownL ++ ops) u > top → held + 1 ≤ 20 := fun h => by
            cases u with
            | i n =>
              have h' : (0 : Int) > top := h
              omega
            | s z =>
              have h' : (0 : Int) > top := h
              omega
            | t nm ps =>
              rw [okT] at ok
              have h1 : 1 ≤ dpL ps := by
                cases ps with
                | nil => simp at ok
                | cons x r =>
                  rw [dpL]
                  have := dpT_pos x
                  omega
              rw [dpT] at hh
              omega
          have old : pb = true → held + 1 ≤ 20 ∧ (lvU (ownL ++ ops) u > top ∨ held + dpT u ≤ 12) := fun h => ⟨stay (hpb.mp h), .inl (hpb.mp h)⟩
          walk_at "sx"
          refine x_ite (fun c1 => ?_) (fun c1 => ?_)
          · walk_at "sx"
            refine ⟨v, u, rfl, hv1.of_depth (by omega), ok, fun w2 H2 s2 tw => ?_⟩
            obtain ⟨t2, rfl, st2⟩ := two_inv tw
            walk_at "sx"
            refine x_ite (fun c2 => ?_) (fun c2 => ?_)
            · walk_at "sx"
              have c2' : held + (dpT u : Int) ≤ 12 := c2
              exact ⟨true, rfl, fun _ => rfl, fun _ => ⟨by omega, .inr c2'⟩, P1.same s2, k01.trans (.of s2), hrv1.same s2⟩
            · walk_at "sx"
              exact ⟨pb, rfl, hpb.mpr, old, P1.same s2, k01.trans (.of s2), hrv1.same s2⟩
          · walk_at "sx"
            exact ⟨pb, rfl, hpb.mpr, old, P1, k01, hrv1⟩
        · rintro σ' G2 ⟨pb, rfl, hneed, hpb, P2, k2, hrv2⟩
          walk_at "sx"
          generalize eh : held + (if pb = true then (1 : Int) else 0) = h2
          have hp2 := hp.kx k2 P0
          have b2 := k2 _ _ hb bp bl
          have r2 := hrow.kx k2 P0
          have hA : 0 ≤ h2 ∧ h2 ≤ 20 := by
            cases pb with
            | true =>
              rw [if_pos rfl] at eh
              have := (hpb rfl).1
              omega
            | false =>
              rw [if_neg (by decide)] at eh
              omega
          refine x_cut (M := fun σ' G => ∃ (D : Addr) (zs : List Str) (x8 : Option V), σ' = [some v, some (.int top), some (.ref bo), some (.ref p), some (.int h2), some rv, some (.bl pb), some (.ref D), x8] ∧ Spl0 (ownL ++ ops) (lvU (ownL ++ ops) u) h2 u zs ∧ G D = some (.lst (zs.map V.str)) ∧ D ≠ p ∧ D ≠ l ∧ PoolAt G p l (c + szT u) ∧ Kx p l H G) ?_ ?_
          · walk_at "sx"
            rcases hp.three with ⟨n, rfl, rfl⟩ | ⟨z, rfl, rfl⟩ | ⟨j, nm, ps, a, ys, ej, rfl, rfl, sa0, pq0⟩
            · refine x_isT (t := .type "int") (c := false) (.base (.int n)) (kit_ty (by decide +kernel)) ?_
              walk_at "sx"
              refine ⟨_, .i n, rfl, .inl ⟨n, rfl, rfl, ok⟩, fun z hz => ?_⟩
              have ez : z = figS n := tl_injP (by rw [hz, figS_tl])
              subst ez
              walk_at "sx"
              rename_i o1 no1
              have f1 := P2.fresh no1
              exact ⟨o1, [figS n], _, rfl, spl_int hrd hA.2, upd_same, f1.1, f1.2, (P2.upd no1).mono (by simp [szT]), k2.updn no1⟩
            · refine x_isT (t := .type "str") (c := false) (.base (.str z)) (kit_ty (by decide +kernel)) ?_
              walk_at "sx"
              refine ⟨_, .s z, rfl, .inr ⟨z, rfl, rfl⟩, fun y hy => ?_⟩
              have ez : y = z := tl_injP (by rw [hy, figT])
              subst ez
              walk_at "sx"
              rename_i o1 no1
              have f1 := P2.fresh no1
              exact ⟨o1, [y], _, rfl, spl_str hrd ok hA.2, upd_same, f1.1, f1.2, (P2.upd no1).mono (by simp [szT]), k2.updn no1⟩
            · have ej' : j = k := by omega
              subst ej'
              have ok0 := ok
              rw [okT] at ok
              obtain ⟨on, l0, l4, okl⟩ := ok
              have hrd0 := hrd
              rw [rdT] at hrd
              obtain ⟨_, _, hwd, hrl⟩ := hrd
              have sa := k2.sqT P0 sa0
              have pq := pq0.kx k2 P0
              have lps := pq.1
              have hszs := hsz
              have hhs := hh
              rw [szT] at hszs hc
              rw [dpT] at hhs
              refine x_isT (t := .type "tuple") (c := true) (ty_tup sa) (kit_ty (by decide +kernel)) ?_
              walk_at "sx"
              refine ⟨rfl, ?_⟩
              cases er : rowOf (ownL ++ ops) nm ps.length with
              | none =>
                have eru : rowU (ownL ++ ops) (.t nm ps) = none := er
                rw [eru] at hrv2
                cases hrv2
                have elv : lvU (ownL ++ ops) (.t nm ps) = 0 := by
                  unfold lvU
                  rw [eru]
                have hB : h2 ≤ 19 ∧ h2 + 1 + dpL ps ≤ 21 := by
                  have h1 : 1 ≤ dpL ps := by
                    cases ps with
                    | nil => simp at l0
                    | cons x r =>
                      rw [dpL]
                      have := dpT_pos x
                      omega
                  cases pb with
                  | true =>
                    rw [if_pos rfl] at eh
                    have := (hpb rfl).2
                    rw [elv, dpT] at this
                    omega
                  | false =>
                    rw [if_neg (by decide)] at eh
                    omega
                rw [elv]
                walk_at "sx"
                rename_i o1 no1
                have f1 := P2.fresh no1
                refine x_forR2 (lo := 1) (hi := ((V.str nm :: ys).length : Int)) (fun i σ' G => ∃ (D : Addr) (zss : List (List Str)) (x8 : Option V), σ' = [some (.ref a), some (.int top), some (.ref bo), some (.ref p), some (.int h2), some .non, some (.bl pb), some (.ref D), x8] ∧ Prts (ownL ++ ops) (h2 + 1) (ps.take i) zss ∧ G D = some (.lst ((nm :: ("(" : Str) :: joinC zss).map V.str)) ∧ D ≠ p ∧ D ≠ l ∧ PoolAt G p l (c + 1 + szL (ps.take i)) ∧ Kx p l H G) (by rw [List.length_cons]; omega) ?_ (fun i σ' G hi h => ?_) (fun σ' G h => ?_)
                · exact ⟨o1, [], none, rfl, .nil, upd_same, f1.1, f1.2, (P2.upd no1).mono (by simp [szL]), k2.updn no1⟩
                · obtain ⟨D, zss, x8, rfl, prt, eD, nD1, nD2, PG, kG3⟩ := h
                  rw [List.length_cons, lps] at hi
                  have hip : i < ps.length := by omega
                  have lz := prt.len
                  rw [List.length_take, Nat.min_eq_left (by omega)] at lz
                  have lzl := prt.ln
                  have szt := szL_append (ps.take i) (ps.drop i)
                  rw [List.take_append_drop] at szt
                  have hpe : ps[i]? = some ps[i] := List.getElem?_eq_getElem hip
                  have hye : ys[i]? = some (ys[i]'(by omega)) := List.getElem?_eq_getElem _
                  have hte : ps.take (i + 1) = ps.take i ++ [ps[i]] := by rw [List.take_add_one, hpe]; rfl
                  have sz1 := szL_append (ps.take (i + 1)) (ps.drop (i + 1))
                  rw [List.take_append_drop, hte, szL_append] at sz1
                  simp only [szL] at sz1
                  walk_at "sx"
                  rename_i o2 no2
                  refine x_slL (.of upd_same) fun o3 no3 => ?_
                  rw [cut_comma]
                  have s2 := same_upd (o := .lst [V.str ("," : Str)]) no2
                  have s3 := same_upd (o := .lst ((if i = 0 then [] else [("," : Str)]).map V.str)) no3
                  have eD3 := s3 _ _ (s2 _ _ eD)
                  refine x_cat eD3 upd_same (sz (by
                    rw [List.length_map, List.length_map, List.length_cons, List.length_cons]
                    have : (if i = 0 then [] else [("," : Str)]).length ≤ 1 := by split <;> simp
                    omega)) fun o4 no4 => ?_
                  have s4 := (s2.trans s3).trans (same_upd (o := .lst ((nm :: ("(" : Str) :: joinC zss).map V.str ++ (if i = 0 then [] else [("," : Str)]).map V.str)) no4)
                  have e4 : upd (upd (upd G o2 (.lst [V.str ("," : Str)])) o3 (.lst ((if i = 0 then [] else [("," : Str)]).map V.str))) o4 (.lst ((nm :: ("(" : Str) :: joinC zss).map V.str ++ (if i = 0 then [] else [("," : Str)]).map V.str)) o4 = some (.lst ((nm :: ("(" : Str) :: joinC zss).map V.str ++ (if i = 0 then [] else [("," : Str)]).map V.str)) := upd_same
                  have P4 := PG.same s4
                  have k4 := kG3.trans (.of s4)
                  have f4 := (PG.same (s2.trans s3)).fresh no4
                  generalize upd (upd (upd G o2 (.lst [V.str ("," : Str)])) o3 (.lst ((if i = 0 then [] else [("," : Str)]).map V.str))) o4 (.lst ((nm :: ("(" : Str) :: joinC zss).map V.str ++ (if i = 0 then [] else [("," : Str)]).map V.str)) = G4 at *
                  have sa4 := k4.sqT P0 sa0
                  have ok1 := okL_mem.mp okl _ (List.getElem_mem hip)
                  have rd1 := rdL_mem hrl (List.getElem_mem hip)
                  have dp1 := dpL_mem (List.getElem_mem hip)
                  have pp := pq0.2 i _ _ hye hpe
                  walk_at "sx"
                  refine x_ixT sa4 (by rw [show (1 : Int) + (i : Int) = ((i + 1 : Nat) : Int) by omega]; exact atI_nat hye) ?_
                  walk_at "sx"
                  refine ⟨_, ps[i], 9, bo, es, ops, p, l, _, h2 + 1, rfl, pp.kx k4 P0, ok1, rd1, k4 _ _ hb bp bl, bp, bl, hrow.kx k4 P0, oko, by decide, by decide, P4, by omega, by omega, by omega, by omega, fun D5 zs5 H5 spl5 eD5 n51 n52 P5 k5 => ?_⟩
                  have l5 := spl5.ln
                  have e5 := k5 _ _ e4 f4.1 f4.2
                  refine x_cat e5 eD5 (sz (by
                    rw [List.length_append, List.length_map, List.length_map, List.length_map, List.length_cons, List.length_cons]
                    have : (if i = 0 then [] else [("," : Str)]).length ≤ 1 := by split <;> simp
                    omega)) fun o6 no6 => ?_
                  have f6 := P5.fresh no6
                  walk_at "sx"
                  refine ⟨o6, zss ++ [zs5], _, rfl, by rw [hte]; exact prt.snoc spl5, ?_, f6.1, f6.2, (P5.upd no6).mono (by rw [hte, szL_append]; simp only [szL]; omega), (k4.trans k5).updn no6⟩
                  rw [upd_same, joinC_snoc, lz]
                  simp
                · obtain ⟨D, zss, x8, rfl, prt, eD, nD1, nD2, PG, kG3⟩ := h
                  rw [List.length_cons, lps, show ((ps.length + 1 : Nat) : Int) - 1 = (ps.length : Int) by omega, Int.toNat_natCast, List.take_length] at prt PG
                  have lzl := prt.ln
                  walk_at "sx"
                  rename_i o2 no2
                  have s2 := same_upd (o := .lst [V.str (")" : Str)]) no2
                  refine x_cat (s2 _ _ eD) upd_same (sz (by
                    rw [List.length_map, List.length_cons, List.length_cons]
                    show _ + 1 ≤ _
                    omega)) fun o3 no3 => ?_
                  have s3 := s2.trans (same_upd (o := .lst ((nm :: ("(" : Str) :: joinC zss).map V.str ++ [V.str (")" : Str)])) no3)
                  have f3 := (PG.same s2).fresh no3
                  walk_at "sx"
                  refine ⟨o3, nm :: ("(" : Str) :: (joinC zss ++ [(")" : Str)]), x8, rfl, prt.all l0 l4 (hwd er) on hB.1, ?_, f3.1, f3.2, (PG.same s3).mono (by rw [szT]; omega), kG3.trans (.of s3)⟩
                  rw [upd_same]
                  simp
              | some o =>
                have eru : rowU (ownL ++ ops) (.t nm ps) = some o := er
                rw [eru] at hrv2
                obtain ⟨t, rfl, st⟩ := hrv2
                have elv : lvU (ownL ++ ops) (.t nm ps) = o.l := by
                  unfold lvU
                  rw [eru]
                obtain ⟨hoR, _, hm⟩ := rowOf_some er
                have lv := rows_lv oko o hoR
                have hB : h2 + dpL ps ≤ 21 := by
                  cases pb with
                  | true =>
                    rw [if_pos rfl] at eh
                    omega
                  | false =>
                    rw [if_neg (by decide)] at eh
                    omega
                rw [elv]
                walk_at "sx"
                refine x_ite (fun ca => ?_) (fun ca => ?_)
                · have ca' : o.s = ("ahead" : Str) := V.str.inj ca
                  rw [if_pos ca'] at hm
                  obtain ⟨p1, rfl⟩ : ∃ p1, ps = [p1] := by
                    match ps, hm with
                    | [p1], _ => exact ⟨p1, rfl⟩
                  obtain ⟨y1, rfl⟩ : ∃ y1, ys = [y1] := by
                    match ys, lps with
                    | [y1], _ => exact ⟨y1, rfl⟩
                  have h1 := pq0.2 0 y1 p1 rfl rfl
                  rw [okL] at okl
                  rw [rdL] at hrl
                  rw [szL, szL] at hszs hc
                  rw [dpL, dpL] at hB
                  walk_at "sx"
                  rename_i o1 no1
                  have s1 := same_upd (o := .lst [V.str nm]) no1
                  have f1 := P2.fresh no1
                  have k3 := k2.updn (o := .lst [V.str nm]) no1
                  have e1 : upd G2 o1 (.lst [V.str nm]) o1 = some (.lst [V.str nm]) := upd_same
                  have P3 := P2.same s1
                  have st3 := Same.sqT s1 st
                  generalize upd G2 o1 (.lst [V.str nm]) = G3 at *
                  refine ⟨y1, p1, o.l - 1, bo, es, ops, p, l, _, h2, rfl, h1.kx k3 P0, okl.1, hrl.1, k3 _ _ hb bp bl, bp, bl, hrow.kx k3 P0, oko, by omega, by omega, P3, by omega, by omega, hA.1, by omega, fun D5 zs5 H5 spl5 eD5 n51 n52 P5 k5 => ?_⟩
                  have l5 := spl5.ln
                  refine x_cat (k5 _ _ e1 f1.1 f1.2) eD5 (sz (by rw [List.length_map]; show 1 + _ ≤ _; omega)) fun o6 no6 => ?_
                  have f6 := P5.fresh no6
                  walk_at "sx"
                  refine ⟨o6, nm :: zs5, _, rfl, spl_ahead er on br spl5 hA.2, ?_, f6.1, f6.2, (P5.upd no6).mono (by rw [szT, szL, szL]; omega), (k3.trans k5).updn no6⟩
                  rw [upd_same]
                  simp
                · have ca' : ¬ o.s = ("ahead" : Str) := fun z => ca (congrArg V.str z)
                  rw [if_neg ca'] at hm
                  obtain ⟨p1, p2, rfl⟩ : ∃ p1 p2, ps = [p1, p2] := by
                    match ps, hm with
                    | [p1, p2], _ => exact ⟨p1, p2, rfl⟩
                  obtain ⟨y1, y2, rfl⟩ : ∃ y1 y2, ys = [y1, y2] := by
                    match ys, lps with
                    | [y1, y2], _ => exact ⟨y1, y2, rfl⟩
                  have h1 := pq0.2 0 y1 p1 rfl rfl
                  have h2' := pq0.2 1 y2 p2 rfl rfl
                  rw [okL, okL] at okl
                  rw [rdL, rdL] at hrl
                  rw [szL, szL, szL] at hszs hc
                  rw [dpL, dpL, dpL] at hB
                  have lft : ∀ s : Str, o.l - (if (!decide (V.str o.s = V.str s)) = true then 1 else 0) = (if o.s = s then o.l else o.l - 1) := fun s => by
                    by_cases h : o.s = s
                    · rw [if_pos h, decide_eq_true (congrArg V.str h)]
                      simp
                    · rw [if_neg h, decide_eq_false fun z => h (V.str.inj z)]
                      simp
                  have lbd : ∀ s : Str, 0 ≤ (if o.s = s then o.l else o.l - 1) ∧ (if o.s = s then o.l else o.l - 1) ≤ 9 := fun s => by split <;> omega
                  walk_at "sx"
                  rw [lft]
                  refine ⟨y1, p1, _, bo, es, ops, p, l, _, h2, rfl, h1.kx k2 P0, okl.1, hrl.1, b2, bp, bl, r2, oko, (lbd _).1, (lbd _).2, P2, by omega, by omega, hA.1, by omega, fun D3 zs3 H3 spl3 eD3 n31 n32 P3 k3 => ?_⟩
                  have l3 := spl3.ln
                  have st3 := k3.sqT P2 st
                  have k03 := k2.trans k3
                  have sa3 := k03.sqT P0 sa0
                  walk_at "sx"
                  rename_i o4 no4
                  have s4 := same_upd (o := .lst [V.str nm]) no4
                  have eD4 := s4 _ _ eD3
                  refine x_cat eD4 upd_same (sz (by rw [List.length_map]; show _ + 1 ≤ _; omega)) fun o5 no5 => ?_
                  have s5 := s4.trans (same_upd (o := .lst (zs3.map V.str ++ [V.str nm])) no5)
                  have f5 := (P3.same s4).fresh no5
                  have e5 : upd (upd H3 o4 (.lst [V.str nm])) o5 (.lst (zs3.map V.str ++ [V.str nm])) o5 = some (.lst (zs3.map V.str ++ [V.str nm])) := upd_same
                  have k05 := k03.trans (.of s5)
                  have P5 := P3.same s5
                  have st5 := Same.sqT s5 st3
                  generalize upd (upd H3 o4 (.lst [V.str nm])) o5 (.lst (zs3.map V.str ++ [V.str nm])) = G5 at *
                  have sa5 := k05.sqT P0 sa0
                  walk_at "sx"
                  rw [lft]
                  refine ⟨y2, p2, _, bo, es, ops, p, l, _, h2, rfl, h2'.kx k05 P0, okl.2.1, hrl.2.1, k05 _ _ hb bp bl, bp, bl, hrow.kx k05 P0, oko, (lbd _).1, (lbd _).2, P5, by omega, by omega, hA.1, by omega, fun D6 zs6 H6 spl6 eD6 n61 n62 P6 k6 => ?_⟩
                  have l6 := spl6.ln
                  refine x_cat (k6 _ _ e5 f5.1 f5.2) eD6 (sz (by rw [List.length_append, List.length_map, List.length_map]; show _ + 1 + _ ≤ _; omega)) fun o7 no7 => ?_
                  have f7 := P6.fresh no7
                  walk_at "sx"
                  refine ⟨o7, zs3 ++ [nm] ++ zs6, _, rfl, spl_between er on br spl3 spl6 hA.2, ?_, f7.1, f7.2, (P6.upd no7).mono (by rw [szT, szL, szL, szL]; omega), (k05.trans k6).updn no7⟩
                  rw [upd_same]
                  simp
          · rintro σ' G ⟨D, zs, x8, rfl, spl, eD, nD1, nD2, PG, kG2⟩
            walk_at "sx"
            refine x_iteB (fun c1 => ?_) (fun c1 => ?_)
            · subst c1
              rw [if_pos rfl] at eh
              have lnz := spl.ln
              walk_at "sx"
              rename_i o1 no1
              have D1 := same_upd (o := .lst [.str ("(" : Str)]) no1 _ _ eD
              refine x_cat (xs := [.str ("(" : Str)]) (zs := zs.map V.str) upd_same D1 (sz (by rw [List.length_map]; show 1 + _ ≤ _; omega)) fun o2 no2 => ?_
              walk_at "sx"
              rename_i o3 no3
              refine x_cat (xs := [.str ("(" : Str)] ++ zs.map V.str) (zs := [.str (")" : Str)]) (by walk_at "hx") upd_same (sz (by rw [List.length_append, List.length_map]; show 1 + _ + 1 ≤ _; omega)) fun o4 no4 => ?_
              have s1 := ((same_upd (o := .lst [.str ("(" : Str)]) no1).trans (same_upd no2)).trans ((same_upd (o := .lst [.str (")" : Str)]) no3).trans (same_upd (o := .lst ([V.str ("(" : Str)] ++ zs.map V.str ++ [V.str (")" : Str)])) no4))
              have P4 := PG.same s1
              have f4 := (((PG.upd no1).upd no2).upd no3).fresh no4
              walk_at "sx"
              have e2 : [V.str ("(" : Str)] ++ zs.map V.str ++ [V.str (")" : Str)] = (("(" : Str) :: (zs ++ [(")" : Str)])).map V.str := by simp
              rw [← eh] at spl
              refine q o4 _ _ (spl.pair ?_ h0 ((hpb rfl).1)) (by rw [← e2]; exact upd_same) f4.1 f4.2 P4 (kG2.trans (.of s1))
              unfold lvU
              cases er : rowU (ownL ++ ops) u with
              | none => exact (by decide : (0 : Int) ≤ 9)
              | some o =>
                cases u with
                | i n => cases er
                | s z => cases er
                | t nm ps => exact (rows_lv oko o (rowOf_some er).1).2
            · subst c1
              rw [if_neg (by decide), Int.add_zero] at eh
              subst eh
              walk_at "sx"
              refine q D zs _ (spl.spl ?_) eD nD1 nD2 PG kG2
              rcases Int.lt_or_le top (lvU (ownL ++ ops) u) with h | h
              · exact absurd (hneed h) (by decide)
              · exact h
end
end Gs
namespace Gs
open PySem PySem.Spec PyProof.Rows L2 TL SrtK
/-! ### spellings: how many names, how many brackets -/
def sgn (z : Str) : Bool := decide (z = ("(" : Str) ∨ z = (")" : Str) ∨ z = ("," : Str))
def nsg (ts : List Str) : Nat := ts.countP fun z => !sgn z
def brk (ts : List Str) : Nat := ts.countP fun z => decide (z = ("(" : Str))
theorem nsg_app (a b : List Str) : nsg (a ++ b) = nsg a + nsg b := List.countP_append
theorem nsg_cons (z : Str) (b : List Str) : nsg (z :: b) = nsg b + (if sgn z = true then 0 else 1) := by
  unfold nsg
  rw [List.countP_cons]
  cases sgn z <;> rfl
theorem nsg_nil : nsg [] = 0 := rfl
theorem nsg_sg {z : Str} (h : sgn z = true) (b : List Str) : nsg (z :: b) = nsg b := by rw [nsg_cons, if_pos h, Nat.add_zero]
theorem nsg_no {z : Str} (h : sgn z = false) (b : List Str) : nsg (z :: b) = nsg b + 1 := by rw [nsg_cons, if_neg (by rw [h]; decide)]
theorem sg_o : sgn ("(" : Str) = true := by decide +kernel
theorem sg_c : sgn (")" : Str) = true := by decide +kernel
theorem sg_m : sgn ("," : Str) = true := by decide +kernel
theorem ff : ¬ (false = true) := by decide
theorem head_sgn {z : Str} {c : Nat} {t : List Nat} (e : tl z = c :: t) (h1 : c ≠ 40) (h2 : c ≠ 41) (h3 : c ≠ 44) : sgn z = false := by
  refine decide_eq_false fun h => ?_
  rcases h with h | h | h
  · rw [h, tl_op] at e
    exact h1 (List.cons.inj e).1.symm
  · rw [h, tl_cl] at e
    exact h2 (List.cons.inj e).1.symm
  · rw [h, show tl ("," : Str) = [44] from by decide +kernel] at e
    exact h3 (List.cons.inj e).1.symm
theorem num_fst {R : List Op} {m : Int} {z : Str} (h : Num R m z) : ∃ c t, tl z = c :: t ∧ (c ∈ sD ∨ c = 126) := by
  obtain ⟨e, _, _⟩ := h
  rw [figT] at e
  by_cases hm : m < 0
  · rw [if_pos hm] at e
    exact ⟨126, _, e, .inr rfl⟩
  · rw [if_neg hm] at e
    cases en : numL m.toNat with
    | nil => exact absurd en (numL_ne _)
    | cons c t => exact ⟨c, t, by rw [e, en], .inl (numL_D m.toNat c (by rw [en]; exact List.mem_cons_self ..))⟩
theorem num_sgn {R : List Op} {m : Int} {z : Str} (h : Num R m z) : sgn z = false := by
  obtain ⟨c, t, e, hc⟩ := num_fst h
  rw [sD_iff] at hc
  exact head_sgn e (by omega) (by omega) (by omega)
theorem unk_sgn {R : List Op} {z : Str} (h : Unk R z) : sgn z = false := by
  obtain ⟨⟨c, t, e, hc⟩, _⟩ := h
  rw [sC_iff] at hc
  exact head_sgn e (by omega) (by omega) (by omega)
theorem wd_sgn {R : List Op} {z : Str} (h : Wd R z) : sgn z = false := by
  obtain ⟨⟨c, t, e, hc⟩, _⟩ := h
  rw [sS_iff] at hc
  exact head_sgn e (by omega) (by omega) (by omega)
abbrev BrOk (R : List Op) : Prop := ∀ z ∈ ([("(" : Str), (")" : Str), ("," : Str)] : List Str), rowOf R z 1 = none ∧ rowOf R z 2 = none
theorem row_sgn {R : List Op} (br : BrOk R) {nm : Str} {k : Nat} {o : Op} (hk : k = 1 ∨ k = 2) (h : rowOf R nm k = some o) : sgn nm = false := by
  refine decide_eq_false fun z => ?_
  have := br nm (by simpa using z)
  rcases hk with rfl | rfl
  · rw [this.1] at h
    cases h
  · rw [this.2] at h
    cases h
mutual
theorem Prim.size {R : List Op} (br : BrOk R) : ∀ {d : Nat} {l : Int} {p : Pt} {ts : List Str}, Prim R d l p ts → nsg ts = szT p
  | _, _, _, _, .num h => by rw [nsg_no (num_sgn h), szT]; rfl
  | _, _, _, _, .unk h => by rw [nsg_no (unk_sgn h), szT]; rfl
  | _, _, _, _, .word h => by rw [nsg_no (wd_sgn h), szT]; rfl
  | _, _, _, _, .comp h _ _ hl => by
    rw [nsg_no (wd_sgn h), nsg_sg sg_o, SptL.size br hl, szT]
    omega
  | _, _, _, _, .ahead h hs _ => by
    rw [nsg_no (row_sgn br (.inl rfl) h), Spt.size br hs, szT, szL, szL]
    omega
  | _, _, _, _, .paren hs _ => by
    rw [nsg_sg sg_o, nsg_app, nsg_sg sg_c, Spt.size br hs, nsg_nil, Nat.add_zero]
theorem Spt.size {R : List Op} (br : BrOk R) : ∀ {d : Nat} {l : Int} {p : Pt} {ts : List Str}, Spt R d l p ts → nsg ts = szT p
  | _, _, _, _, .mk h1 h2 => by
    rw [nsg_app, Prim.size br h1]
    exact Stp.size br h2
theorem Stp.size {R : List Op} (br : BrOk R) : ∀ {d : Nat} {la : Int} {a : Pt} {l : Int} {p : Pt} {ts : List Str}, Stp R d la a l p ts → szT a + nsg ts = szT p
  | _, _, _, _, _, _, .nil => by rw [nsg_nil, Nat.add_zero]
  | _, _, _, _, _, _, .cons h1 _ h3 _ h5 => by
    have e1 := Spt.size br h3
    have e2 := Stp.size br h5
    rw [szT, szL, szL, szL] at e2
    rw [nsg_no (row_sgn br (.inr rfl) h1), nsg_app, e1]
    omega
theorem SptL.size {R : List Op} (br : BrOk R) : ∀ {d : Nat} {ps : List Pt} {ts : List Str}, SptL R d ps ts → nsg ts = szL ps
  | _, _, _, .one h _ => by
    rw [nsg_app, Spt.size br h, nsg_sg sg_c, nsg_nil, szL, szL]
  | _, _, _, .cons h _ hl => by
    rw [nsg_app, nsg_sg sg_m, Spt.size br h, SptL.size br hl, szL]
end
theorem zz : ¬ (0 : Int) < 0 := by decide
/-! what is read, by its pieces -/
/-- a piece of a written text -/
def GoodPc (z : Str) : Prop := sgn z = true ∨ (∃ c t, tl z = c :: t ∧ (c ∈ sD ∨ c = 126)) ∨ NmOk z
theorem good_nm {z : Str} (h : GoodPc z) {c : Nat} {t : List Nat} (e : tl z = c :: t) (hc : c ∈ sS ∨ c ∈ sC ∨ c ∈ sM) : NmOk z := by
  have hc' : c ≠ 40 ∧ c ≠ 41 ∧ c ≠ 44 ∧ c ∉ sD ∧ c ≠ 126 := by
    rcases hc with h | h | h
    · rw [sS_iff] at h
      rw [sD_iff]
      omega
    · rw [sC_iff] at h
      rw [sD_iff]
      omega
    · have := sM_all h
      rw [sD_iff]
      omega
  rcases h with h | ⟨c2, t2, e2, h⟩ | h
  · rw [head_sgn e hc'.1 hc'.2.1 hc'.2.2.1] at h
    cases h
  · rw [e] at e2
    obtain ⟨rfl, _⟩ := List.cons.inj e2
    exact h.elim (fun h => absurd h hc'.2.2.2.1) (fun h => absurd h hc'.2.2.2.2)
  · exact h
mutual
theorem Prim.okp {R : List Op} (hd : ∀ z k o, rowOf R z k = some o → NmOk z) : ∀ {d : Nat} {l : Int} {p : Pt} {ts : List Str}, Prim R d l p ts → (∀ z ∈ ts, GoodPc z) → okT NmOk NmOk p
  | _, _, _, _, .num h, _ => h.2.1
  | _, _, _, _, .unk h, g => by
    obtain ⟨c, t, e, hc⟩ := h.1
    exact good_nm (g _ (List.mem_cons_self ..)) e (.inr (.inl hc))
  | _, _, _, _, .word h, g => by
    obtain ⟨c, t, e, hc⟩ := h.1
    exact good_nm (g _ (List.mem_cons_self ..)) e (.inl hc)
  | _, _, _, _, .comp h h0 h4 hl, g => by
    obtain ⟨c, t, e, hc⟩ := h.1
    exact ⟨good_nm (g _ (List.mem_cons_self ..)) e (.inl hc), h0, h4, SptL.okp hd hl fun z hz => g z (List.mem_cons_of_mem _ (List.mem_cons_of_mem _ hz))⟩
  | _, _, _, _, .ahead h hs _, g => ⟨hd _ _ _ h, by simp, by simp, Spt.okp hd hs fun z hz => g z (List.mem_cons_of_mem _ hz), trivial⟩
  | _, _, _, _, .paren hs _, g => Spt.okp hd hs fun z hz => g z (List.mem_cons_of_mem _ (List.mem_append_left _ hz))
theorem Spt.okp {R : List Op} (hd : ∀ z k o, rowOf R z k = some o → NmOk z) : ∀ {d : Nat} {l : Int} {p : Pt} {ts : List Str}, Spt R d l p ts → (∀ z ∈ ts, GoodPc z) → okT NmOk NmOk p
  | _, _, _, _, .mk h1 h2, g => Stp.okp hd h2 (Prim.okp hd h1 fun z hz => g z (List.mem_append_left _ hz)) fun z hz => g z (List.mem_append_right _ hz)
theorem Stp.okp {R : List Op} (hd : ∀ z k o, rowOf R z k = some o → NmOk z) : ∀ {d : Nat} {la : Int} {a : Pt} {l : Int} {p : Pt} {ts : List Str}, Stp R d la a l p ts → okT NmOk NmOk a → (∀ z ∈ ts, GoodPc z) → okT NmOk NmOk p
  | _, _, _, _, _, _, .nil, h, _ => h
  | _, _, _, _, _, _, .cons h1 _ h3 _ h5, h, g => Stp.okp hd h5 ⟨hd _ _ _ h1, by simp, by simp, h, Spt.okp hd h3 fun z hz => g z (List.mem_cons_of_mem _ (List.mem_append_left _ hz)), trivial⟩ fun z hz => g z (List.mem_cons_of_mem _ (List.mem_append_right _ hz))
theorem SptL.okp {R : List Op} (hd : ∀ z k o, rowOf R z k = some o → NmOk z) : ∀ {d : Nat} {ps : List Pt} {ts : List Str}, SptL R d ps ts → (∀ z ∈ ts, GoodPc z) → okL NmOk NmOk ps
  | _, _, _, .one h _, g => ⟨Spt.okp hd h fun z hz => g z (List.mem_append_left _ hz), trivial⟩
  | _, _, _, .cons h _ hl, g => ⟨Spt.okp hd h fun z hz => g z (List.mem_append_left _ hz), SptL.okp hd hl fun z hz => g z (List.mem_append_right _ (List.mem_cons_of_mem _ hz))⟩
end
mutual
theorem dp_sz : ∀ p : Pt, dpT p ≤ szT p
  | .i _ => Nat.le_refl _
  | .s _ => Nat.le_refl _
  | .t _ ps => by
    rw [dpT, szT]
    have := dp_szL ps
    omega
theorem dp_szL : ∀ ps : List Pt, dpL ps ≤ szL ps
  | [] => Nat.le_refl _
  | x :: r => by
    rw [dpL, szL]
    have := dp_sz x
    have := dp_szL r
    omega
end
/-! brackets that go -/
end Gs
namespace Gs
open PySem PySem.Spec PyProof.Rows L2 TL SrtK
abbrev s_law_capital : Stmt := PySem.Challenge.pw_goalstead_k14_goals_by_their_shapes.main.body.getD 86 (.Pass ⟨0, 0, 0, 0⟩)
theorem sc_law_capital : FnScope ["thing"] ["thing"] (defScope s_law_capital) := ⟨rfl, rfl, rfl, by decide +kernel, rfl, by decide +kernel, by decide +kernel⟩
abbrev s_law_names : Stmt := PySem.Challenge.pw_goalstead_k14_goals_by_their_shapes.main.body.getD 87 (.Pass ⟨0, 0, 0, 0⟩)
theorem sc_law_names : FnScope ["thing", "row", "part"] ["thing"] (defScope s_law_names) := ⟨rfl, rfl, rfl, by decide +kernel, rfl, by decide +kernel, by decide +kernel⟩
abbrev s_law_sum : Stmt := PySem.Challenge.pw_goalstead_k14_goals_by_their_shapes.main.body.getD 88 (.Pass ⟨0, 0, 0, 0⟩)
theorem sc_law_sum : FnScope ["pool", "pile", "turn", "sign", "leaf"] ["pool"] (defScope s_law_sum) := ⟨rfl, rfl, rfl, by decide +kernel, rfl, by decide +kernel, by decide +kernel⟩
abbrev s_law_test : Stmt := PySem.Challenge.pw_goalstead_k14_goals_by_their_shapes.main.body.getD 89 (.Pass ⟨0, 0, 0, 0⟩)
theorem sc_law_test : FnScope ["pool", "sign"] ["pool"] (defScope s_law_test) := ⟨rfl, rfl, rfl, by decide +kernel, rfl, by decide +kernel, by decide +kernel⟩
abbrev s_law_together : Stmt := PySem.Challenge.pw_goalstead_k14_goals_by_their_shapes.main.body.getD 90 (.Pass ⟨0, 0, 0, 0⟩)
theorem sc_law_together : FnScope ["things", "made", "k"] ["things"] (defScope s_law_together) := ⟨rfl, rfl, rfl, by decide +kernel, rfl, by decide +kernel, by decide +kernel⟩
/-! ### goals drawn: sums, tests, things joined -/
theorem one_lt {a b : Nat} : decide ([a] < [b]) = decide (a < b) := by
  rw [decide_eq_decide, List.cons_lt_cons_iff]
  constructor
  · rintro (h | ⟨_, h⟩)
    · exact h
    · cases h
  · exact .inl
theorem own_nm_all : ∀ o ∈ ownL, NmOk o.n := by
  have h : (ownL.all fun o => match tl o.n with | [] => false | c :: t => decide ((c ∈ sS ∧ (∀ x ∈ t, x ∈ sS ++ sD) ∧ t.length + 1 ≤ 12) ∨ (c ∈ sM ∧ (∀ x ∈ t, x ∈ sM) ∧ t.length + 1 ≤ 3))) = true := by decide +kernel
  intro o ho
  have h2 := List.all_eq_true.mp h o ho
  cases e : tl o.n with
  | nil =>
    rw [e] at h2
    cases h2
  | cons c t =>
    rw [e] at h2
    rcases of_decide_eq_true h2 with ⟨a1, a2, a3⟩ | ⟨a1, a2, a3⟩
    · exact ⟨0, c, t, e, .inl ⟨rfl, a1, a2, a3⟩⟩
    · exact ⟨2, c, t, e, .inr (.inr ⟨rfl, a1, a2, a3⟩)⟩
/-- an operator of the language's own -/
def Own (nm : Str) (m : Nat) : Prop := (rowOf ownL nm m).isSome = true
theorem Own.row {nm : Str} {m : Nat} (h : Own nm m) (ops : List Op) : ∃ o, rowOf (ownL ++ ops) nm m = some o := by
  obtain ⟨o, e⟩ := Option.isSome_iff_exists.mp h
  refine ⟨o, ?_⟩
  unfold rowOf at e ⊢
  rw [List.find?_append, e]
  rfl
theorem Own.nm {nm : Str} {m : Nat} (h : Own nm m) : NmOk nm := by
  obtain ⟨o, e⟩ := Option.isSome_iff_exists.mp h
  obtain ⟨h1, h2, _⟩ := rowOf_some e
  rw [← h2]
  exact own_nm_all o h1
/-- what a goal's parts are -/
structure GoOk (ops : List Op) (u : Pt) : Prop where
  nm : okT NmOk NmOk u
  rd : rdT (ownL ++ ops) u
theorem GoOk.two {ops : List Op} {nm : Str} {a b : Pt} (h : Own nm 2) (ha : GoOk ops a) (hb : GoOk ops b) : GoOk ops (.t nm [a, b]) := by
  obtain ⟨o, e⟩ := h.row ops
  exact ⟨⟨h.nm, by simp, by simp, ha.nm, hb.nm, trivial⟩, ⟨by simp, by simp, (fun z => by rw [show rowOf (ownL ++ ops) nm [a, b].length = some o from e] at z; cases z), ha.rd, hb.rd, trivial⟩⟩
theorem GoOk.one {ops : List Op} {nm : Str} {a : Pt} (h : Own nm 1) (ha : GoOk ops a) : GoOk ops (.t nm [a]) := by
  obtain ⟨o, e⟩ := h.row ops
  exact ⟨⟨h.nm, by simp, by simp, ha.nm, trivial⟩, ⟨by simp, by simp, (fun z => by rw [show rowOf (ownL ++ ops) nm [a].length = some o from e] at z; cases z), ha.rd, trivial⟩⟩
structure SumOk (u : Pt) : Prop where
  sm : sumP u = true
  ok : ∀ ops, OpsOk ops → GoOk ops u
theorem SumOk.num {n : Int} (h : n.natAbs < 10 ^ 60) : SumOk (.i n) := ⟨rfl, fun ops k => ⟨h, h, fig_no k n 1⟩⟩
theorem SumOk.var {z : Str} (h : NameOk 1 (tl z)) : SumOk (.s z) := by
  refine ⟨?_, fun ops k => ⟨⟨1, h⟩, .inl (cap_unk k h)⟩⟩
  obtain ⟨c, t, e, hh⟩ := h
  rcases hh with ⟨h, _⟩ | ⟨_, hc, _⟩ | ⟨h, _⟩
  · exact absurd h (by decide)
  · show unkS z = true
    unfold unkS
    rw [e]
    exact decide_eq_true hc
  · exact absurd h (by decide)
theorem SumOk.join {s : Str} {a b : Pt} (hs : s ∈ sums5) (ha : SumOk a) (hb : SumOk b) : SumOk (.t s [a, b]) := by
  refine ⟨by rw [sumP_two, ha.sm, hb.sm, decide_eq_true hs]; rfl, fun ops k => .two ?_ (ha.ok ops k) (hb.ok ops k)⟩
  simp only [sums5, List.mem_cons, List.not_mem_nil, or_false] at hs
  rcases hs with rfl | rfl | rfl | rfl | rfl <;> (unfold Own; decide +kernel)
mutual
theorem sum_dp : ∀ u : Pt, sumP u = true → 2 * dpT u ≤ szT u + 1
  | .i _, _ => by rw [dpT, szT]; omega
  | .s _, _ => by rw [dpT, szT]; omega
  | .t nm ps, h => by
    rw [sumP, Bool.and_eq_true, Bool.and_eq_true, decide_eq_true_iff, decide_eq_true_iff] at h
    rw [dpT, szT]
    have := sum_dpL ps h.2
    have l2 := h.1.2
    match ps, l2 with
    | [a, b], _ =>
      have := szT_pos a
      have := szT_pos b
      simp only [dpL, szL] at *
      have h2 := h.2
      rw [sumPL, sumPL, sumPL, Bool.and_true, Bool.and_eq_true] at h2
      have ea := sum_dp a h2.1
      have eb := sum_dp b h2.2
      omega
theorem sum_dpL : ∀ ps : List Pt, sumPL ps = true → True
  | _, _ => trivial
end
def spCap (K : PySem.W.Frag) : Sp := fun vs H Q _ => ∃ (v : V) (k : Nat) (p : Pt), vs = [v] ∧ PtAt K H k v p ∧ (∀ z, p = .s z → TxOk z) ∧ Q (.bl (unk p)) H
def spNames15 (K : PySem.W.Frag) (k : Nat) : Sp := fun vs H Q _ => ∃ (v : V) (p : Pt), vs = [v] ∧ PtAt K H k v p ∧ OkP p ∧ szT p ≤ 1000 ∧ ∀ a H', H a = none → Same H H' → H' a = some (.lst ((nmT p).map V.str)) → Q (.ref a) H'
theorem cut_bool (v : V) (b : Bool) : cutV [v] none (some (if b = true then (1 : Int) else 0)) = if b = true then [v] else [] := by
  cases b with
  | true =>
    rw [if_pos rfl, if_pos rfl]
    exact cut_take20 (xs := [v]) (j := 1) (Nat.le_refl _)
  | false =>
    rw [if_neg (by decide), if_neg (by decide)]
    exact cut_take20 (xs := [v]) (j := 0) (Nat.zero_le _)
theorem szL_take : ∀ (ps : List Pt) (i : Nat), szL (ps.take i) ≤ szL ps
  | [], i => by rw [List.take_nil]; exact Nat.le_refl _
  | x :: r, 0 => Nat.zero_le _
  | x :: r, i + 1 => by
    rw [List.take_succ_cons, szL, szL]
    have := szL_take r i
    omega
theorem cut_m2 {xs : List V} (h : 2 ≤ xs.length) : cutV xs none (some (-2)) = xs.take (xs.length - 2) := by
  unfold cutV
  rw [HT.sIx_none, List.drop_zero, Nat.sub_zero]
  have : HT.sIx xs.length xs.length (some (-2)) = xs.length - 2 := by
    show (if (-2 : Int) < 0 then ((-2 : Int) + (xs.length : Int)).toNat else min (-2 : Int).toNat xs.length) = _
    rw [if_pos (by decide)]
    omega
  rw [this]
theorem atI_neg {xs : List V} {j n : Nat} {v : V} (hn : 0 < n) (hj : j + n = xs.length) (h : xs[j]? = some v) : atI xs (-(n : Int)) = some v := by
  have e : ixN xs.length (-(n : Int)) = some j := by
    unfold ixN
    rw [if_neg (by omega), if_pos (by omega)]
    congr 1
    omega
  unfold atI
  rw [e]
  exact h
/-- things joined by and -/
def chn : List Pt → Pt
  | [] => .i 0
  | [p] => p
  | p :: q :: r => .t "and" [p, chn (q :: r)]
def spSum15 (K : PySem.W.Frag) : Sp := fun vs H Q _ => ∃ (p l : Addr) (c : Int), vs = [.ref p] ∧ PoolAt H p l c ∧ c + 1000 ≤ 1000000000000 ∧
  ∀ x u H', PtAt K H' 12 x u → SumOk u → szT u ≤ 7 → PoolAt H' p l (c + 1000) → Kx p l H H' → Q x H'
def spTest15 (K : PySem.W.Frag) : Sp := fun vs H Q _ => ∃ (p l : Addr) (c : Int), vs = [.ref p] ∧ PoolAt H p l c ∧ c + 2100 ≤ 1000000000000 ∧
  ∀ x u H', PtAt K H' 12 x u → (∀ ops, OpsOk ops → GoOk ops u) → testP u = true → szT u ≤ 15 → dpT u ≤ 5 → PoolAt H' p l (c + 2100) → Kx p l H H' → Q x H'
def spTogether (K : PySem.W.Frag) : Sp := fun vs H Q _ => ∃ (a : Addr) (xs : List V) (ps : List Pt), vs = [.ref a] ∧ H a = some (.lst xs) ∧ PtsAt K H 8 xs ps ∧ 0 < ps.length ∧ ps.length ≤ 5 ∧ ∀ x H', PtAt K H' 12 x (chn ps) → Same H H' → Q x H'
section
variable {P : Program} {w : World} {K : PySem.W.Frag} {mg : Str → Option Value} {base : Heap} {f : Addr} {fd : FuncData}
def HasCap (P : Program) (w : World) (K : PySem.W.Frag) (mg : Str → Option Value) (base : Heap) : Prop := Has P w K mg base 1 "_law_capital" ["thing"] (spCap K)
def HasNames15 (k : Nat) (P : Program) (w : World) (K : PySem.W.Frag) (mg : Str → Option Value) (base : Heap) : Prop := Has P w K mg base (k + 1) "_law_names" ["thing"] (spNames15 K k)
def HasSum15 (P : Program) (w : World) (K : PySem.W.Frag) (mg : Str → Option Value) (base : Heap) : Prop := Has P w K mg base 16 "_law_sum" ["pool"] (spSum15 K)
def HasTest15 (P : Program) (w : World) (K : PySem.W.Frag) (mg : Str → Option Value) (base : Heap) : Prop := Has P w K mg base 17 "_law_test" ["pool"] (spTest15 K)
def HasTogether (P : Program) (w : World) (K : PySem.W.Frag) (mg : Str → Option Value) (base : Heap) : Prop := Has P w K mg base 1 "_law_together" ["things"] (spTogether K)
theorem ok_law_capital (F : Fun K "_law_capital" "_law_capital" s_law_capital f fd) (T : Txt mg) : FnOk P w K mg base CX0 1 f fd ["thing"] (spCap K) := by
  refine F.ok sc_law_capital (fun vs H Q E h => ?_) (fun cdv A outer s H vs Q E hr h => ?_)
  · obtain ⟨v, k, p, rfl, _⟩ := h
    rfl
  obtain ⟨v, k, p, rfl, hp, ht, q⟩ := h
  refine ⟨_, (pss_one (ps_ret (pe_and (pe_callB (call_isiKK (K := K)) (by rfl) T.z_isinstance (by decide +kernel) (pa_cons (pv 0) (pa_cons (pe_bltn (v := .ty "str") (by rfl) T.z_str (by decide +kernel) rfl) pa_nil))) (pe_one (pe_chain op_le_str op_le_str pe_str (pe_ix ix_str (pv 0) pe_int (fun _ _ => rfl)) pe_str))))), ?_⟩
  walk_at "sx"
  rcases hp.three with ⟨n, rfl, rfl⟩ | ⟨z, rfl, rfl⟩ | ⟨j, nm, qs, a, us, rfl, rfl, rfl, sa, pq⟩
  · refine x_isT (t := .type "int") (c := false) (.base (.int n)) (kit_ty (by decide +kernel)) ?_
    walk_at "sx"
    exact q
  · refine x_isT (t := .type "str") (c := true) (.base (.str z)) (kit_ty (by decide +kernel)) ?_
    walk_at "sx"
    obtain ⟨c, t, e, hl⟩ := ht z rfl
    refine x_ixS (c := c) (sz (by omega)) (at0 (show (tl z)[0]? = some c by rw [e]; rfl)) ?_
    walk_at "sx"
    have eA : ("A" : Str).cps.toList = [65] := by decide +kernel
    have eZ : ("Z" : Str).cps.toList = [90] := by decide +kernel
    have eu : unk (.s z) = (!decide (c < 65) && !decide (90 < c)) := by
      show unkS z = _
      unfold unkS
      rw [e, Bool.eq_iff_iff, Bool.and_eq_true]
      simp [sC_iff]
    refine ⟨_, _, rfl, rfl, ?_⟩
    rw [eA, show (⟨#[c]⟩ : Str).cps.toList = [c] from rfl, one_lt]
    rw [eu] at q
    refine ⟨_, rfl, ?_⟩
    cases h1 : decide (c < 65) with
    | true =>
      rw [h1] at q
      walk_at "sx"
      exact q
    | false =>
      rw [h1] at q
      walk_at "sx"
      refine ⟨_, _, rfl, rfl, ?_⟩
      rw [eZ, show (⟨#[c]⟩ : Str).cps.toList = [c] from rfl, one_lt]
      exact q
  · refine x_isT (t := .type "tuple") (c := false) (ty_tup sa) (kit_ty (by decide +kernel)) ?_
    walk_at "sx"
    exact q
theorem ok_law_names (F : Fun K "_law_names" "_law_names" s_law_names f fd) (T : Txt mg) (C_law_capital : HasCap P w K mg base) (b : Binds K fd ["thing"] []) (kp : PySem.W.keepIn K (.ref f) = true) (m : mg "_law_names" = some (.ref f)) : ∀ k, FnOk P w K mg base CX0 (k + 1) f fd ["thing"] (spNames15 K k)
  | 0 => ⟨fun vs H Q E h => by
      obtain ⟨v, p, _, h, _⟩ := h
      exact h.elim, fun A outer s H args us vs Q E _ _ _ _ h => by
      obtain ⟨v, p, _, h, _⟩ := h
      exact h.elim⟩
  | k + 1 => by
    have C_law_names : HasNames15 k P w K mg base := ⟨f, fd, ok_law_names F T C_law_capital b kp m k, b, kp, m⟩
    refine F.ok sc_law_names (fun vs H Q E h => ?_) (fun cdv A outer s H vs Q E hr h => ?_)
    · obtain ⟨v, p, rfl, _⟩ := h
      rfl
    obtain ⟨v, p, rfl, hp, ok, hz, q⟩ := h
    refine ⟨_, (pss_cons (ps_set (i := 1) sc_law_names.nd rfl (Or.inl rfl) (pe_slice (sl_listK (K := K)) (pe_lst (pa_cons (pv 0) pa_nil)) po_none (po_some (pe_callTy call_int1 (by rfl) T.z_int (by decide +kernel) (pa_cons (pe_callH C_law_capital hr (pa_cons (pv 0) pa_nil) (hk := by omega)) pa_nil)))))
    (pss_cons (ps_if (pt_val (pe_callB (call_isiKK (K := K)) (by rfl) T.z_isinstance (by decide +kernel) (pa_cons (pv 0) (pa_cons (pe_bltn (v := .ty "tuple") (by rfl) T.z_tuple (by decide +kernel) rfl) pa_nil))))
      (pss_one (ps_for PassesOwn.never rfl (pi_tup (pe_slice (sl_tupAK (K := K)) (pv 0) (po_some pe_int) po_none)) (pg_name (i := 2) sc_law_names.nd rfl (.inl rfl))
      (pss_one (ps_set (i := 1) sc_law_names.nd rfl (Or.inl rfl) (pe_op op_cat (pv 1) (pe_callH C_law_names hr (pa_cons (pv 2) pa_nil) (hk := Nat.le_refl _)))))))
      pss_nil)
    (pss_one (ps_ret (pv 1))))), ?_⟩
    walk_at "sx"
    rename_i o1 no1
    have s1 := same_upd (o := .lst [v]) no1
    refine ⟨v, _, p, rfl, hp.same s1, (fun z e => by subst e; exact ok), ?_⟩
    walk_at "sx"
    refine x_slL (.of upd_same) fun o2 no2 => ?_
    rw [cut_bool]
    have s2 := s1.trans (same_upd (o := .lst (if unk p = true then [v] else [])) no2)
    have e2 : upd (upd H o1 (.lst [v])) o2 (.lst (if unk p = true then [v] else [])) o2 = some (.lst (if unk p = true then [v] else [])) := upd_same
    have n2 := s1.free no2
    generalize upd (upd H o1 (.lst [v])) o2 (.lst (if unk p = true then [v] else [])) = G at *
    walk_at "sx"
    rcases hp.three with ⟨n, rfl, rfl⟩ | ⟨z, rfl, rfl⟩ | ⟨j, nm, ps, a, ys, ej, rfl, rfl, sa, pq⟩
    · refine x_isT (t := .type "int") (c := false) (.base (.int n)) (kit_ty (by decide +kernel)) ?_
      walk_at "sx"
      exact q o2 G n2 s2 e2
    · refine x_isT (t := .type "str") (c := false) (.base (.str z)) (kit_ty (by decide +kernel)) ?_
      walk_at "sx"
      refine q o2 G n2 s2 ?_
      rw [e2, nmT]
      show some (HO.lst (if unkS z = true then [V.str z] else [])) = _
      split <;> rfl
    · have ej' : j = k := by omega
      subst ej'
      have sa2 := Same.sqT s2 sa
      have e2' : G o2 = some (.lst []) := e2
      have okl := ok
      have okl : okL TxOk (fun _ => True) ps := by
        have h : okT TxOk (fun _ => True) (.t nm ps) := ok
        rw [okT] at h
        exact h.2.2.2
      rw [szT] at hz
      refine x_isT (t := .type "tuple") (c := true) (ty_tup sa2) (kit_ty (by decide +kernel)) ?_
      walk_at "sx"
      refine x_slA sa2 fun t2 G2 kG st2 => ?_
      rw [cut_tail] at st2
      have s3 := s2.trans kG
      have pq3 := pq.same s3
      refine x_forT (K := K) (a := t2) (xs := ys) (fun i σ' G' => ∃ (D : Addr) (x2 : Option V), σ' = [some (.ref a), some (.ref D), x2] ∧ H D = none ∧ G' D = some (.lst ((nmL (ps.take i)).map V.str)) ∧ Same G2 G') ⟨o2, none, rfl, n2, kG _ _ e2', same_refl _⟩ (fun i σ' G' _ h => by obtain ⟨_, _, _, _, _, h⟩ := h; exact Same.sqT h st2) ?_ ?_ st2
      · rintro i x σ' G' hx ⟨D, x2, rfl, nD, eD, sG'⟩
        obtain ⟨u, hu1, pu⟩ := pq3.at hx
        have hum := List.mem_of_getElem? hu1
        have hu2 := szL_mem20 hum
        have l1 := nmL_len (ps.take i)
        have l2 := szL_take ps i
        have l3 := nmT_len u
        walk_at "sx"
        refine ⟨x, u, rfl, pu.same sG', okL_mem.mp okl u hum, by omega, fun b3 G4 nb3 s4 e4 => ?_⟩
        refine x_cat (s4 _ _ eD) e4 (sz (by rw [List.length_map, List.length_map]; omega)) fun o5 no5 => ?_
        walk_at "sx"
        refine ⟨o5, _, rfl, (((s3.trans sG').trans s4)).free no5, ?_, (sG'.trans s4).trans (same_upd no5)⟩
        rw [upd_same, List.take_add_one, hu1]
        show some (HO.lst ((nmL (ps.take i)).map V.str ++ (nmT u).map V.str)) = some (HO.lst ((nmL (ps.take i ++ [u])).map V.str))
        rw [nmL_append, List.map_append, nmL, nmL, List.append_nil]
      · rintro σ' G' ⟨D, x2, rfl, nD, eD, sG'⟩
        rw [pq.1, List.take_length] at eD
        walk_at "sx"
        exact q D G' nD (s3.trans sG') (by rw [eD, nmT])
theorem ok_law_sum (F : Fun K "_law_sum" "_law_sum" s_law_sum f fd) (T : Txt mg) (C_law_take : HasTake P w K mg base) (C_law_number : HasNum12 P w K mg base) (C_law_name : HasName P w K mg base) (C_law_weight : HasWt 13 P w K mg base) : FnOk P w K mg base CX0 16 f fd ["pool"] (spSum15 K) := by
  refine F.ok sc_law_sum (fun vs H Q E h => ?_) (fun cdv A outer s H vs Q E hr h => ?_)
  · obtain ⟨p, l, c, rfl, _⟩ := h
    rfl
  obtain ⟨p, l, c, rfl, P0, hc, q⟩ := h
  refine ⟨_, (pss_cons (ps_set (i := 1) sc_law_sum.nd rfl (Or.inl rfl) (pe_lst pa_nil))
    (pss_cons (ps_for PassesOwn.never rfl (pi_range1 (by rfl) T.z_range (pa_cons (pe_op op_add pe_int (pe_callH C_law_take hr (pa_cons (pv 0) (pa_cons pe_int pa_nil)))) pa_nil)) (pg_name (i := 2) sc_law_sum.nd rfl (.inl rfl))
      (pss_cons (ps_set (i := 3) sc_law_sum.nd rfl (Or.inl rfl) (pe_ix (ix_listK (K := K)) (pe_lst (pa_cons pe_str (pa_cons pe_str (pa_cons pe_str (pa_cons pe_str (pa_cons pe_str pa_nil)))))) (pe_callH C_law_take hr (pa_cons (pv 0) (pa_cons pe_int pa_nil))) (fun _ _ => rfl)))
    (Evl.pss_cut (ps_set (i := 4) sc_law_sum.nd rfl (Or.inl rfl) (pe_ix (ix_listK (K := K)) (pe_lst (pa_cons (pe_callH C_law_number hr (pa_cons (pv 0) pa_nil)) (pa_cons (pe_callH C_law_name hr (pa_cons (pv 0) (pa_cons pe_int pa_nil))) pa_nil))) (pe_callH C_law_take hr (pa_cons (pv 0) (pa_cons pe_int pa_nil))) (fun _ _ => rfl)))
    (pss_one (ps_if (PW.pt (pw_and (pt_cmpR op_gt (pe_callB (call_lenK (K := K)) (by rfl) T.z_len (by decide +kernel) (pa_cons (pv 1) pa_nil)) pe_int (nomark _)) (pw_and1 (pt_cmpR op_eq (pe_callH C_law_take hr (pa_cons (pv 0) (pa_cons pe_int pa_nil))) pe_int (nomark _)))))
      (pss_one (ps_set (i := 1) sc_law_sum.nd rfl (Or.inl rfl) (pe_op op_cat (pe_slice (sl_listK (K := K)) (pv 1) po_none (po_some (pe_un un_neg pe_int))) (pe_lst (pa_cons (pe_tup (pa_cons (pv 3) (pa_cons (pe_ix (ix_listK (K := K)) (pv 1) (pe_un un_neg pe_int) (fun _ _ => rfl)) (pa_cons (pe_ix (ix_listK (K := K)) (pv 1) (pe_un un_neg pe_int) (fun _ _ => rfl)) pa_nil)))) pa_nil)))))
      (pss_one (ps_expr (pe_bm PySem.F.plainAttrs_list PySem.F.slot_list_append PySem.F.type_list_append mt_append (pv 1) (pa_cons (pv 4) pa_nil)))))))))
    (pss_one (ps_ret (pe_maxOwn C_law_weight hr rfl rfl T.z_max (pa_cons (pv 1) pa_nil)))))), ?_⟩
  walk_at "sx"
  rename_i o2 no2
  have of2 := P0.fresh no2
  refine ⟨p, l, c, 7, rfl, P0.upd no2, by omega, by decide, by decide, fun n5 G5 n50 n51 P5 k5 => ?_⟩
  have o25 := kxl P0 no2 k5
  have k05 : Kx p l H G5 := ((Kx.refl _).updn no2).trans k5
  walk_at "sx"
  refine x_forR1 (n := 1 + n5) (fun i σ' G => ∃ (pl : Addr) (xs : List V) (ups : List Pt) (x2 x3 x4 : Option V), σ' = [some (.ref p), some (.ref pl), x2, x3, x4] ∧ G pl = some (.lst xs) ∧ pl ≠ p ∧ pl ≠ l ∧ H pl = none ∧ PtsAt K G 12 xs ups ∧ (∀ e ∈ ups, SumOk e) ∧ szL ups ≤ i ∧ (0 < i → 0 < ups.length) ∧ PoolAt G p l (c + 1 + 100 * i) ∧ Kx p l H G) (by omega) (by omega) ⟨o2, [], [], none, none, none, rfl, o25, of2.1, of2.2, no2, .nil, (fun e he => by cases he), Nat.le_refl _, (fun h => absurd h (by decide)), P5.mono (by omega), k05⟩ (fun i σ' G hi h => ?_) (fun σ' G h => ?_)
  · obtain ⟨pl, xs, ups, x2, x3, x4, rfl, hpl, fp, fl, npl, hps, hth, hsz, hpos, PG, kG⟩ := h
    have lxs := hps.1
    have lup := szL_len ups
    walk_at "sx"
    rename_i o6 no6
    refine ⟨p, l, _, 5, rfl, PG.upd no6, by omega, by decide, by decide, fun n6 G6 n60 n61 P6 k6 => ?_⟩
    have o66 := kxl PG no6 k6
    have k06 : Kx p l G G6 := ((Kx.refl _).updn no6).trans k6
    obtain ⟨sv, hsv, hat⟩ := atL (xs := [V.str ("+" : Str), V.str ("-" : Str), V.str ("*" : Str), V.str ("//" : Str), V.str ("mod" : Str)]) n60 (by show n6 < 5; exact n61)
    obtain ⟨sg, rfl, hsg⟩ : ∃ sg : Str, sv = .str sg ∧ sg ∈ sums5 := by
      simp only [List.mem_cons, List.not_mem_nil, or_false] at hsv
      rcases hsv with rfl | rfl | rfl | rfl | rfl <;> exact ⟨_, rfl, by simp [sums5]⟩
    refine x_ixL (.of o66) hat ?_
    have hpl6 := k06 _ _ hpl fp fl
    have hps6 := hps.kx k06 PG
    walk_at "sx"
    refine x_cut (M := fun σ' G' => ∃ (lv : V) (lu : Pt), σ' = [some (.ref p), some (.ref pl), some (.int (i : Int)), some (.str sg), some lv] ∧ (∀ H k, PtAt K H (k + 1) lv lu) ∧ SumOk lu ∧ szT lu = 1 ∧ PoolAt G' p l (c + 1 + 100 * i + 50) ∧ Kx p l G G') ?_ ?_
    · walk_at "sx"
      refine ⟨p, l, c + 1 + 100 * i + 1, rfl, P6, by omega, fun n7 G7 hn7 P7 k7 => ?_⟩
      walk_at "sx"
      refine ⟨p, l, c + 1 + 100 * i + 1 + 4, 1, rfl, P7, by omega, by decide, by decide, fun z8 G8 hz8 P8 k8 => ?_⟩
      walk_at "sx"
      rename_i o9 no9
      refine ⟨p, l, c + 1 + 100 * i + 1 + 4 + 20, 2, rfl, P8.upd no9, by omega, by decide, by decide, fun n10 G10 n100 n101 P10 k10 => ?_⟩
      have o910 := kxl P8 no9 k10
      have k010 : Kx p l G G10 := ((k06.trans k7).trans k8).trans (((Kx.refl _).updn no9).trans k10)
      obtain ⟨lv, hlv, hat2⟩ := atL (xs := [V.int n7, V.str z8]) n100 (by show n10 < 2; exact n101)
      refine x_ixL (.of o910) hat2 ?_
      walk_at "sx"
      simp only [List.mem_cons, List.not_mem_nil, or_false] at hlv
      rcases hlv with rfl | rfl
      · exact ⟨_, .i n7, rfl, fun _ _ => rfl, .num hn7, rfl, P10.mono (by omega), k010⟩
      · exact ⟨_, .s z8, rfl, fun _ _ => rfl, .var hz8, rfl, P10.mono (by omega), k010⟩
    rintro σ' G7 ⟨lv, lu, rfl, hlv, slu, zlu, P7, k7⟩
    have hpl7 := k7 _ _ hpl fp fl
    have hps7 := hps.kx k7 PG
    have k07 := kG.trans k7
    have app : ∀ (G : Hp), G pl = some (.lst xs) → PtsAt K G 12 xs ups → PoolAt G p l (c + 1 + 100 * i + 51) → Kx p l H G → ∃ (pl : Addr) (xs : List V) (ups : List Pt) (x2 x3 x4 : Option V), [some (V.ref p), some (V.ref pl), some (V.int (i : Int)), some (V.str sg), some lv] = [some (.ref p), some (.ref pl), x2, x3, x4] ∧ G pl = some (.lst xs) ∧ True := fun G e _ _ _ => ⟨pl, xs, ups, _, _, _, rfl, e, trivial⟩
    walk_at "sx"
    refine x_ite (fun c1 => ?_) (fun c1 => ?_)
    rotate_left 1
    · walk_at "sx"
      refine x_app hpl7 (szl (by omega)) ?_
      refine ⟨pl, xs ++ [lv], ups ++ [lu], _, _, _, rfl, upd_same, fp, fl, npl, (hps7.append (.one (hlv _ 11))).lst hpl7, fun e he => ?_, by rw [szL_append]; simp [szL, zlu]; omega, fun _ => by rw [List.length_append]; simp, (P7.updo fp fl).mono (by omega), k07.updf npl⟩
      rcases List.mem_append.mp he with he | he
      · exact hth e he
      · rw [List.mem_singleton.mp he]
        exact slu
    have c1' : (1 : Int) < (xs.length : Int) := c1
    walk_at "sx"
    refine ⟨p, l, c + 1 + 100 * i + 50, 2, rfl, P7, by omega, by decide, by decide, fun n8 G8 n80 n81 P8 k8 => ?_⟩
    have hpl8 := k8 _ _ hpl7 fp fl
    have hps8 := hps7.kx k8 P7
    have k08 := k07.trans k8
    walk_at "sx"
    refine x_ite (fun c2 => ?_) (fun c2 => ?_)
    rotate_left 1
    · walk_at "sx"
      refine x_app hpl8 (szl (by omega)) ?_
      refine ⟨pl, xs ++ [lv], ups ++ [lu], _, _, _, rfl, upd_same, fp, fl, npl, (hps8.append (.one (hlv _ 11))).lst hpl8, fun e he => ?_, by rw [szL_append]; simp [szL, zlu]; omega, fun _ => by rw [List.length_append]; simp, (P8.updo fp fl).mono (by omega), k08.updf npl⟩
      rcases List.mem_append.mp he with he | he
      · exact hth e he
      · rw [List.mem_singleton.mp he]
        exact slu
    walk_at "sx"
    refine x_slL (.of hpl8) fun q2 nq => ?_
    rw [cut_m2 (by omega)]
    have s9 := same_upd (o := .lst (xs.take (xs.length - 2))) nq
    have e9 : upd G8 q2 (.lst (xs.take (xs.length - 2))) q2 = some (.lst (xs.take (xs.length - 2))) := upd_same
    have hpl9 := s9 _ _ hpl8
    have hps9 := hps8.same s9
    have P9 := P8.same s9
    have k09 := k08.trans (.of s9)
    generalize upd G8 q2 (.lst (xs.take (xs.length - 2))) = G9 at *
    have hi2 : xs[xs.length - 2]? = some (xs[xs.length - 2]'(by omega)) := List.getElem?_eq_getElem _
    have hi1 : xs[xs.length - 1]? = some (xs[xs.length - 1]'(by omega)) := List.getElem?_eq_getElem _
    obtain ⟨ua, hua, pua⟩ := hps9.at hi2
    obtain ⟨ub, hub, pub⟩ := hps9.at hi1
    walk_at "sx"
    refine x_ixL (.of hpl9) (atI_neg (n := 2) (by decide) (by omega) hi2) ?_
    walk_at "sx"
    refine x_ixL (.of hpl9) (atI_neg (n := 1) (by decide) (by omega) hi1) ?_
    walk_at "sx"
    rename_i tp ntp lb nlb
    have st := same_upd (o := .tup [.str sg, xs[xs.length - 2]'(by omega), xs[xs.length - 1]'(by omega)]) ntp
    have sl := same_upd (o := .lst [.ref tp]) nlb
    have q9 := sl _ _ (st _ _ e9)
    refine x_cat (xs := xs.take (xs.length - 2)) (zs := [.ref tp]) q9 upd_same (sz (by rw [List.length_take]; show _ + 1 ≤ _; omega)) fun pn npn => ?_
    have sA := (st.trans sl).trans (same_upd (o := .lst (xs.take (xs.length - 2) ++ [.ref tp])) npn)
    have fpn := (P9.same (st.trans sl)).fresh npn
    have eups : ups = ups.take (xs.length - 2) ++ [ua, ub] := by
      have h1 : (ups.drop (xs.length - 2)) = [ua, ub] := by
        have hl2 : ups.length - 2 < ups.length := by omega
        have e0 : xs.length - 2 = ups.length - 2 := by omega
        have e1 : xs.length - 1 = ups.length - 2 + 1 := by omega
        rw [e0] at hua ⊢
        rw [e1] at hub
        have hl1 : ups.length - 2 + 1 < ups.length := by omega
        rw [List.getElem?_eq_getElem hl2] at hua
        rw [List.getElem?_eq_getElem hl1] at hub
        rw [List.drop_eq_getElem_cons hl2, List.drop_eq_getElem_cons hl1, Option.some.inj hua, Option.some.inj hub, List.drop_of_length_le (by omega)]
      rw [← h1, List.take_append_drop]
    have hszs := congrArg szL eups
    rw [szL_append] at hszs
    simp only [szL] at hszs
    have sua := hth ua (List.mem_of_getElem? hua)
    have sub := hth ub (List.mem_of_getElem? hub)
    have da := dp_sz ua
    have db := dp_sz ub
    have hpsA := hps9.same sA
    have hnew : PtAt K (upd (upd (upd G9 tp (.tup [.str sg, xs[xs.length - 2]'(by omega), xs[xs.length - 1]'(by omega)])) lb (.lst [.ref tp])) pn (.lst (xs.take (xs.length - 2) ++ [.ref tp]))) 12 (.ref tp) (.t sg [ua, ub]) := by
      refine PtAt.tup (vs := [xs[xs.length - 2]'(by omega), xs[xs.length - 1]'(by omega)]) (ps := [ua, ub]) ?_ ?_
      · exact Same.sqT (sl.trans (same_upd npn)) (.of upd_same)
      · exact .append (vs := [xs[xs.length - 2]'(by omega)]) (ps := [ua]) (.one ((pua.same sA).of_depth (by omega))) (.one ((pub.same sA).of_depth (by omega)))
    walk_at "sx"
    refine ⟨pn, _, ups.take (xs.length - 2) ++ [.t sg [ua, ub]], _, _, _, rfl, upd_same, fpn.1, fpn.2, (k09.trans (.of (st.trans sl))).none npn fpn.1 fpn.2, (hpsA.take (xs.length - 2)).append (.one hnew), fun e he => ?_, ?_, fun _ => by rw [List.length_append]; simp, (P9.same sA).mono (by omega), k09.trans (.of sA)⟩
    · rcases List.mem_append.mp he with he | he
      · exact hth e (List.mem_of_mem_take he)
      · rw [List.mem_singleton.mp he]
        exact sua.join hsg sub
    · rw [szL_append]
      simp only [szL, szT]
      omega
  · obtain ⟨pl, xs, ups, x2, x3, x4, rfl, hpl, fp, fl, npl, hps, hth, hsz, hpos, PG, kG⟩ := h
    have hpos' := hpos (by omega)
    have nmk : ∀ e ∈ ups, okT NmOk NmOk e := fun e he => ((hth e he).ok [] .nil).nm
    walk_at "sx"
    refine x_maxOwn ?_
    walk_at "sx"
    refine ⟨pl, xs, rfl, .of hpl, fun z => by rw [← hps.1, z] at hpos'; exact absurd hpos' (by decide), fun x hx G1 s1 => ?_, fun x hx G1 s1 => ?_⟩
    · obtain ⟨i, hi⟩ := List.getElem?_of_mem hx
      obtain ⟨e, he, pe⟩ := hps.at hi
      exact ⟨x, e, rfl, (pe.up (by decide)).same s1, nmk e (List.mem_of_getElem? he), fun v H' s2 tv => ⟨s2, _, _, tv⟩⟩
    · obtain ⟨i, hi⟩ := List.getElem?_of_mem hx
      obtain ⟨e, he, pe⟩ := hps.at hi
      have := szL_mem20 (List.mem_of_getElem? he)
      exact q x e G1 (pe.same s1) (hth e (List.mem_of_getElem? he)) (by omega) ((PG.mono (by omega)).same s1) (kG.trans (.of s1))
end
end Gs
namespace Gs
open PySem PySem.Spec PyProof.Rows L2 TL SrtK
/-! ### goals drawn: tests, things joined by and -/
theorem x_rng3 {ta : TA} {σ : L2.St} {H : Hp} {R} (q : ta σ H fun vs H1 => ∃ (i j c : Int) (n : Nat), vs = [.int i, .int j, .int c] ∧ RgC i j c n ∧ R (Itc i c n) H1) : iRng3 ta σ H R := q
theorem chn_snoc : ∀ (p : Pt) (qs : List Pt), qs ≠ [] → chn (p :: qs) = .t "and" [p, chn qs]
  | _, [], h => absurd rfl h
  | _, _ :: _, _ => rfl
theorem test_own {s : Str} (hs : s ∈ tests4) : Own s 2 := by
  simp only [tests4, List.mem_cons, List.not_mem_nil, or_false] at hs
  rcases hs with rfl | rfl | rfl | rfl <;> (unfold Own; decide +kernel)
section
variable {P : Program} {w : World} {K : PySem.W.Frag} {mg : Str → Option Value} {base : Heap} {f : Addr} {fd : FuncData}
theorem ok_law_test (F : Fun K "_law_test" "_law_test" s_law_test f fd) (T : Txt mg) (C_law_take : HasTake P w K mg base) (C_law_sum : HasSum15 P w K mg base) : FnOk P w K mg base CX0 17 f fd ["pool"] (spTest15 K) := by
  refine F.ok sc_law_test (fun vs H Q E h => ?_) (fun cdv A outer s H vs Q E hr h => ?_)
  · obtain ⟨p, l, c, rfl, _⟩ := h
    rfl
  obtain ⟨p, l, c, rfl, P0, hc, q⟩ := h
  refine ⟨_, (pss_cons (ps_set (i := 1) sc_law_test.nd rfl (Or.inl rfl) (pe_ix (ix_listK (K := K)) (pe_lst (pa_cons pe_str (pa_cons pe_str (pa_cons pe_str (pa_cons pe_str pa_nil))))) (pe_callH C_law_take hr (pa_cons (pv 0) (pa_cons pe_int pa_nil))) (fun _ _ => rfl)))
    (pss_one (ps_ret (pe_tup (pa_cons (pv 1) (pa_cons (pe_callH C_law_sum hr (pa_cons (pv 0) pa_nil)) (pa_cons (pe_callH C_law_sum hr (pa_cons (pv 0) pa_nil)) pa_nil))))))), ?_⟩
  walk_at "sx"
  rename_i o2 no2
  refine ⟨p, l, c, 4, rfl, P0.upd no2, by omega, by decide, by decide, fun n6 G6 n60 n61 P6 k6 => ?_⟩
  have o66 := kxl P0 no2 k6
  have k06 : Kx p l H G6 := ((Kx.refl _).updn no2).trans k6
  obtain ⟨sv, hsv, hat⟩ := atL (xs := [V.str ("<" : Str), V.str ("=<" : Str), V.str ("==" : Str), V.str ("=/=" : Str)]) n60 (by show n6 < 4; exact n61)
  obtain ⟨sg, rfl, hsg⟩ : ∃ sg : Str, sv = .str sg ∧ sg ∈ tests4 := by
    simp only [List.mem_cons, List.not_mem_nil, or_false] at hsv
    rcases hsv with rfl | rfl | rfl | rfl <;> exact ⟨_, rfl, by simp [tests4]⟩
  refine x_ixL (.of o66) hat ?_
  walk_at "sx"
  refine ⟨p, l, _, rfl, P6, by omega, fun x1 u1 G7 hx1 s1 z1 P7 k7 => ?_⟩
  walk_at "sx"
  refine ⟨p, l, _, rfl, P7, by omega, fun x2 u2 G8 hx2 s2 z2 P8 k8 => ?_⟩
  walk_at "sx"
  rename_i tp ntp
  have d1 := sum_dp u1 s1.sm
  have d2 := sum_dp u2 s2.sm
  have st := same_upd (o := .tup [.str sg, x1, x2]) ntp
  refine q _ (.t sg [u1, u2]) _ ?_ (fun ops k => .two (test_own hsg) (s1.ok ops k) (s2.ok ops k)) ?_ ?_ ?_ ((P8.upd ntp).mono (by omega)) (((k06.trans k7).trans k8).updn ntp)
  · exact .tup (vs := [x1, x2]) (ps := [u1, u2]) (.of upd_same) (.append (vs := [x1]) (ps := [u1]) (.one (((hx1.kx k8 P7).same st).of_depth (by omega))) (.one ((hx2.same st).of_depth (by omega))))
  · show (decide (sg ∈ tests4) && decide (2 = 2) && (sumP u1 && sumP u2)) = true
    rw [decide_eq_true hsg, s1.sm, s2.sm]
    rfl
  · simp only [szT, szL]
    omega
  · simp only [dpT, dpL]
    omega
theorem ok_law_together (F : Fun K "_law_together" "_law_together" s_law_together f fd) (T : Txt mg) : FnOk P w K mg base CX0 1 f fd ["things"] (spTogether K) := by
  refine F.ok sc_law_together (fun vs H Q E h => ?_) (fun cdv A outer s H vs Q E hr h => ?_)
  · obtain ⟨a, xs, ps, rfl, _⟩ := h
    rfl
  obtain ⟨a, xs, ps, rfl, ha, hps, l0, l4, q⟩ := h
  have lxs := hps.1
  have hi1 : xs[xs.length - 1]? = some (xs[xs.length - 1]'(by omega)) := List.getElem?_eq_getElem _
  obtain ⟨ub, hub, pub⟩ := hps.at hi1
  refine ⟨_, (pss_cons (ps_set (i := 1) sc_law_together.nd rfl (Or.inl rfl) (pe_ix (ix_listK (K := K)) (pv 0) (pe_un un_neg pe_int) (fun _ _ => rfl)))
    (pss_cons (ps_for PassesOwn.never rfl (pi_range3 (by rfl) T.z_range (pa_cons (pe_op op_sub (pe_callB (call_lenK (K := K)) (by rfl) T.z_len (by decide +kernel) (pa_cons (pv 0) pa_nil)) pe_int) (pa_cons (pe_un un_neg pe_int) (pa_cons (pe_un un_neg pe_int) pa_nil)))) (pg_name (i := 2) sc_law_together.nd rfl (.inl rfl))
      (pss_one (ps_set (i := 1) sc_law_together.nd rfl (Or.inl rfl) (pe_tup (pa_cons pe_str (pa_cons (pe_ix (ix_listK (K := K)) (pv 0) (pv 2) (fun _ _ => rfl)) (pa_cons (pv 1) pa_nil)))))))
    (pss_one (ps_ret (pv 1))))), ?_⟩
  walk_at "sx"
  refine x_ixL (.of ha) (atI_neg (n := 1) (by decide) (by omega) hi1) ?_
  walk_at "sx"
  refine x_rng3 ?_
  walk_at "sx"
  refine ⟨_, _, _, _, rfl, RgC.neg (by omega) (by omega) (by omega) (by omega), ?_⟩
  have eN : ((xs.length : Int) - 2 - (-1)).toNat = xs.length - 1 := by omega
  refine for_rangeC (D := { nx := fun σ H => tRet (tVar 1) { nx := fun x H' => Q V.non H', rt := Q } σ H, rt := Q }) (fun i σ' G => i ≤ ps.length - 1 ∧ ∃ (x : V) (x2 : Option V), σ' = [some (.ref a), some x, x2] ∧ PtAt K G (8 + i) x (chn (ps.drop (ps.length - 1 - i))) ∧ Same H G) ?_ (fun i σ' G hi h => ?_) (fun σ' G h => ?_)
  · refine ⟨Nat.zero_le _, _, _, rfl, ?_, same_refl _⟩
    have hu : ps.drop (ps.length - 1) = [ub] := by
      rw [lxs] at hub
      have hl : ps.length - 1 < ps.length := by omega
      rw [List.getElem?_eq_getElem hl] at hub
      rw [List.drop_eq_getElem_cons hl, Option.some.inj hub, List.drop_of_length_le (by omega)]
    rw [Nat.sub_zero, hu]
    exact pub
  · obtain ⟨hi2, x, x2, rfl, hx, s1⟩ := h
    have hj : xs[xs.length - 2 - i]? = some (xs[xs.length - 2 - i]'(by omega)) := List.getElem?_eq_getElem _
    obtain ⟨uj, huj, puj⟩ := (hps.same s1).at hj
    have ej : (xs.length : Int) - 2 + (i : Int) * -1 = ((xs.length - 2 - i : Nat) : Int) := by omega
    walk_at "sx"
    rw [ej]
    refine x_ixL (.of (s1 _ _ ha)) (atI_nat hj) ?_
    walk_at "sx"
    rename_i tp ntp
    have st := same_upd (o := .tup [.str ("and" : Str), xs[xs.length - 2 - i]'(by omega), x]) ntp
    refine ⟨by omega, _, _, rfl, ?_, s1.trans st⟩
    have ed : ps.drop (ps.length - 1 - (i + 1)) = uj :: ps.drop (ps.length - 1 - i) := by
      have e0 : ps.length - 1 - (i + 1) = xs.length - 2 - i := by omega
      have hl : xs.length - 2 - i < ps.length := by omega
      rw [List.getElem?_eq_getElem hl] at huj
      rw [e0, List.drop_eq_getElem_cons hl, Option.some.inj huj, show xs.length - 2 - i + 1 = ps.length - 1 - i by omega]
    rw [ed, chn_snoc _ _ (fun z => by
      have := congrArg List.length z
      rw [List.length_drop] at this
      change ps.length - (ps.length - 1 - i) = 0 at this
      omega)]
    exact .tup (vs := [xs[xs.length - 2 - i]'(by omega), x]) (ps := [uj, chn (ps.drop (ps.length - 1 - i))]) (.of upd_same) (.append (vs := [xs[xs.length - 2 - i]'(by omega)]) (ps := [uj]) (.one ((puj.same st).up (Nat.le_add_right 8 i))) (.one (hx.same st)))
  · obtain ⟨hi2, x, x2, rfl, hx, s1⟩ := h
    rw [eN] at *
    walk_at "sx"
    have e0 : ps.length - 1 - (xs.length - 1) = 0 := by omega
    rw [e0, List.drop_zero] at hx
    exact q _ _ (hx.up (by omega)) s1
end
end Gs
namespace Gs
open PySem PySem.Spec PyProof.Rows L2 TL SrtK
abbrev s_law_box : Stmt := PySem.Challenge.pw_goalstead_k14_goals_by_their_shapes.main.body.getD 91 (.Pass ⟨0, 0, 0, 0⟩)
theorem sc_law_box : FnScope ["pool", "many", "ends", "barred", "ranges", "k", "name", "one", "n"] ["pool", "many"] (defScope s_law_box) := ⟨rfl, rfl, rfl, by decide +kernel, rfl, by decide +kernel, by decide +kernel⟩
/-! ### boxes drawn -/
def EndOk (e : Pt) : Prop := ∃ a b, e = .t ".." [a, b] ∧ SumOk a ∧ SumOk b ∧ szT a ≤ 7 ∧ szT b ≤ 7
mutual
theorem sum_nm : ∀ u : Pt, sumP u = true → 2 * (nmT u).length ≤ szT u + 1
  | .i _, _ => by rw [nmT, szT]; simp
  | .s _, _ => by
    rw [nmT, szT]
    split <;> simp
  | .t nm ps, h => by
    rw [sumP, Bool.and_eq_true, Bool.and_eq_true, decide_eq_true_iff, decide_eq_true_iff] at h
    rw [nmT, szT]
    have l2 := h.1.2
    match ps, l2 with
    | [a, b], _ =>
      have h2 := h.2
      rw [sumPL, sumPL, sumPL, Bool.and_true, Bool.and_eq_true] at h2
      have ea := sum_nm a h2.1
      have eb := sum_nm b h2.2
      simp only [nmL, szL, List.length_append, List.length_nil]
      omega
theorem sum_nmL : ∀ ps : List Pt, sumPL ps = true → True
  | _, _ => trivial
end
theorem EndOk.nm {e : Pt} (h : EndOk e) : (nmT e).length ≤ 8 := by
  obtain ⟨a, b, rfl, h1, h2, h3, h4⟩ := h
  have := sum_nm a h1.sm
  have := sum_nm b h2.sm
  simp only [nmT, nmL, List.length_append, List.length_nil]
  omega
theorem ends_nm : ∀ es : List Pt, (∀ e ∈ es, EndOk e) → (nmL es).length ≤ 8 * es.length
  | [], _ => Nat.le_refl _
  | x :: r, h => by
    have := (h x (List.mem_cons_self ..)).nm
    have := ends_nm r fun e he => h e (List.mem_cons_of_mem _ he)
    rw [nmL, List.length_append, List.length_cons]
    omega
def rgP (x : Str × Pt) : Pt := .t "in" [.s x.1, x.2]
theorem nm_tx15 {z : Str} (h : NmOk z) : TxOk z := by
  have := h.len
  unfold Len12 at this
  obtain ⟨way, c, t, e, _⟩ := h
  exact ⟨c, t, e, by omega⟩
theorem EndOk.go {e : Pt} (h : EndOk e) {ops : List Op} (k : OpsOk ops) : GoOk ops e := by
  obtain ⟨a, b, rfl, h1, h2, _⟩ := h
  exact .two (by unfold Own; decide +kernel) (h1.ok ops k) (h2.ok ops k)
theorem EndOk.sz {e : Pt} (h : EndOk e) : szT e ≤ 15 := by
  obtain ⟨a, b, rfl, h1, h2, h3, h4⟩ := h
  simp only [szT, szL]
  omega
theorem EndOk.dp {e : Pt} (h : EndOk e) : dpT e ≤ 5 := by
  obtain ⟨a, b, rfl, h1, h2, h3, h4⟩ := h
  have := sum_dp a h1.sm
  have := sum_dp b h2.sm
  simp only [dpT, dpL]
  omega
theorem EndOk.span {e : Pt} (h : EndOk e) : spanP e = true := by
  obtain ⟨a, b, rfl, h1, h2, h3, h4⟩ := h
  show (namedP [".."] 2 (.t ".." [a, b]) && (sumP a && sumP b)) = true
  rw [h1.sm, h2.sm]
  rfl
theorem chn_sz : ∀ ps : List Pt, ps ≠ [] → szT (chn ps) + 1 = szL ps + ps.length
  | [], h => absurd rfl h
  | [p], _ => by
    simp only [chn, szL, List.length_singleton, Nat.add_zero]
  | p :: q :: r, _ => by
    have := chn_sz (q :: r) (by simp)
    simp only [chn, szT, szL, List.length_cons] at *
    omega
theorem chn_dp {d : Nat} : ∀ ps : List Pt, ps ≠ [] → (∀ p ∈ ps, dpT p ≤ d) → dpT (chn ps) + 1 ≤ d + ps.length
  | [], h, _ => absurd rfl h
  | [p], _, h => by
    have := h p (List.mem_cons_self ..)
    simp only [chn, List.length_singleton]
    omega
  | p :: q :: r, _, h => by
    have := chn_dp (q :: r) (by simp) fun x hx => h x (List.mem_cons_of_mem _ hx)
    have := h p (List.mem_cons_self ..)
    simp only [chn, dpT, dpL, List.length_cons] at *
    omega
theorem chn_go {ops : List Op} : ∀ ps : List Pt, ps ≠ [] → (∀ p ∈ ps, GoOk ops p) → GoOk ops (chn ps)
  | [], h, _ => absurd rfl h
  | [p], _, h => h p (List.mem_cons_self ..)
  | p :: q :: r, _, h => .two (by unfold Own; decide +kernel) (h p (List.mem_cons_self ..)) (chn_go (q :: r) (by simp) fun x hx => h x (List.mem_cons_of_mem _ hx))
theorem chn_parts : ∀ ps : List Pt, ps ≠ [] → (∀ p ∈ ps, namedP ["and"] 2 p = false) → partsA (chn ps) = ps
  | [], h, _ => absurd rfl h
  | [p], _, h => partsA_one (h p (List.mem_cons_self ..))
  | p :: q :: r, _, h => by
    rw [chn, partsA_and (by rfl), chn_parts (q :: r) (by simp) fun x hx => h x (List.mem_cons_of_mem _ hx)]
theorem chn_such : ∀ ps : List Pt, ps ≠ [] → (∀ p ∈ ps, namedP ["such"] 2 p = false) → namedP ["such"] 2 (chn ps) = false
  | [], h, _ => absurd rfl h
  | [p], _, h => h p (List.mem_cons_self ..)
  | p :: q :: r, _, h => rfl
theorem once_nd (l : List Str) : l.Nodup → once l = l := by
  have : ∀ (r a : List Str), (a ++ r).Nodup → once a = a → once (a ++ r) = a ++ r := by
    intro r
    induction r with
    | nil =>
      intro a _ h
      rw [List.append_nil]
      exact h
    | cons x r ih =>
      intro a hn h
      have e : a ++ x :: r = (a ++ [x]) ++ r := by simp
      rw [e] at hn ⊢
      refine ih _ hn ?_
      rw [once_more, h, if_neg]
      have h1 := (List.nodup_append.mp hn).1
      intro hx
      exact (List.nodup_append.mp h1).2.2 x hx x (List.mem_singleton_self _) rfl
  intro h
  exact this l [] h rfl
def BxRs (rs : List (Str × Pt)) : Prop := (∀ x ∈ rs, NameOk 1 (tl x.1) ∧ EndOk x.2) ∧ (rs.map (·.1)).Nodup ∧ ∀ x ∈ rs, ∀ y ∈ rs, y.1 ∉ nmT x.2
theorem box_ok {rs : List (Str × Pt)} (h : BxRs rs) (h0 : rs ≠ []) : (rs.length ≤ 3 → boxP (chn (rs.map rgP)) = true) ∧ namedP ["such"] 2 (chn (rs.map rgP)) = false := by
  have hne : rs.map rgP ≠ [] := by simpa using h0
  refine ⟨?_, chn_such _ hne fun p hp => ?_⟩
  · intro h3
    unfold boxP
    rw [chn_parts _ hne fun p hp => by obtain ⟨x, _, rfl⟩ := List.mem_map.mp hp; rfl]
    have en : (rs.map rgP).map rname = rs.map (·.1) := by rw [List.map_map]; rfl
    rw [en, once_nd _ h.2.1, List.length_map, List.length_map, Bool.and_eq_true, Bool.and_eq_true]
    refine ⟨⟨List.all_eq_true.mpr fun p hp => ?_, ?_⟩, List.all_eq_true.mpr fun p hp => ?_⟩
    · obtain ⟨x, hx, rfl⟩ := List.mem_map.mp hp
      obtain ⟨h1, h2⟩ := h.1 x hx
      show (namedP ["in"] 2 (rgP x) && (unk (.s x.1) && spanP x.2)) = true
      rw [h2.span, show unk (.s x.1) = true from (SumOk.var h1).sm]
      rfl
    · simp
      omega
    · obtain ⟨x, hx, rfl⟩ := List.mem_map.mp hp
      refine List.all_eq_true.mpr fun u hu => ?_
      have hu := mem_once.mp hu
      rw [Bool.not_eq_true', decide_eq_false_iff_not]
      intro hm
      obtain ⟨y, hy, rfl⟩ := List.mem_map.mp hm
      exact h.2.2 x hx y hy hu
  · obtain ⟨x, _, rfl⟩ := List.mem_map.mp hp
    rfl
theorem PtsAt.of_depth5 {K : PySem.W.Frag} {H : Hp} {k j : Nat} {vs : List V} {ps : List Pt} (h : PtsAt K H k vs ps) (hd : ∀ p ∈ ps, dpT p ≤ j) : PtsAt K H j vs ps := ⟨h.1, fun i v u h1 h2 => (h.2 i v u h1 h2).of_depth (hd u (List.mem_of_getElem? h2))⟩
def ut (i : Nat) : Str := ("U" : Str) ++ Str.ofString (toString ((i : Nat) : Int))
theorem ut_nd : ((List.range 60).map ut).Nodup := by decide +kernel
theorem ut_nm {i : Nat} (h : i < 60) : NameOk 1 (tl (ut i)) := by
  have hl := numL_len (k := 2) (n := i) (by decide) (by omega)
  refine ⟨85, numL i, ?_, .inr (.inl ⟨rfl, by decide, fun x hx => List.mem_append_right _ (numL_D i x hx), by omega⟩)⟩
  show tl (("U" : Str) ++ Str.ofString (toString ((i : Nat) : Int))) = _
  rw [tl_append, tl_num, show tl ("U" : Str) = [85] from by decide +kernel]
  rfl
theorem ut_free (l : List Str) (h : l.length < 60) : ∃ z, (((List.range 60).map ut).filter fun z => !decide (z ∈ l))[0]? = some z ∧ z ∉ l ∧ NameOk 1 (tl z) := by
  cases e : ((List.range 60).map ut).filter fun z => !decide (z ∈ l) with
  | nil =>
    have hs : ∀ z ∈ (List.range 60).map ut, z ∈ l := fun z hz => by
      have := List.filter_eq_nil_iff.mp e z hz
      simpa using this
    have := sub_len ut_nd hs
    rw [List.length_map, List.length_range] at this
    omega
  | cons z t =>
    have hz : z ∈ ((List.range 60).map ut).filter fun z => !decide (z ∈ l) := by rw [e]; exact List.mem_cons_self ..
    obtain ⟨h1, h2⟩ := List.mem_filter.mp hz
    obtain ⟨i, hi, rfl⟩ := List.mem_map.mp h1
    exact ⟨_, rfl, by simpa using h2, ut_nm (List.mem_range.mp hi)⟩
def spBox15 (K : PySem.W.Frag) : Sp := fun vs H Q _ => ∃ (p l : Addr) (c many : Int), vs = [.ref p, .int many] ∧ PoolAt H p l c ∧ c + 9000 ≤ 1000000000000 ∧ 1 ≤ many ∧ many ≤ 4 ∧
  ∀ x u H', PtAt K H' 12 x u → (∀ ops, OpsOk ops → GoOk ops u) → (many ≤ 3 → boxP u = true) → namedP ["such"] 2 u = false → (szT u : Int) + 1 ≤ 18 * many → (dpT u : Int) ≤ 5 + many → ((partsA u).length : Int) = many → PoolAt H' p l (c + 9000) → Kx p l H H' → Q x H'
section
variable {P : Program} {w : World} {K : PySem.W.Frag} {mg : Str → Option Value} {base : Heap} {f : Addr} {fd : FuncData}
def HasBox15 (P : Program) (w : World) (K : PySem.W.Frag) (mg : Str → Option Value) (base : Heap) : Prop := Has P w K mg base 17 "_law_box" ["pool", "many"] (spBox15 K)
theorem ok_law_box (F : Fun K "_law_box" "_law_box" s_law_box f fd) (T : Txt mg) (C_law_sum : HasSum15 P w K mg base) (C_law_names : HasNames15 12 P w K mg base) (C_law_name : HasName P w K mg base) (C_law_together : HasTogether P w K mg base) : FnOk P w K mg base CX0 17 f fd ["pool", "many"] (spBox15 K) := by
  refine F.ok sc_law_box (fun vs H Q E h => ?_) (fun cdv A outer s H vs Q E hr h => ?_)
  · obtain ⟨p, l, c, many, rfl, _⟩ := h
    rfl
  obtain ⟨p, l, c, many, rfl, P0, hc, m1, m3, q⟩ := h
  refine ⟨_, (pss_cons (ps_setLc (i := 2) (own := [("k", 5)]) (g := gName 5) (tt := tYes) rfl sc_law_box.nd rfl rfl (sw_true rfl rfl rfl (by decide +kernel)) (pi_range1 (by rfl) T.z_range (pa_cons (pv 1) pa_nil)) (blkOk_by (own := [("k", 5)]) (N := ["pool", "many", "ends", "barred", "ranges", "k", "name", "one", "n"]) (sc := defScope s_law_box) (by decide +kernel)) (fun _ _ _ _ _ => pg_name (i := 5) sc_law_box.nd rfl (Or.inl rfl)) (fun _ _ _ _ _ => pts_nil) (fun _ _ _ _ _ => (pe_tup (pa_cons pe_str (pa_cons (pe_callH C_law_sum hr (pa_cons (pv 0) pa_nil)) (pa_cons (pe_callH C_law_sum hr (pa_cons (pv 0) pa_nil)) pa_nil))))))
    (pss_cons (ps_set (i := 3) sc_law_box.nd rfl (Or.inr rfl) (pe_callH C_law_names hr (pa_cons (pe_op (op_catAK (K := K)) (pe_tup (pa_cons pe_str pa_nil)) (pe_callTy call_tuple_of (by rfl) T.z_tuple (by decide +kernel) (pa_cons (pv 2) pa_nil))) pa_nil)))
    (pss_cons (ps_set (i := 4) sc_law_box.nd rfl (Or.inl rfl) (pe_lst pa_nil))
    (pss_cons (ps_for PassesOwn.never rfl (pi_range1 (by rfl) T.z_range (pa_cons (pv 1) pa_nil)) (pg_name (i := 5) sc_law_box.nd rfl (.inl rfl))
      (pss_cons (ps_set (i := 6) sc_law_box.nd rfl (Or.inl rfl) (pe_callH C_law_name hr (pa_cons (pv 0) (pa_cons pe_int pa_nil))))
    (Evl.pss_cut (ps_if (pt_cmpR (op_inK (K := K)) (pv 6) (pv 3) (by first | exact nomark _ | rfl))
      (pss_one (ps_set (i := 6) sc_law_box.nd rfl (Or.inl rfl) (pe_ix (ix_listK (K := K)) (pe_lc (own := [("one", 7)]) (g := gName 7) rfl sc_law_box.nd (pi_list (pe_lc (own := [("n", 8)]) (g := gName 8) (tt := tYes) rfl sc_law_box.nd (pi_range1 (by rfl) T.z_range (pa_cons pe_int pa_nil)) (blkOk_by (own := [("n", 8)]) (N := ["pool", "many", "ends", "barred", "ranges", "k", "name", "one", "n"]) (sc := defScope s_law_box) (by decide +kernel)) (fun _ _ _ _ _ => pg_name (i := 8) sc_law_box.nd rfl (Or.inl rfl)) (fun _ _ _ _ _ => pts_nil) (fun _ _ _ _ _ => (pe_op op_add_str pe_str (pe_callTy call_str_int (by rfl) T.z_str (by decide +kernel) (pa_cons (pv 8) pa_nil)))))) (blkOk_by (own := [("one", 7)]) (N := ["pool", "many", "ends", "barred", "ranges", "k", "name", "one", "n"]) (sc := defScope s_law_box) (by decide +kernel)) (fun _ _ _ _ _ => pg_name (i := 7) sc_law_box.nd rfl (Or.inl rfl)) (fun _ _ _ _ _ => (pts_one (pt_cmpR (op_notInK (K := K)) (pv 7) (pv 3) (by first | exact nomark _ | rfl)))) (fun _ _ _ _ _ => (pv 7))) pe_int (fun _ _ => rfl))))
      pss_nil)
    (pss_cons (ps_expr (pe_bm PySem.F.plainAttrs_list PySem.F.slot_list_append PySem.F.type_list_append mt_append (pv 3) (pa_cons (pv 6) pa_nil)))
    (pss_one (ps_expr (pe_bm PySem.F.plainAttrs_list PySem.F.slot_list_append PySem.F.type_list_append mt_append (pv 4) (pa_cons (pe_tup (pa_cons pe_str (pa_cons (pv 6) (pa_cons (pe_ix (ix_listK (K := K)) (pv 2) (pv 5) (fun _ _ => rfl)) pa_nil)))) pa_nil))))))))
    (pss_one (ps_ret (pe_callH C_law_together hr (pa_cons (pv 4) pa_nil)))))))), ?_⟩
  walk_at "sx"
  refine x_lcR1 (n := many) (fun D i G => ∃ (vs : List V) (es : List Pt), G D = some (.lst vs) ∧ PtsAt K G 12 vs es ∧ (∀ e ∈ es, EndOk e) ∧ es.length = i ∧ PoolAt G p l (c + 2000 * i) ∧ Kx p l H G) (by omega) (by omega) (fun D hD => ⟨[], [], upd_same, .nil, (fun e he => by cases he), rfl, (P0.upd hD).mono (by omega), (Kx.refl _).updn hD⟩) ?_ ?_
  · rintro D hD i G hi ⟨vs, es, e1, e2, e4, e3, PG, kG⟩
    have fD := P0.fresh hD
    walk_at "sx"
    refine ⟨rfl, ?_⟩
    walk_at "sx"
    refine ⟨p, l, _, rfl, PG, by omega, fun x1 u1 G1 hx1 s1 z1 P1 k1 => ?_⟩
    walk_at "sx"
    refine ⟨p, l, _, rfl, P1, by omega, fun x2 u2 G2 hx2 s2 z2 P2 k2 => ?_⟩
    walk_at "sx"
    rename_i tp ntp
    have st := same_upd (o := .tup [.str (".." : Str), x1, x2]) ntp
    have kk := (k1.trans k2).trans (.of st)
    have e1' := kk _ _ e1 fD.1 fD.2
    have hl := e2.1
    have eo : EndOk (.t ".." [u1, u2]) := ⟨u1, u2, rfl, s1, s2, z1, z2⟩
    have d1 := sum_dp u1 s1.sm
    have d2 := sum_dp u2 s2.sm
    have pt : PtAt K (upd G2 tp (.tup [.str (".." : Str), x1, x2])) 12 (.ref tp) (.t ".." [u1, u2]) := .tup (vs := [x1, x2]) (ps := [u1, u2]) (.of upd_same) (.append (vs := [x1]) (ps := [u1]) (.one (((hx1.kx k2 P1).same st).of_depth (by omega))) (.one ((hx2.same st).of_depth (by omega))))
    refine ⟨_, e1', szl (by omega), vs ++ [.ref tp], es ++ [.t ".." [u1, u2]], upd_same, ((e2.kx kk PG).append (.one pt)).lst e1', fun y hy => ?_, by rw [List.length_append, e3]; rfl, ((P2.upd ntp).updo fD.1 fD.2).mono (by omega), (kG.trans kk).updf hD⟩
    rcases List.mem_append.mp hy with hy | hy
    · exact e4 y hy
    · rw [List.mem_singleton.mp hy]
      exact eo
  rintro D nD G1 ⟨vs, es, hD, hes, eok, esl, P1, k1⟩
  have hl := hes.1
  have fD := P0.fresh nD
  walk_at "sx"
  rename_i t1 nt1
  refine ⟨D, vs, rfl, .inl ⟨.of (by walk_at "hx"), fun t2 nt2 => ?_⟩⟩
  refine x_catA (xs := [.str (".." : Str)]) (ys := vs) (sqT_new nt2 (.of upd_same)) (.of upd_same) (sz (by show 1 + vs.length ≤ _; omega)) fun tr G3 k3 sr => ?_
  have k23 : Same G1 G3 := ((same_upd nt1).trans (same_upd nt2)).trans k3
  have P3 := P1.same k23
  have hD3 := k23 _ _ hD
  have hes3 := hes.same k23
  clear nt1 nt2 k3
  walk_at "sx"
  have lsz : szL es ≤ 15 * es.length := by
    have : ∀ es : List Pt, (∀ e ∈ es, EndOk e) → szL es ≤ 15 * es.length := fun es => by
      induction es with
      | nil => exact fun _ => Nat.le_refl _
      | cons x r ih =>
        intro h
        have := (h x (List.mem_cons_self ..)).sz
        have := ih fun e he => h e (List.mem_cons_of_mem _ he)
        rw [szL, List.length_cons]
        omega
    exact this es eok
  have lnm8 := ends_nm es eok
  refine ⟨.ref tr, .t ".." es, rfl, .tup sr (PtsAt.of_depth5 hes3 fun e he => Nat.le_trans (eok e he).dp (by decide)), ⟨trivial, by omega, by omega, okL_mem.mpr fun e he => okT_imp (fun z h => nm_tx15 h) (fun _ _ => trivial) ((eok e he).go .nil).nm⟩, by rw [szT]; omega, fun B G4 nB s4 hB => ?_⟩
  rw [nmT] at hB
  have P4 := P3.same s4
  have fB := P3.fresh nB
  have hD4 := s4 _ _ hD3
  have hes4 := hes3.same s4
  have k14 : Kx p l G1 G4 := .of (k23.trans s4)
  walk_at "sx"
  rename_i R nR
  have fR := P4.fresh nR
  have sR := same_upd (o := .lst []) nR
  have eR : upd G4 R (.lst []) R = some (.lst []) := upd_same
  have hD5 := sR _ _ hD4
  have hB5 := sR _ _ hB
  have hes5 := hes4.same sR
  have P5 := P4.same sR
  have nDB : D ≠ B := fun z => by rw [z, nB] at hD3; cases hD3
  have nDR : D ≠ R := fun z => by rw [z, nR] at hD4; cases hD4
  have nBR : B ≠ R := fun z => by rw [z, nR] at hB; cases hB
  have k05 : Kx p l H (upd G4 R (.lst [])) := (k1.trans k14).trans (.of sR)
  have nB0 : H B = none := (k1.trans (.of k23)).none nB fB.1 fB.2
  have nR0 : H R = none := (k1.trans k14).none nR fR.1 fR.2
  generalize upd G4 R (.lst []) = G5 at *
  refine x_forR1 (n := many) (fun i σ' G => ∃ (rs : List (Str × Pt)) (us : List V) (x5 x6 x7 x8 : Option V), σ' = [some (.ref p), some (.int many), some (.ref D), some (.ref B), some (.ref R), x5, x6, x7, x8] ∧ G D = some (.lst vs) ∧ PtsAt K G 12 vs es ∧ G B = some (.lst ((nmL es ++ rs.map (·.1)).map V.str)) ∧ G R = some (.lst us) ∧ PtsAt K G 8 us (rs.map rgP) ∧ rs.map (·.2) = es.take i ∧ (∀ x ∈ rs, NameOk 1 (tl x.1) ∧ x.1 ∉ nmL es) ∧ (rs.map (·.1)).Nodup ∧ PoolAt G p l (c + 8000 + 20 * i) ∧ Kx p l H G) (by omega) (by omega) ?_ (fun i σ' G hi h => ?_) (fun σ' G h => ?_)
  · exact ⟨[], [], none, none, none, none, rfl, hD5, hes5, by rw [hB5]; simp, eR, .nil, rfl, (fun x hx => by cases hx), List.nodup_nil, P5.mono (by omega), k05⟩
  · obtain ⟨rs, us, x5, x6, x7, x8, rfl, gD, ges, gB, gR, gus, ers, rok, rnd, PG, kG⟩ := h
    walk_at "sx"
    refine ⟨p, l, _, 1, rfl, PG, by omega, by decide, by decide, fun z6 G6 hz6 P6 k6 => ?_⟩
    have fDp := fD
    have gD6 := k6 _ _ gD fD.1 fD.2
    have gB6 := k6 _ _ gB fB.1 fB.2
    have gR6 := k6 _ _ gR fR.1 fR.2
    walk_at "sx"
    refine x_cut (M := fun σ' G' => ∃ (z : Str) (x7 x8 : Option V), σ' = [some (.ref p), some (.int many), some (.ref D), some (.ref B), some (.ref R), some (.int (i : Int)), some (.str z), x7, x8] ∧ NameOk 1 (tl z) ∧ z ∉ nmL es ++ rs.map (·.1) ∧ Same G6 G') ?_ ?_
    · walk_at "sx"
      refine ⟨B, _, rfl, .inl (.of gB6), rfl, by rw [List.all_map]; exact List.all_eq_true.mpr fun x _ => rfl, ?_⟩
      rw [if_neg (by decide), inV_strs]
      by_cases hin : z6 ∈ nmL es ++ rs.map (·.1)
      rotate_left 1
      · rw [decide_eq_false hin]
        walk_at "sx"
        exact ⟨z6, _, _, rfl, hz6, hin, same_refl _⟩
      rw [decide_eq_true hin]
      walk_at "sx"
      refine x_lcR1 (n := 60) (fun D2 j G' => G' D2 = some (.lst (((List.range j).map ut).map V.str)) ∧ Same G6 G') (by omega) (by omega) (fun D2 nD2 => ⟨upd_same, same_upd nD2⟩) ?_ ?_
      · rintro D2 nD2 j G' hj ⟨e1, sG⟩
        walk_at "sx"
        refine ⟨rfl, ?_⟩
        walk_at "sx"
        refine x_strI (strLog20 (by omega)) ?_
        refine x_addS (sz (by
          have h60 := numL_len (k := 2) (n := j) (by decide) (by omega)
          have : (Str.ofString (toString ((j : Nat) : Int))).length = (numL j).length := by rw [← tl_lenP, tl_num]
          have l1 : ("U" : Str).length = 1 := by decide +kernel
          omega)) ?_
        walk_at "sx"
        refine ⟨_, e1, szl (by rw [List.length_map, List.length_map, List.length_range]; omega), ?_, same_updf sG nD2⟩
        rw [upd_same, List.range_succ, List.map_append, List.map_append]
        rfl
      · rintro D2 nD2 G' ⟨e1, sG⟩
        have ll : (((List.range 60).map ut).map V.str).length = 60 := by rw [List.length_map, List.length_map, List.length_range]
        have e1 : G' D2 = some (.lst (((List.range 60).map ut).map V.str)) := e1
        have gB8 := sG _ _ gB6
        have bl : (nmL es ++ rs.map (·.1)).length < 60 := by
          have := congrArg List.length ers
          rw [List.length_map, List.length_take] at this
          rw [List.length_append, List.length_map]
          omega
        generalize nmL es ++ rs.map (·.1) = bls at *
        walk_at "sx"
        refine x_lcL (fun D3 j G2 => j ≤ 60 ∧ G2 D3 = some (.lst ((((List.range j).map ut).filter fun z => !decide (z ∈ bls)).map V.str) ) ∧ Same G' G2) (.of e1) (fun D3 nD3 => ⟨by decide, upd_same, same_upd nD3⟩) (fun D3 nD3 j G2 _ h => .of (h.2.2 _ _ e1)) ?_ ?_
        · rintro D3 nD3 j x G2 hx ⟨_, e2, s2⟩
          have hj : j < 60 := by
            have := (List.getElem?_eq_some_iff.mp hx).1
            omega
          have ex : x = .str (ut j) := by
            rw [List.getElem?_map, List.getElem?_map, List.getElem?_range hj] at hx
            exact (Option.some.inj hx).symm
          subst ex
          have sn : ((List.range (j + 1)).map ut).filter (fun z => !decide (z ∈ bls)) = ((List.range j).map ut).filter (fun z => !decide (z ∈ bls)) ++ if ut j ∈ bls then [] else [ut j] := by
            rw [List.range_succ, List.map_append, List.filter_append]
            congr 1
            show List.filter _ [ut j] = _
            by_cases hb : ut j ∈ bls
            · rw [if_pos hb, List.filter_cons_of_neg (by simpa using hb)]
              rfl
            · rw [if_neg hb, List.filter_cons_of_pos (by simpa using hb)]
              rfl
          have ln : (((List.range j).map ut).filter fun z => !decide (z ∈ bls)).length ≤ 60 := by
            refine Nat.le_trans (List.length_filter_le _ _) ?_
            rw [List.length_map, List.length_range]
            omega
          walk_at "sx"
          refine ⟨rfl, ?_⟩
          walk_at "sx"
          refine ⟨B, _, rfl, .inl (.of (s2 _ _ gB8)), rfl, by rw [List.all_map]; exact List.all_eq_true.mpr fun x _ => rfl, ?_⟩
          rw [if_pos rfl, inV_strs]
          by_cases hb : ut j ∈ bls
          · rw [decide_eq_true hb]
            rw [if_pos hb, List.append_nil] at sn
            walk_at "sx"
            exact ⟨hj, by rw [sn]; exact e2, s2⟩
          · rw [decide_eq_false hb]
            rw [if_neg hb] at sn
            walk_at "sx"
            exact ⟨_, e2, szl (by rw [List.length_map]; omega), hj, by rw [upd_same, sn, List.map_append]; rfl, same_updf s2 nD3⟩
        · rintro D3 nD3 G2 ⟨_, e2, s2⟩
          rw [ll] at e2
          obtain ⟨z, hz0, hzb, hzn⟩ := ut_free bls bl
          walk_at "sx"
          refine x_ixL (.of e2) (at0 (v := V.str z) (by rw [List.getElem?_map, hz0]; rfl)) ?_
          walk_at "sx"
          exact ⟨z, _, _, rfl, hzn, hzb, sG.trans s2⟩
    rintro σ' G7 ⟨z, x7, x8, rfl, hz, hzn, s7⟩
    have gD7 := s7 _ _ gD6
    have gB7 := s7 _ _ gB6
    have gR7 := s7 _ _ gR6
    have ges7 := (ges.kx k6 PG).same s7
    have gus7 := (gus.kx k6 PG).same s7
    have P7 := P6.same s7
    have kG7 : Kx p l G G7 := k6.trans (.of s7)
    have hi2 : i < es.length := by omega
    obtain ⟨xv, hxv⟩ : ∃ xv, vs[i]? = some xv := ⟨_, List.getElem?_eq_getElem (by omega)⟩
    obtain ⟨e, he, pe⟩ := ges7.at hxv
    have ek := eok e (List.mem_of_getElem? he)
    have lrs : rs.length = i := by
      have := congrArg List.length ers
      rw [List.length_map, List.length_take] at this
      omega
    have lnm := nmL_len es
    have lus := gus.1
    rw [List.length_map] at lus
    walk_at "sx"
    refine x_app gB7 (szl (by rw [List.length_map, List.length_append, List.length_map]; omega)) ?_
    walk_at "sx"
    have gD8 := gD7
    refine x_ixL (.of (by walk_at "hx")) (atI_nat hxv) ?_
    walk_at "sx"
    rename_i tp ntp
    have gR8 : upd (upd G7 B (.lst ((nmL es ++ rs.map (·.1)).map V.str ++ [V.str z]))) tp (.tup [.str ("in" : Str), .str z, xv]) R = some (.lst us) := by walk_at "hx"
    refine x_app gR8 (szl (by omega)) ?_
    have st := same_upd (o := .tup [.str ("in" : Str), .str z, xv]) ntp
    have ges8 : PtsAt K (upd (upd G7 B (.lst ((nmL es ++ rs.map (·.1)).map V.str ++ [V.str z]))) tp (.tup [.str ("in" : Str), .str z, xv])) 12 vs es := (ges7.lst gB7).same st
    have gus8 : PtsAt K (upd (upd G7 B (.lst ((nmL es ++ rs.map (·.1)).map V.str ++ [V.str z]))) tp (.tup [.str ("in" : Str), .str z, xv])) 8 us (rs.map rgP) := (gus7.lst gB7).same st
    have pe8 := ges8.2 i xv e hxv he
    have d5 := ek.dp
    have pr : PtAt K (upd (upd G7 B (.lst ((nmL es ++ rs.map (·.1)).map V.str ++ [V.str z]))) tp (.tup [.str ("in" : Str), .str z, xv])) 8 (.ref tp) (rgP (z, e)) := .tup (vs := [.str z, xv]) (ps := [.s z, e]) (.of upd_same) (.append (vs := [.str z]) (ps := [.s z]) (.one rfl) (.one (pe8.of_depth (by omega))))
    have k8 : Kx p l H (upd (upd G7 B (.lst ((nmL es ++ rs.map (·.1)).map V.str ++ [V.str z]))) tp (.tup [.str ("in" : Str), .str z, xv])) := ((kG.trans kG7).updf nB0).trans (.of st)
    have P8 := (P7.updo (o := .lst ((nmL es ++ rs.map (·.1)).map V.str ++ [V.str z])) fB.1 fB.2).upd (o := .tup [.str ("in" : Str), .str z, xv]) ntp
    have gB8 : upd (upd G7 B (.lst ((nmL es ++ rs.map (·.1)).map V.str ++ [V.str z]))) tp (.tup [.str ("in" : Str), .str z, xv]) B = some (.lst ((nmL es ++ rs.map (·.1)).map V.str ++ [V.str z])) := st _ _ upd_same
    have gD8 : upd (upd G7 B (.lst ((nmL es ++ rs.map (·.1)).map V.str ++ [V.str z]))) tp (.tup [.str ("in" : Str), .str z, xv]) D = some (.lst vs) := by walk_at "hx"
    generalize upd (upd G7 B (.lst ((nmL es ++ rs.map (·.1)).map V.str ++ [V.str z]))) tp (.tup [.str ("in" : Str), .str z, xv]) = G8 at *
    have hzn' := hzn
    rw [List.mem_append] at hzn'
    refine ⟨rs ++ [(z, e)], us ++ [.ref tp], _, _, _, _, rfl, by walk_at "hx", ges8.lst gR8, ?_, upd_same, ?_, ?_, ?_, ?_, (P8.updo fR.1 fR.2).mono (by omega), k8.updf nR0⟩
    · rw [upd_ne nBR, gB8]
      simp
    · rw [List.map_append]
      exact (gus8.append (.one pr)).lst gR8
    · rw [List.map_append, ers, List.take_add_one, he]
      rfl
    · intro x hx
      rcases List.mem_append.mp hx with hx | hx
      · exact rok x hx
      · rw [List.mem_singleton.mp hx]
        exact ⟨hz, fun h => hzn' (.inl h)⟩
    · rw [List.map_append, List.nodup_append]
      refine ⟨rnd, by simp, fun a ha b hb hab => ?_⟩
      have : b = z := by simpa using hb
      subst hab this
      exact hzn' (.inr ha)
  · obtain ⟨rs, us, x5, x6, x7, x8, rfl, gD, ges, gB, gR, gus, ers, rok, rnd, PG, kG⟩ := h
    walk_at "sx"
    have lm : rs.length = es.length := by
      have := congrArg List.length ers
      rw [List.length_map, List.length_take] at this
      omega
    have e2 : rs.map (·.2) = es := by rw [ers, List.take_of_length_le (by omega)]
    have hne : rs ≠ [] := fun z => by
      rw [z] at lm
      change 0 = _ at lm
      omega
    have hnm : rs.map rgP ≠ [] := by simpa using hne
    have ek : ∀ x ∈ rs, EndOk x.2 := fun x hx => eok _ (by rw [← e2]; exact List.mem_map.mpr ⟨x, hx, rfl⟩)
    have bx : BxRs rs := ⟨fun x hx => ⟨(rok x hx).1, ek x hx⟩, rnd, fun x hx y hy hm => (rok y hy).2 (nmL_mem (by rw [← e2]; exact List.mem_map.mpr ⟨x, hx, rfl⟩) hm)⟩
    have bo := box_ok bx hne
    refine ⟨R, us, rs.map rgP, rfl, gR, gus, by rw [List.length_map]; omega, by rw [List.length_map]; omega, fun x H' hx sx => q x _ H' hx (fun ops k => chn_go _ hnm fun r hr => ?_) (fun h => bo.1 (by omega)) bo.2 ?_ ?_ ?_ ((PG.same sx).mono (by omega)) (kG.trans (.of sx))⟩
    · obtain ⟨x, hx, rfl⟩ := List.mem_map.mp hr
      exact .two (by unfold Own; decide +kernel) ((SumOk.var (rok x hx).1).ok ops k) ((ek x hx).go k)
    · have h1 := chn_sz _ hnm
      have h2 : szL (rs.map rgP) ≤ 17 * rs.length := by
        have : ∀ rs : List (Str × Pt), (∀ x ∈ rs, EndOk x.2) → szL (rs.map rgP) ≤ 17 * rs.length := fun rs => by
          induction rs with
          | nil => exact fun _ => Nat.le_refl _
          | cons x r ih =>
            intro h
            have := (h x (List.mem_cons_self ..)).sz
            have := ih fun e he => h e (List.mem_cons_of_mem _ he)
            rw [List.map_cons, szL, List.length_cons]
            simp only [rgP, szT, szL]
            omega
        exact this rs ek
      rw [List.length_map] at h1
      omega
    · have h1 := chn_dp (d := 6) _ hnm fun r hr => by
        obtain ⟨x, hx, rfl⟩ := List.mem_map.mp hr
        have := (ek x hx).dp
        simp only [rgP, dpT, dpL]
        omega
      rw [List.length_map] at h1
      omega
    · rw [chn_parts _ hnm fun p hp => by obtain ⟨x, _, rfl⟩ := List.mem_map.mp hp; rfl, List.length_map]
      omega
end
end Gs
namespace Gs
open PySem PySem.Spec PyProof.Rows L2 TL SrtK
abbrev s_law_asked : Stmt := PySem.Challenge.pw_goalstead_k14_goals_by_their_shapes.main.body.getD 92 (.Pass ⟨0, 0, 0, 0⟩)
theorem sc_law_asked : FnScope ["pool", "ops", "top", "thing"] ["pool", "ops", "top"] (defScope s_law_asked) := ⟨rfl, rfl, rfl, by decide +kernel, rfl, by decide +kernel, by decide +kernel⟩
abbrev s_law_goal : Stmt := PySem.Challenge.pw_goalstead_k14_goals_by_their_shapes.main.body.getD 93 (.Pass ⟨0, 0, 0, 0⟩)
theorem sc_law_goal : FnScope ["pool", "ops", "top", "way", "one", "box", "made", "k"] ["pool", "ops", "top"] (defScope s_law_goal) := ⟨rfl, rfl, rfl, by decide +kernel, rfl, by decide +kernel, by decide +kernel⟩
/-! ### goals drawn -/
mutual
theorem nok_has : ∀ {p : Pt}, okT (fun _ => True) NoK p → hasK p = false
  | .i _, _ => rfl
  | .s _, _ => rfl
  | .t nm ps, h => by
    rw [okT] at h
    rw [hasK, nok_hasL h.2.2.2, Bool.or_false]
    exact decide_eq_false h.1
theorem nok_hasL : ∀ {ps : List Pt}, okL (fun _ => True) NoK ps → hasKL ps = false
  | [], _ => rfl
  | x :: r, h => by
    rw [okL] at h
    rw [hasKL, nok_has h.1, nok_hasL h.2]
    rfl
end
theorem ThOk.go {ops : List Op} {u : Pt} (h : ThOk ops u) : GoOk ops u := ⟨h.nm, h.rd⟩
theorem ThOk.hk {ops : List Op} {u : Pt} (h : ThOk ops u) : hasK u = false := nok_has h.nk
theorem rel_tup {ops : List Op} {nm : Str} {ps : List Pt} (h : ThOk ops (.t nm ps)) : relP (.t nm ps) = true := by
  unfold relP
  rw [h.hk]
  show (true && (wordP (.t nm ps) || true)) = true
  rw [Bool.or_true]
  rfl
theorem rel_word {ops : List Op} {z : Str} (h : ThOk ops (.s z)) (hu : unk (.s z) = false) : relP (.s z) = true := by
  have hr : Unk (ownL ++ ops) z ∨ Wd (ownL ++ ops) z := h.rd
  have hw : wordS z = true := by
    rcases hr with ⟨⟨c, t, e, hc⟩, _⟩ | ⟨⟨c, t, e, hc⟩, _⟩
    · have : unkS z = true := by
        unfold unkS
        rw [e]
        exact decide_eq_true hc
      rw [show unk (.s z) = unkS z from rfl, this] at hu
      cases hu
    · unfold wordS
      rw [e]
      exact decide_eq_true hc
  show (!false && (wordS z || false)) = true
  rw [hw]
  rfl
theorem goal_rel {u : Pt} (h : relP u = true) : goalP u = true := by
  unfold goalP
  rw [h]
  rfl
theorem goal_not {a : Pt} (h : relP a = true) : goalP (.t "not" [a]) = true := by
  have : notP (.t "not" [a]) = true := by
    show (namedP ["not"] 1 (.t "not" [a]) && relP a) = true
    rw [h]
    rfl
  unfold goalP
  rw [this]
  simp
theorem goal_like {a b : Pt} (ha : hasK a = false) (hb : hasK b = false) : goalP (.t "=" [a, b]) = true := by
  have : likeP (.t "=" [a, b]) = true := by
    show (namedP ["="] 2 (.t "=" [a, b]) && (!hasK a && !hasK b)) = true
    rw [ha, hb]
    rfl
  unfold goalP
  rw [this]
  simp
theorem goal_reck {a b : Pt} (ha : hasK a = false) (hb : sumP b = true) : goalP (.t "is" [a, b]) = true := by
  have : reckP (.t "is" [a, b]) = true := by
    show (namedP ["is"] 2 (.t "is" [a, b]) && (!hasK a && sumP b)) = true
    rw [ha, hb]
    rfl
  unfold goalP
  rw [this]
  simp
theorem goal_test {u : Pt} (h : testP u = true) : goalP u = true := by
  unfold goalP
  rw [h]
  simp
theorem goal_box {u : Pt} (h : boxP u = true) (hs : namedP ["such"] 2 u = false) : goalP u = true := by
  have : fieldQ u = true := by
    unfold fieldQ
    rw [hs, h]
    rfl
  unfold goalP
  rw [this]
  simp
theorem goal_field {a b : Pt} (h : boxP a = true) (ht : testsP b = true) : goalP (.t "such" [a, b]) = true := by
  have : fieldQ (.t "such" [a, b]) = true := by
    unfold fieldQ
    rw [show namedP ["such"] 2 (.t "such" [a, b]) = true from rfl]
    show (boxP a && testsP b) = true
    rw [h, ht]
    rfl
  unfold goalP
  rw [this]
  simp
theorem tests_ok {ps : List Pt} (h : ∀ p ∈ ps, testP p = true) (h0 : ps ≠ []) (h4 : ps.length ≤ 4) : testsP (chn ps) = true := by
  unfold testsP
  rw [chn_parts ps h0 fun p hp => by
    have ht := h p hp
    unfold testP at ht
    rw [Bool.and_eq_true] at ht
    obtain ⟨nm, a, b, rfl, hn⟩ := named2 ht.1
    simp only [tests4, List.mem_cons, List.not_mem_nil, or_false] at hn
    rcases hn with rfl | rfl | rfl | rfl <;> rfl, List.all_eq_true.mpr h, decide_eq_true h4]
  rfl
def spAsked15 (K : PySem.W.Frag) : Sp := fun vs H Q _ => ∃ (p l a : Addr) (c : Int) (es : List V) (ops : List Op) (top : Int), vs = [.ref p, .ref a, .int top] ∧ 1 ≤ top ∧ top ≤ 12 ∧ PoolAt H p l c ∧ c + 12100 ≤ 1000000000000 ∧ H a = some (.lst es) ∧ a ≠ p ∧ a ≠ l ∧ RowsAt K H es ops ∧ OpsOk ops ∧
  ∀ x u H', PtAt K H' 12 x u → GoOk ops u → relP u = true → szT u ≤ 12 → dpT u ≤ 11 → PoolAt H' p l (c + 12100) → Kx p l H H' → Q x H'
def spGoal15 (K : PySem.W.Frag) : Sp := fun vs H Q _ => ∃ (p l a : Addr) (c : Int) (es : List V) (ops : List Op) (top : Int), vs = [.ref p, .ref a, .int top] ∧ 1 ≤ top ∧ top ≤ 12 ∧ PoolAt H p l c ∧ c + 40000 ≤ 1000000000000 ∧ H a = some (.lst es) ∧ a ≠ p ∧ a ≠ l ∧ RowsAt K H es ops ∧ OpsOk ops ∧
  ∀ x u H', PtAt K H' 12 x u → GoOk ops u → goalP u = true → szT u ≤ 60 → dpT u ≤ 12 → PoolAt H' p l (c + 40000) → Kx p l H H' → Q x H'
section
variable {P : Program} {w : World} {K : PySem.W.Frag} {mg : Str → Option Value} {base : Heap} {f : Addr} {fd : FuncData}
def HasAsked15 (P : Program) (w : World) (K : PySem.W.Frag) (mg : Str → Option Value) (base : Heap) : Prop := Has P w K mg base 17 "_law_asked" ["pool", "ops", "top"] (spAsked15 K)
def HasGoal15 (P : Program) (w : World) (K : PySem.W.Frag) (mg : Str → Option Value) (base : Heap) : Prop := Has P w K mg base 18 "_law_goal" ["pool", "ops", "top"] (spGoal15 K)
theorem ok_law_asked (F : Fun K "_law_asked" "_law_asked" s_law_asked f fd) (T : Txt mg) (C_law_pattern : HasPattern P w K mg base) (C_law_capital : HasCap P w K mg base) (C_law_free : HasFree P w K mg base) (C_law_name : HasName P w K mg base) : FnOk P w K mg base CX0 17 f fd ["pool", "ops", "top"] (spAsked15 K) := by
  refine F.ok sc_law_asked (fun vs H Q E h => ?_) (fun cdv A outer s H vs Q E hr h => ?_)
  · obtain ⟨p, l, a, c, es, ops, top, rfl, _⟩ := h
    rfl
  obtain ⟨p, l, a, c, es, ops, top, rfl, t1, t12, P0, hc, ha, ap, al, hro, oko, q⟩ := h
  refine ⟨_, (pss_cons (ps_set (i := 3) sc_law_asked.nd rfl (Or.inl rfl) (pe_callH C_law_pattern hr (pa_cons (pv 0) (pa_cons (pv 1) (pa_cons (pv 2) (pa_cons pe_int pa_nil))))))
    (pss_cons (ps_if (PW.pt (pw_or (pt_val (pe_callB (call_isiKK (K := K)) (by rfl) T.z_isinstance (by decide +kernel) (pa_cons (pv 3) (pa_cons (pe_bltn (v := .ty "int") (by rfl) T.z_int (by decide +kernel) rfl) pa_nil)))) (pw_or1 (pt_val (pe_callH C_law_capital hr (pa_cons (pv 3) pa_nil))))))
      (pss_one (ps_ret (pe_tup (pa_cons (pe_callH C_law_free hr (pa_cons (pe_callH C_law_name hr (pa_cons (pv 0) (pa_cons pe_int pa_nil))) (pa_cons (pv 1) pa_nil))) (pa_cons (pv 3) pa_nil)))))
      pss_nil)
    (pss_one (ps_ret (pv 3))))), ?_⟩
  walk_at "sx"
  refine ⟨p, l, a, c, top, 11, es, ops, rfl, by decide, by decide, P0, by omega, by omega, by omega, ha, ap, al, hro, oko, fun x u G1 hx th szu dpu P1 k1 => ?_⟩

  rcases hx.three with ⟨n, rfl, rfl⟩ | ⟨z, rfl, rfl⟩ | ⟨j, nm, ps, r, ys, ej, rfl, rfl, sa, pq⟩
  · walk_at "sx"
    refine x_isT (t := .type "int") (c := true) (.base (.int n)) (kit_ty (by decide +kernel)) ?_
    walk_at "sx"
    refine ⟨p, l, _, 0, rfl, P1, by omega, by decide, by decide, fun z2 G2 hz2 P2 k2 => ?_⟩
    have k02 := k1.trans k2
    walk_at "sx"
    refine ⟨z2, a, es, ops, rfl, hz2, k02 _ _ ha ap al, hro.kx k02 P0, oko, fun y G3 s3 hf => ?_⟩
    walk_at "sx"
    rename_i tp ntp
    have th2 : ThOk ops (.t y [.i n]) := ThOk.made (ps := [.i n]) ⟨Nat.le_refl 1, (by decide : 1 ≤ 4), ⟨_, hf.1⟩, hf.2.1, fun _ => free_wd hf⟩ fun p hp => by rw [List.mem_singleton.mp hp]; exact th
    exact q _ (.t y [.i n]) _ (.tup (vs := [.int n]) (ps := [.i n]) (.of upd_same) (.one rfl)) th2.go (rel_tup th2) (by simp [szT, szL]) (by simp [dpT, dpL]) (((P2.same s3).upd ntp).mono (by omega)) ((k02.trans (.of s3)).updn ntp)
  · walk_at "sx"
    refine x_isT (t := .type "str") (c := false) (.base (.str z)) (kit_ty (by decide +kernel)) ?_
    walk_at "sx"
    refine ⟨.str z, _, .s z, rfl, hx, fun z' e => by cases e; exact nm_tx15 th.nm, ?_⟩
    cases hu : unk (.s z) with
    | true =>
      walk_at "sx"
      refine ⟨p, l, _, 0, rfl, P1, by omega, by decide, by decide, fun z2 G2 hz2 P2 k2 => ?_⟩
      have k02 := k1.trans k2
      walk_at "sx"
      refine ⟨z2, a, es, ops, rfl, hz2, k02 _ _ ha ap al, hro.kx k02 P0, oko, fun y G3 s3 hf => ?_⟩
      walk_at "sx"
      rename_i tp ntp
      have th2 : ThOk ops (.t y [.s z]) := ThOk.made (ps := [.s z]) ⟨Nat.le_refl 1, (by decide : 1 ≤ 4), ⟨_, hf.1⟩, hf.2.1, fun _ => free_wd hf⟩ fun p hp => by rw [List.mem_singleton.mp hp]; exact th
      exact q _ (.t y [.s z]) _ (.tup (vs := [.str z]) (ps := [.s z]) (.of upd_same) (.one rfl)) th2.go (rel_tup th2) (by simp [szT, szL]) (by simp [dpT, dpL]) (((P2.same s3).upd ntp).mono (by omega)) ((k02.trans (.of s3)).updn ntp)
    | false =>
      walk_at "sx"
      exact q _ (.s z) _ hx th.go (rel_word th hu) (by simp [szT]) (by simp [dpT]) (P1.mono (by omega)) k1
  · walk_at "sx"
    refine x_isT (t := .type "tuple") (c := false) (ty_tup sa) (kit_ty (by decide +kernel)) ?_
    walk_at "sx"
    refine ⟨.ref r, _, .t nm ps, rfl, hx, (fun z e => by cases e), ?_⟩
    walk_at "sx"
    exact q _ _ _ hx th.go (rel_tup th) (by omega) dpu (P1.mono (by omega)) k1
theorem ok_law_goal (F : Fun K "_law_goal" "_law_goal" s_law_goal f fd) (T : Txt mg) (C_law_take : HasTake P w K mg base) (C_law_pattern : HasPattern P w K mg base) (C_law_asked : HasAsked15 P w K mg base) (C_law_sum : HasSum15 P w K mg base) (C_law_test : HasTest15 P w K mg base) (C_law_box : HasBox15 P w K mg base) (C_law_together : HasTogether P w K mg base) (C_law_weight : HasWt 13 P w K mg base) : FnOk P w K mg base CX0 18 f fd ["pool", "ops", "top"] (spGoal15 K) := by
  refine F.ok sc_law_goal (fun vs H Q E h => ?_) (fun cdv A outer s H vs Q E hr h => ?_)
  · obtain ⟨p, l, a, c, es, ops, top, rfl, _⟩ := h
    rfl
  obtain ⟨p, l, a, c, es, ops, top, rfl, t1, t12, P0, hc, ha, ap, al, hro, oko, q⟩ := h
  refine ⟨_, (pss_cons (ps_set (i := 3) sc_law_goal.nd rfl (Or.inl rfl) (pe_callH C_law_take hr (pa_cons (pv 0) (pa_cons pe_int pa_nil))))
    (pss_cons (ps_set (i := 4) sc_law_goal.nd rfl (Or.inl rfl) (pe_callH C_law_pattern hr (pa_cons (pv 0) (pa_cons (pv 1) (pa_cons (pv 2) (pa_cons pe_int pa_nil))))))
    (pss_cons (ps_if (pt_cmpR op_lt (pv 3) pe_int (nomark _))
      (pss_one (ps_ret (pe_callH C_law_asked hr (pa_cons (pv 0) (pa_cons (pv 1) (pa_cons (pv 2) pa_nil))))))
      pss_nil)
    (pss_cons (ps_if (pt_cmpR op_eq (pv 3) pe_int (nomark _))
      (pss_one (ps_ret (pe_tup (pa_cons pe_str (pa_cons (pe_callH C_law_asked hr (pa_cons (pv 0) (pa_cons (pv 1) (pa_cons (pv 2) pa_nil)))) pa_nil)))))
      pss_nil)
    (pss_cons (ps_if (pt_cmpR op_eq (pv 3) pe_int (nomark _))
      (pss_one (ps_ret (pe_tup (pa_cons pe_str (pa_cons (pv 4) (pa_cons (pe_callH C_law_pattern hr (pa_cons (pv 0) (pa_cons (pv 1) (pa_cons (pv 2) (pa_cons pe_int pa_nil))))) pa_nil))))))
      pss_nil)
    (pss_cons (ps_if (pt_cmpR op_eq (pv 3) pe_int (nomark _))
      (pss_one (ps_ret (pe_tup (pa_cons pe_str (pa_cons (pv 4) (pa_cons (pe_callH C_law_sum hr (pa_cons (pv 0) pa_nil)) pa_nil))))))
      pss_nil)
    (pss_cons (ps_if (pt_cmpR op_lt (pv 3) pe_int (nomark _))
      (pss_one (ps_ret (pe_callH C_law_test hr (pa_cons (pv 0) pa_nil))))
      pss_nil)
    (pss_cons (ps_set (i := 5) sc_law_goal.nd rfl (Or.inl rfl) (pe_callH C_law_box hr (pa_cons (pv 0) (pa_cons (pe_op op_add pe_int (pe_callH C_law_take hr (pa_cons (pv 0) (pa_cons pe_int pa_nil)))) pa_nil))))
    (pss_cons (ps_set (i := 6) sc_law_goal.nd rfl (Or.inl rfl) (pe_tup (pa_cons pe_str (pa_cons (pv 5) (pa_cons (pe_callH C_law_together hr (pa_cons (pe_lc (own := [("k", 7)]) (g := gName 7) (tt := tYes) rfl sc_law_goal.nd (pi_range1 (by rfl) T.z_range (pa_cons (pe_op op_add pe_int (pe_callH C_law_take hr (pa_cons (pv 0) (pa_cons pe_int pa_nil)))) pa_nil)) (blkOk_by (own := [("k", 7)]) (N := ["pool", "ops", "top", "way", "one", "box", "made", "k"]) (sc := defScope s_law_goal) (by decide +kernel)) (fun _ _ _ _ _ => pg_name (i := 7) sc_law_goal.nd rfl (Or.inl rfl)) (fun _ _ _ _ _ => pts_nil) (fun _ _ _ _ _ => (pe_callH C_law_test hr (pa_cons (pv 0) pa_nil)))) pa_nil)) pa_nil)))))
    (pss_cons (ps_if (PW.pt (pw_or (pt_cmpR op_eq (pv 3) pe_int (nomark _)) (pw_or1 (pt_cmpR op_gt (pe_ix (ix_tupK (K := K)) (pe_callH C_law_weight hr (pa_cons (pv 6) pa_nil)) pe_int (fun _ _ => rfl)) pe_int (nomark _)))))
      (pss_one (ps_ret (pv 5)))
      pss_nil)
    (pss_one (ps_ret (pv 6))))))))))))), ?_⟩
  walk_at "sx"
  refine ⟨p, l, c, 10, rfl, P0, by omega, by decide, by decide, fun n1 G1 n10 n11 P1 k1 => ?_⟩
  walk_at "sx"
  refine ⟨p, l, a, _, top, 11, es, ops, rfl, by decide, by decide, P1, by omega, by omega, by omega, k1 _ _ ha ap al, ap, al, hro.kx k1 P0, oko, fun x u G2 hx th szu dpu P2 k2 => ?_⟩
  have k02 := k1.trans k2
  have a2 := k02 _ _ ha ap al
  have r2 := hro.kx k02 P0
  walk_at "sx"
  refine x_ite (fun c1 => ?_) (fun c1 => ?_)
  · walk_at "sx"
    exact ⟨p, l, a, _, es, ops, top, rfl, t1, t12, P2, by omega, a2, ap, al, r2, oko, fun x3 u3 G3 hx3 g3 rl3 s3 d3 P3 k3 => q _ u3 _ hx3 g3 (goal_rel rl3) (by omega) (by omega) (P3.mono (by omega)) (k02.trans k3)⟩
  walk_at "sx"
  refine x_ite (fun c2 => ?_) (fun c2 => ?_)
  · walk_at "sx"
    refine ⟨p, l, a, _, es, ops, top, rfl, t1, t12, P2, by omega, a2, ap, al, r2, oko, fun x3 u3 G3 hx3 g3 rl3 s3 d3 P3 k3 => ?_⟩
    walk_at "sx"
    rename_i tp ntp
    have st := same_upd (o := .tup [.str ("not" : Str), x3]) ntp
    exact q _ (.t "not" [u3]) _ (.tup (vs := [x3]) (ps := [u3]) (.of upd_same) (.one ((hx3.same st).of_depth (by omega)))) (.one (by unfold Own; decide +kernel) g3) (goal_not rl3) (by simp only [szT, szL]; omega) (by simp only [dpT, dpL]; omega) ((P3.upd ntp).mono (by omega)) ((k02.trans k3).trans (.of st))
  walk_at "sx"
  refine x_ite (fun c3 => ?_) (fun c3 => ?_)
  · walk_at "sx"
    refine ⟨p, l, a, _, top, 11, es, ops, rfl, by decide, by decide, P2, by omega, by omega, by omega, a2, ap, al, r2, oko, fun x3 u3 G3 hx3 th3 s3 d3 P3 k3 => ?_⟩
    walk_at "sx"
    rename_i tp ntp
    have st := same_upd (o := .tup [.str ("=" : Str), x, x3]) ntp
    exact q _ (.t "=" [u, u3]) _ (.tup (vs := [x, x3]) (ps := [u, u3]) (.of upd_same) (.append (vs := [x]) (ps := [u]) (.one (((hx.kx k3 P2).same st).of_depth (by omega))) (.one ((hx3.same st).of_depth (by omega))))) (.two (by unfold Own; decide +kernel) th.go th3.go) (goal_like th.hk th3.hk) (by simp only [szT, szL]; omega) (by simp only [dpT, dpL]; omega) ((P3.upd ntp).mono (by omega)) ((k02.trans k3).trans (.of st))
  walk_at "sx"
  refine x_ite (fun c4 => ?_) (fun c4 => ?_)
  · walk_at "sx"
    refine ⟨p, l, _, rfl, P2, by omega, fun x3 u3 G3 hx3 sm3 s3 P3 k3 => ?_⟩
    walk_at "sx"
    rename_i tp ntp
    have st := same_upd (o := .tup [.str ("is" : Str), x, x3]) ntp
    have d3 := sum_dp u3 sm3.sm
    exact q _ (.t "is" [u, u3]) _ (.tup (vs := [x, x3]) (ps := [u, u3]) (.of upd_same) (.append (vs := [x]) (ps := [u]) (.one (((hx.kx k3 P2).same st).of_depth (by omega))) (.one ((hx3.same st).of_depth (by omega))))) (.two (by unfold Own; decide +kernel) th.go (sm3.ok ops oko)) (goal_reck th.hk sm3.sm) (by simp only [szT, szL]; omega) (by simp only [dpT, dpL]; omega) ((P3.upd ntp).mono (by omega)) ((k02.trans k3).trans (.of st))
  walk_at "sx"
  refine x_ite (fun c5 => ?_) (fun c5 => ?_)
  · walk_at "sx"
    exact ⟨p, l, _, rfl, P2, by omega, fun x3 u3 G3 hx3 g3 t3 s3 d3 P3 k3 => q _ u3 _ hx3 (g3 ops oko) (goal_test t3) (by omega) (by omega) (P3.mono (by omega)) (k02.trans k3)⟩
  walk_at "sx"
  refine ⟨p, l, _, 3, rfl, P2, by omega, by decide, by decide, fun n4 G4 n40 n41 P4 k4 => ?_⟩
  walk_at "sx"
  refine ⟨p, l, _, _, rfl, P4, by omega, by omega, by omega, fun xb ub G5 hxb gb bb sb zb db _ P5 k5 => ?_⟩
  have k05 := (k02.trans k4).trans k5
  walk_at "sx"
  refine ⟨p, l, _, 4, rfl, P5, by omega, by decide, by decide, fun n6 G6 n60 n61 P6 k6 => ?_⟩
  walk_at "sx"
  refine x_lcR1 (n := 1 + n6) (fun D i G => ∃ (vs : List V) (ts : List Pt), G D = some (.lst vs) ∧ PtsAt K G 8 vs ts ∧ (∀ e ∈ ts, (∀ ops, OpsOk ops → GoOk ops e) ∧ testP e = true ∧ szT e ≤ 15 ∧ dpT e ≤ 5) ∧ ts.length = i ∧ PoolAt G p l (c + 22000 + 2100 * i) ∧ Kx p l G6 G) (by omega) (by omega) (fun D hD => ⟨[], [], upd_same, .nil, (fun e he => by cases he), rfl, (P6.upd hD).mono (by omega), (Kx.refl _).updn hD⟩) ?_ ?_
  · rintro D hD i G hi ⟨vs, ts, e1, e2, e4, e3, PG, kG⟩
    have fD := P6.fresh hD
    walk_at "sx"
    refine ⟨rfl, ?_⟩
    walk_at "sx"
    refine ⟨p, l, _, rfl, PG, by omega, fun x1 u1 G1 hx1 g1 t1 z1 d1 P7 k7 => ?_⟩
    have e1' := k7 _ _ e1 fD.1 fD.2
    have hl := e2.1
    refine ⟨_, e1', szl (by omega), vs ++ [x1], ts ++ [u1], upd_same, ((e2.kx k7 PG).append (.one (hx1.of_depth (by omega)))).lst e1', fun y hy => ?_, by rw [List.length_append, e3]; rfl, (P7.updo fD.1 fD.2).mono (by omega), (kG.trans k7).updf hD⟩
    rcases List.mem_append.mp hy with hy | hy
    · exact e4 y hy
    · rw [List.mem_singleton.mp hy]
      exact ⟨g1, t1, z1, d1⟩
  rintro D nD G7 ⟨vs, ts, hD, hts, tok, tl, P7, k7⟩
  have hne : ts ≠ [] := fun z => by
    rw [z] at tl
    change 0 = _ at tl
    omega
  have l4 : ts.length ≤ 4 := by omega
  walk_at "sx"
  refine ⟨D, vs, ts, rfl, hD, hts, by omega, by omega, fun xt G8 hxt s8 => ?_⟩
  walk_at "sx"
  rename_i tp ntp
  have st := same_upd (o := .tup [.str ("such" : Str), xb, xt]) ntp
  have k8 : Kx p l H (upd G8 tp (.tup [.str ("such" : Str), xb, xt])) := ((k05.trans k6).trans k7).trans (.of (s8.trans st))
  have P8 := (P7.same s8).same st
  have dct := chn_dp (d := 5) ts hne fun r hr => (tok r hr).2.2.2
  have hxb8 := (((hxb.kx k6 P5).kx k7 P6).same s8).same st
  have hxt8 := hxt.same st
  have tp8 : PtAt K (upd G8 tp (.tup [.str ("such" : Str), xb, xt])) 12 (.ref tp) (.t "such" [ub, chn ts]) := .tup (vs := [xb, xt]) (ps := [ub, chn ts]) (.of upd_same) (.append (vs := [xb]) (ps := [ub]) (.one (hxb8.of_depth (by omega))) (.one (hxt8.of_depth (by omega))))
  have gm : GoOk ops (.t "such" [ub, chn ts]) := .two (by unfold Own; decide +kernel) (gb ops oko) (chn_go ts hne fun r hr => (tok r hr).1 ops oko)
  generalize upd G8 tp (.tup [.str ("such" : Str), xb, xt]) = G9 at *
  walk_at "sx"
  refine x_ite (fun c7 => ?_) (fun c7 => ?_)
  · walk_at "sx"
    exact q _ ub _ hxb8 (gb ops oko) (goal_box (bb (by omega)) sb) (by omega) (by omega) (P8.mono (by omega)) k8
  · walk_at "sx"
    refine ⟨.ref tp, _, rfl, tp8.up (by decide), gm.nm, fun v14 G14 s14 tv14 => ?_⟩
    obtain ⟨t14, rfl, st14⟩ := two_inv tv14
    have P14 := P8.same s14
    have k14 := k8.trans (.of s14)
    walk_at "sx"
    have k14' := k14
    refine x_ite (fun c8 => ?_) (fun c8 => ?_)
    · walk_at "sx"
      exact q _ ub _ (hxb8.same s14) (gb ops oko) (goal_box (bb (by omega)) sb) (by omega) (by omega) (P14.mono (by omega)) k14
    · have c8' : ¬ (60 : Int) < ((szT (.t "such" [ub, chn ts]) : Nat) : Int) := c8
      walk_at "sx"
      exact q _ _ _ (tp8.same s14) gm (goal_field (bb (by omega)) (tests_ok (fun r hr => (tok r hr).2.1) hne l4)) (by omega) (by simp only [dpT, dpL]; omega) (P14.mono (by omega)) k14
end
end Gs
namespace Gs
open PySem PySem.Spec PyProof.Rows L2 TL
abbrev s_goal_of : Stmt := PySem.Challenge.pw_goalstead_k14_goals_by_their_shapes.main.body.getD 65 (.Pass ⟨0, 0, 0, 0⟩)
theorem sc_goal_of : FnScope ["pieces", "table", "goal"] ["pieces", "table"] (defScope s_goal_of) := ⟨rfl, rfl, rfl, by decide +kernel, rfl, by decide +kernel, by decide +kernel⟩
abbrev s_read_goal : Stmt := PySem.Challenge.pw_goalstead_k14_goals_by_their_shapes.main.body.getD 62 (.Pass ⟨0, 0, 0, 0⟩)
theorem sc_read_goal : FnScope ["line", "operators", "most", "pieces", "goal"] ["line", "operators", "most"] (defScope s_read_goal) := ⟨rfl, rfl, rfl, by decide +kernel, rfl, by decide +kernel, by decide +kernel⟩
/-! ### goals read, in general -/
def spGoalOfE (K : PySem.W.Frag) (C BS : Addr) (d dd : Nat) : Sp := fun vs H Q E => ∃ (pl tb : Addr) (zs : List Str) (R : List Op) (o : Option Pt), vs = [.ref pl, .ref tb] ∧ H pl = some (.lst (zs.map V.str)) ∧ TabAt K C H tb R ∧ zs.length ≤ 1000 ∧ TabOk R ∧ RdO R d zs o ∧ (o = none → BadS BS H E) ∧
  ∀ p, o = some p → OkP p ∧ szT p ≤ 1000 ∧ dpT p ≤ dd ∧ (goalP p = false → BadS BS H E) ∧ (goalP p = true → ∀ x H', Same H H' → PtAt K H' (dpT p) x p → Q x H')
section
variable {P : Program} {w : World} {K : PySem.W.Frag} {mg : Str → Option Value} {base : Heap} {f : Addr} {fd : FuncData} {C BS BZ : Addr}
def HasGoalOfE (C BS : Addr) (d dd : Nat) (P : Program) (w : World) (K : PySem.W.Frag) (mg : Str → Option Value) (base : Heap) : Prop := HasE P w K mg base (4 * d + 7) "_goal_of" ["pieces", "table"] (spGoalOfE K C BS d dd)
theorem ok_goal_ofE {d dd : Nat} (F : Fun K "_goal_of" "_goal_of" s_goal_of f fd) (T : Txt mg) (E_BadShape : HasErr P w K mg base "BadShape" "line" BS) (C_read_pieces : HasReadPE C BS d P w K mg base) (C_is_goal : HasLook (dd + 6) "is_goal" dd goalP P w K mg base) (hd : dd ≤ 4 * d := by decide) : FnOk P w K mg base (L2.CX P w) (4 * d + 7) f fd ["pieces", "table"] (spGoalOfE K C BS d dd) := by
  refine F.okX sc_goal_of (fun vs H Q E h => ?_) (fun cdv A outer s H vs Q E hr h => ?_)
  · obtain ⟨pl, tb, zs, R, o, rfl, _⟩ := h
    rfl
  obtain ⟨pl, tb, zs, R, o, rfl, hpl, htb, hl, tok, hrd, bad, q⟩ := h
  refine ⟨_, (pss_cons (ps_set (i := 2) sc_goal_of.nd rfl (Or.inl rfl) (pe_callE C_read_pieces hr (takes_of rfl rfl rfl rfl) (pa_cons (pv 0) (pa_cons (pv 1) pa_nil)) (hk := by omega)))
    (pss_cons (ps_if (pt_not (pt_val (pe_callH C_is_goal hr (pa_cons (pv 2) pa_nil) (hk := by omega))))
      (pss_one (ps_raiseE E_BadShape rfl (takes_of rfl rfl rfl rfl) hr (pa_cons pe_int pa_nil) (hk := by omega)))
      pss_nil)
    (pss_one (ps_ret (pv 2))))), ?_⟩
  walk_at "sx"
  refine ⟨pl, tb, zs, R, o, rfl, hpl, htb, hl, tok, hrd, bad, fun p e x H3 s3 px => ?_⟩
  obtain ⟨h1, h2, h3, h4, h5⟩ := q p e
  walk_at "sx"
  refine ⟨x, _, p, rfl, px, h1, h2, h3, fun H4 s4 => ?_⟩
  have s14 := s3.trans s4
  cases hk : goalP p with
  | false =>
    walk_at "sx"
    exact x_mkE (n := 0) (by decide) fun dd hd => ((h4 hk).same s14).done hd
  | true =>
    walk_at "sx"
    exact h5 hk x H4 s14 (px.same s4)
end
end Gs
namespace Gs
open PySem PySem.Spec PyProof.Rows L2 TL
/-! ### goals read, the sizes of lines too -/
def spReadGS (K : PySem.W.Frag) (BS BZ : Addr) (d dd : Nat) : Sp := fun vs H Q E => ∃ (line : Str) (most : Int) (b : Addr) (es : List V) (ops : List Op) (zs : List Str) (o : Option Pt), vs = [.str line, .ref b, .int most] ∧ H b = some (.lst es) ∧ RowsAt K H es ops ∧ OpsOk ops ∧ TabOk (ownL ++ ops) ∧
  line.length ≤ 100000 ∧ Cut (tl line) (zs.map tl) ∧ (∀ z ∈ zs, isPc (tl z) = true) ∧ most ≤ 1000 ∧ RdO (ownL ++ ops) d zs o ∧ ((zs.length : Int) > most ∨ mostOpen zs > 12 → BadS BZ H E) ∧ ((zs.length : Int) ≤ most → mostOpen zs ≤ 12 → (o = none → BadS BS H E) ∧
  ∀ p, o = some p → OkP p ∧ szT p ≤ 1000 ∧ dpT p ≤ dd ∧ (goalP p = false → BadS BS H E) ∧ (goalP p = true → (60 < szT p ∨ 12 < dpT p) → BadS BZ H E) ∧ (goalP p = true → szT p ≤ 60 ∧ dpT p ≤ 12 → ∀ x H', Same H H' → PtAt K H' (dpT p) x p → Q x H'))
section
variable {P : Program} {w : World} {K : PySem.W.Frag} {mg : Str → Option Value} {base : Heap} {f : Addr} {fd : FuncData} {C BS BZ : Addr}
def HasReadGS (BS BZ : Addr) (d dd : Nat) (P : Program) (w : World) (K : PySem.W.Frag) (mg : Str → Option Value) (base : Heap) : Prop := HasKE P w K mg base (4 * d + 8) "read_goal" ["line", "operators", "most"] 2 ["most"] [.int 200] (spReadGS K BS BZ d dd)
theorem ok_read_goalS {d dd : Nat} {kws : List (Str × V)} (F : FunD K "read_goal" "read_goal" (defArgs s_read_goal) (defBody s_read_goal) (defScope s_read_goal) [] kws f fd) (T : Txt mg) (C_pieces_of : HasPiecesE BZ P w K mg base) (C_goal_of : HasGoalOfE C BS d dd P w K mg base) (C_table_of : HasTable C P w K mg base) (C_measure : HasMeasE BZ P w K mg base) (hd : dd ≤ 4 * d := by decide) : FnOk P w K mg base (L2.CX P w) (4 * d + 8) f fd ["line", "operators", "most"] (spReadGS K BS BZ d dd) := by
  refine F.ok sc_read_goal (fun vs H Q E h => ?_) (fun cdv A outer s H vs Q E hr h => ?_)
  · obtain ⟨line, most, b, es, ops, zs, o, rfl, _⟩ := h
    rfl
  obtain ⟨line, most, b, es, ops, zs, o, rfl, hb, hro, oko, tok, hl, hcut, hpc, hm2, hrd, hbz, q0⟩ := h
  refine ⟨_, (pss_cons (ps_set (i := 3) sc_read_goal.nd rfl (Or.inl rfl) (pe_callHKE C_pieces_of hr (takes_of rfl rfl rfl rfl) (pa_cons (pv 0) pa_nil) (pk_cons (pv 2) pk_nil) (hk := by omega)))
    (pss_cons (ps_set (i := 4) sc_read_goal.nd rfl (Or.inl rfl) (pe_callE C_goal_of hr (takes_of rfl rfl rfl rfl) (pa_cons (pv 3) (pa_cons (pe_callH C_table_of hr (pa_cons (pv 1) pa_nil) (hk := by omega)) pa_nil)) (hk := by omega)))
    (pss_cons (ps_expr (pe_callE C_measure hr (takes_of rfl rfl rfl rfl) (pa_cons (pv 4) pa_nil) (hk := by omega)))
    (pss_one (ps_ret (pv 4)))))), ?_⟩
  walk_at "sx"
  refine x_callNS ?_
  walk_at "sx"
  refine ⟨rfl, rfl, line, most, zs, rfl, hl, hcut, hpc, hbz, fun hm ho pl H1 npl s1 epl => ?_⟩
  obtain ⟨bad, q⟩ := q0 hm ho
  walk_at "sx"
  refine ⟨b, es, ops, rfl, s1 _ _ hb, hro.same s1, oko, fun t H2 s2 tb => ?_⟩
  have s12 := s1.trans s2
  walk_at "sx"
  refine ⟨pl, t, zs, ownL ++ ops, o, rfl, s2 _ _ epl, tb, by omega, tok, hrd, fun e => (bad e).same s12, fun p e => ?_⟩
  obtain ⟨h1, h2, h3, h4, h5, h6⟩ := q p e
  refine ⟨h1, h2, h3, fun z => (h4 z).same s12, fun hk x H3 s3 px => ?_⟩
  have s13 := s12.trans s3
  walk_at "sx"
  refine ⟨x, _, p, rfl, px, by omega, fun e => (h5 hk e).same s13, fun e H5 s5 => ?_⟩
  walk_at "sx"
  exact h6 hk e x H5 (s13.trans s5) (px.same s5)
end
end Gs
namespace Gs
open PySem PySem.Spec PyProof.Rows L2 TL SrtK
abbrev s_law_keptless : Stmt := PySem.Challenge.pw_goalstead_k14_goals_by_their_shapes.main.body.getD 94 (.Pass ⟨0, 0, 0, 0⟩)
theorem sc_law_keptless : FnScope ["thing", "part"] ["thing"] (defScope s_law_keptless) := ⟨rfl, rfl, rfl, by decide +kernel, rfl, by decide +kernel, by decide +kernel⟩
abbrev s_law_pair_ok : Stmt := PySem.Challenge.pw_goalstead_k14_goals_by_their_shapes.main.body.getD 95 (.Pass ⟨0, 0, 0, 0⟩)
theorem sc_law_pair_ok : FnScope ["thing", "signs"] ["thing", "signs"] (defScope s_law_pair_ok) := ⟨rfl, rfl, rfl, by decide +kernel, rfl, by decide +kernel, by decide +kernel⟩
abbrev s_law_sum_ok : Stmt := PySem.Challenge.pw_goalstead_k14_goals_by_their_shapes.main.body.getD 96 (.Pass ⟨0, 0, 0, 0⟩)
theorem sc_law_sum_ok : FnScope ["thing"] ["thing"] (defScope s_law_sum_ok) := ⟨rfl, rfl, rfl, by decide +kernel, rfl, by decide +kernel, by decide +kernel⟩
abbrev s_law_asked_ok : Stmt := PySem.Challenge.pw_goalstead_k14_goals_by_their_shapes.main.body.getD 97 (.Pass ⟨0, 0, 0, 0⟩)
theorem sc_law_asked_ok : FnScope ["thing"] ["thing"] (defScope s_law_asked_ok) := ⟨rfl, rfl, rfl, by decide +kernel, rfl, by decide +kernel, by decide +kernel⟩
abbrev s_law_parted : Stmt := PySem.Challenge.pw_goalstead_k14_goals_by_their_shapes.main.body.getD 98 (.Pass ⟨0, 0, 0, 0⟩)
theorem sc_law_parted : FnScope ["thing", "row"] ["thing"] (defScope s_law_parted) := ⟨rfl, rfl, rfl, by decide +kernel, rfl, by decide +kernel, by decide +kernel⟩
/-! ### the law's own walk of a goal's shape -/
def Dr (u : Pt) : Prop := ∃ ops, OpsOk ops ∧ GoOk ops u
theorem Dr.okp {u : Pt} (h : Dr u) : OkP u := by
  obtain ⟨ops, _, h⟩ := h
  exact okT_imp (fun z h => nm_tx15 h) (fun _ _ => trivial) h.nm
theorem Dr.kids {nm : Str} {ps : List Pt} (h : Dr (.t nm ps)) : ∀ x ∈ ps, Dr x := by
  obtain ⟨ops, k, ⟨h1, h2⟩⟩ := h
  rw [okT] at h1
  rw [rdT] at h2
  have rdl : ∀ ps : List Pt, rdL (ownL ++ ops) ps → ∀ x ∈ ps, rdT (ownL ++ ops) x := fun ps => by
    induction ps with
    | nil => exact fun _ x hx => by cases hx
    | cons y r ih =>
      intro h x hx
      rw [rdL] at h
      rcases List.mem_cons.mp hx with rfl | hx
      · exact h.1
      · exact ih h.2 x hx
  exact fun x hx => ⟨ops, k, okL_mem.mp h1.2.2.2 x hx, rdl ps h2.2.2.2 x hx⟩
theorem own_ar : ∀ o ∈ ownL, o.n ∈ keptL → (if o.s = ("ahead" : Str) then 1 else 2) = if o.n = ("not" : Str) then 1 else 2 := by decide +kernel
theorem Dr.ar {nm : Str} {ps : List Pt} (h : Dr (.t nm ps)) (hk : nm ∈ keptL) : ps.length = if nm = ("not" : Str) then 1 else 2 := by
  obtain ⟨ops, k, ⟨h1, h2⟩⟩ := h
  rw [rdT] at h2
  cases e : rowOf (ownL ++ ops) nm ps.length with
  | none => exact absurd hk (h2.2.2.1 e).2.1
  | some o =>
    obtain ⟨ho, hn, hm⟩ := rowOf_some e
    subst hn
    rcases List.mem_append.mp ho with ho | ho
    · rw [hm]
      exact own_ar o ho hk
    · exact absurd hk (k.nk o ho)
theorem Dr.str {z : Str} (h : Dr (.s z)) : wordS z = !unkS z := by
  obtain ⟨ops, k, ⟨h1, h2⟩⟩ := h
  have hr : Unk (ownL ++ ops) z ∨ Wd (ownL ++ ops) z := h2
  unfold wordS unkS
  rcases hr with ⟨⟨c, t, e, hc⟩, _⟩ | ⟨⟨c, t, e, hc⟩, _⟩
  · rw [e]
    have := sC_iff.mp hc
    show decide (c ∈ sS) = !decide (c ∈ sC)
    rw [decide_eq_true hc, decide_eq_false (fun h => by rw [sS_iff] at h; omega)]
    rfl
  · rw [e]
    have := sS_iff.mp hc
    show decide (c ∈ sS) = !decide (c ∈ sC)
    rw [decide_eq_true hc, decide_eq_false (fun h => by rw [sC_iff] at h; omega)]
    rfl
def pairQ (signs : List Str) (p : Pt) : Bool := namedP signs 2 p && (sumP (kid 0 p) && sumP (kid 1 p))
theorem sumP_pair {nm : Str} {ps : List Pt} : sumP (.t nm ps) = pairQ sums5 (.t nm ps) := by
  unfold pairQ
  cases en : namedP sums5 2 (.t nm ps) with
  | false => rw [sumP_not rfl en, Bool.false_and]
  | true =>
    obtain ⟨nm', x, y, e, hm⟩ := named2 en
    cases e
    rw [sumP_two, decide_eq_true hm]
    rfl
theorem all_bl {us : List V} {bs : List Bool} (h : AllAt (fun v (b : Bool) => v = .bl b) us bs) : us = bs.map V.bl := by
  refine List.ext_getElem? fun i => ?_
  rw [List.getElem?_map]
  cases e : us[i]? with
  | none =>
    rw [List.getElem?_eq_none (by rw [← h.1]; exact List.getElem?_eq_none_iff.mp e)]
    rfl
  | some v =>
    have hi := (List.getElem?_eq_some_iff.mp e).1
    have h2 : bs[i]? = some (bs[i]'(by rw [← h.1]; exact hi)) := List.getElem?_eq_getElem _
    rw [h2, h.2 i v _ e h2]
    rfl
theorem all_tx {us : List V} {zs : List Str} (h : AllAt (fun v (z : Str) => v = .str z) us zs) : us = zs.map V.str := by
  refine List.ext_getElem? fun i => ?_
  rw [List.getElem?_map]
  cases e : us[i]? with
  | none =>
    rw [List.getElem?_eq_none (by rw [← h.1]; exact List.getElem?_eq_none_iff.mp e)]
    rfl
  | some v =>
    have hi := (List.getElem?_eq_some_iff.mp e).1
    have h2 : zs[i]? = some (zs[i]'(by rw [← h.1]; exact hi)) := List.getElem?_eq_getElem _
    rw [h2, h.2 i v _ e h2]
    rfl
theorem hasKL_all : ∀ ps : List Pt, hasKL ps = !(ps.map fun p => !hasK p).all id
  | [] => rfl
  | p :: r => by
    rw [hasKL, hasKL_all r, List.map_cons, List.all_cons]
    cases hasK p <;> simp
/-- what a def that looks at a drawn tuple tells -/
def spL (K : PySem.W.Frag) (k : Nat) (f : Pt → Bool) : Sp := fun vs H Q _ => ∃ (v : V) (p : Pt), vs = [v] ∧ PtAt K H k v p ∧ Dr p ∧ szT p ≤ 900 ∧ ∀ H', Same H H' → Q (.bl (f p)) H'
def spPair (K : PySem.W.Frag) (k : Nat) : Sp := fun vs H Q _ => ∃ (v : V) (a : Addr) (p : Pt) (signs : List Str), vs = [v, .ref a] ∧ PtAt K H k v p ∧ H a = some (.lst (signs.map V.str)) ∧ Dr p ∧ szT p ≤ 900 ∧ ∀ H', Same H H' → Q (.bl (pairQ signs p)) H'
def spParted (K : PySem.W.Frag) (k : Nat) : Sp := fun vs H Q _ => ∃ (v : V) (p : Pt), vs = [v] ∧ PtAt K H k v p ∧ Dr p ∧ szT p ≤ 900 ∧ ∀ a us H', H a = none → Same H H' → H' a = some (.lst us) → PtsAt K H' k us (partsA p) → Q (.ref a) H'
section
variable {P : Program} {w : World} {K : PySem.W.Frag} {mg : Str → Option Value} {base : Heap} {f f2 : Addr} {fd fd2 : FuncData}
def HasL (n : Nat) (x : Str) (k : Nat) (g : Pt → Bool) (P : Program) (w : World) (K : PySem.W.Frag) (mg : Str → Option Value) (base : Heap) : Prop := Has P w K mg base n x ["thing"] (spL K k g)
def HasPairQ (k : Nat) (P : Program) (w : World) (K : PySem.W.Frag) (mg : Str → Option Value) (base : Heap) : Prop := Has P w K mg base (2 * k + 2) "_law_pair_ok" ["thing", "signs"] (spPair K k)
def HasParted (k : Nat) (P : Program) (w : World) (K : PySem.W.Frag) (mg : Str → Option Value) (base : Heap) : Prop := Has P w K mg base 1 "_law_parted" ["thing"] (spParted K k)
theorem ok_law_keptless (F : Fun K "_law_keptless" "_law_keptless" s_law_keptless f fd) (T : Txt mg) (C_law_kept : HasKept P w K mg base) (b : Binds K fd ["thing"] []) (kp : PySem.W.keepIn K (.ref f) = true) (m : mg "_law_keptless" = some (.ref f)) : ∀ k, FnOk P w K mg base CX0 (k + 2) f fd ["thing"] (spL K k fun p => !hasK p)
  | 0 => ⟨fun vs H Q E h => by
      obtain ⟨v, p, _, h, _⟩ := h
      exact h.elim, fun A outer s H args us vs Q E _ _ _ _ h => by
      obtain ⟨v, p, _, h, _⟩ := h
      exact h.elim⟩
  | k + 1 => by
    have C_law_keptless : HasL (k + 2) "_law_keptless" k (fun p => !hasK p) P w K mg base := ⟨f, fd, ok_law_keptless F T C_law_kept b kp m k, b, kp, m⟩
    refine F.ok sc_law_keptless (fun vs H Q E h => ?_) (fun cdv A outer s H vs Q E hr h => ?_)
    · obtain ⟨v, p, rfl, _⟩ := h
      rfl
    obtain ⟨v, p, rfl, hp, dr, hz, q⟩ := h
    refine ⟨_, (pss_cons (ps_if (pt_val (pe_callB (call_isiKK (K := K)) (by rfl) T.z_isinstance (by decide +kernel) (pa_cons (pv 0) (pa_cons (pe_bltn (v := .ty "tuple") (by rfl) T.z_tuple (by decide +kernel) rfl) pa_nil))))
      (pss_one (ps_ret (pe_and (pe_cmpR (op_notInK (K := K)) (pe_ix (ix_tupK (K := K)) (pv 0) pe_int (fun _ _ => rfl)) (pe_callH0 C_law_kept hr (hk := by omega)) (by first | exact nomark _ | rfl)) (pe_one (pe_callB (cr_allK (K := K) rfl) (by rfl) T.z_all (by decide +kernel) (pa_cons (pe_lc (own := [("part", 1)]) (g := gName 1) (tt := tYes) rfl sc_law_keptless.nd (pi_tup (pe_slice (sl_tupAK (K := K)) (pv 0) (po_some pe_int) po_none)) (blkOk_by (own := [("part", 1)]) (N := ["thing", "part"]) (sc := defScope s_law_keptless) (by decide +kernel)) (fun _ _ _ _ _ => pg_name (i := 1) sc_law_keptless.nd rfl (Or.inl rfl)) (fun _ _ _ _ _ => pts_nil) (fun _ _ _ _ _ => (pe_callH C_law_keptless hr (pa_cons (pv 1) pa_nil) (hk := Nat.le_refl _)))) pa_nil))))))
      pss_nil)
    (pss_one (ps_ret pe_bl))), ?_⟩
    walk_at "sx"
    rcases hp.three with ⟨n, rfl, rfl⟩ | ⟨z, rfl, rfl⟩ | ⟨j, nm, ps, a, ys, ej, rfl, rfl, sa, pq⟩
    · refine x_isT (t := .type "int") (c := false) (.base (.int n)) (kit_ty (by decide +kernel)) ?_
      walk_at "sx"
      exact q _ (same_refl _)
    · refine x_isT (t := .type "str") (c := false) (.base (.str z)) (kit_ty (by decide +kernel)) ?_
      walk_at "sx"
      exact q _ (same_refl _)
    · have ej' : j = k := by omega
      subst ej'
      refine x_isT (t := .type "tuple") (c := true) (ty_tup sa) (kit_ty (by decide +kernel)) ?_
      walk_at "sx"
      refine ⟨rfl, fun kq G nk hk sk => ?_⟩
      walk_at "sx"
      refine ⟨kq, _, rfl, .inl (.of hk), rfl, by decide, ?_⟩
      rw [if_pos rfl, inV_strs]
      refine ⟨_, rfl, ?_⟩
      have q : ∀ H', Same H H' → Q (.bl (!hasK (.t nm ps))) H' := q
      have eq0 : (!hasK (.t nm ps)) = (!decide (nm ∈ keptL) && !hasKL ps) := by rw [hasK, Bool.not_or]
      rw [eq0] at q
      cases hkp : decide (nm ∈ keptL) with
      | true =>
        rw [hkp] at q
        walk_at "sx"
        exact q _ sk
      | false =>
        rw [hkp] at q
        have sa1 := Same.sqT sk sa
        walk_at "sx"
        refine x_slA sa1 fun t2 G2 kG st2 => ?_
        rw [cut_tail] at st2
        have s2 := sk.trans kG
        have pq2 := pq.same s2
        have lsz := szL_len ps
        rw [szT] at hz
        walk_at "sx"
        refine x_lcMT (K := K) (R := fun H v p => PtAt K H j v p) (S := fun _ v (b : Bool) => v = .bl b) (fun p => !hasK p) st2 ⟨pq2.1, pq2.2⟩ (fun s h => h.same s) (fun _ _ _ _ _ h => h) (by omega) (fun G3 v x sG hx hv Q' P' q' => ?_) (fun D G3 us nD sG eD hu => ?_)
        · have := szL_mem20 hx
          walk_at "sx"
          refine ⟨rfl, ?_⟩
          walk_at "sx"
          exact ⟨v, x, rfl, hv, dr.kids x hx, by omega, fun G4 s4 => q' _ _ s4 rfl⟩
        · rw [all_bl ⟨hu.1, hu.2⟩] at eD
          walk_at "sx"
          refine ⟨D, _, rfl, .of eD, ?_⟩
          rw [hasKL_all, Bool.not_not, Bool.not_false, Bool.true_and] at q
          exact q _ (s2.trans sG)
theorem ok_law_pair_ok {k : Nat} (F : Fun K "_law_pair_ok" "_law_pair_ok" s_law_pair_ok f fd) (T : Txt mg) (C_law_sum_ok : HasL (2 * k + 3) "_law_sum_ok" k sumP P w K mg base) : FnOk P w K mg base CX0 (2 * k + 4) f fd ["thing", "signs"] (spPair K (k + 1)) := by
  refine F.ok sc_law_pair_ok (fun vs H Q E h => ?_) (fun cdv A outer s H vs Q E hr h => ?_)
  · obtain ⟨v, a, p, signs, rfl, _⟩ := h
    rfl
  obtain ⟨v, b, p, signs, rfl, hp, hb, dr, hz, q⟩ := h
  refine ⟨_, (pss_cons (ps_if (PW.pt (pw_or (pt_not (pt_val (pe_callB (call_isiKK (K := K)) (by rfl) T.z_isinstance (by decide +kernel) (pa_cons (pv 0) (pa_cons (pe_bltn (v := .ty "tuple") (by rfl) T.z_tuple (by decide +kernel) rfl) pa_nil))))) (pw_or (pt_cmpR op_ne (pe_callB (call_lenK (K := K)) (by rfl) T.z_len (by decide +kernel) (pa_cons (pv 0) pa_nil)) pe_int (nomark _)) (pw_or1 (pt_cmpR (op_notInK (K := K)) (pe_ix (ix_tupK (K := K)) (pv 0) pe_int (fun _ _ => rfl)) (pv 1) (by first | exact nomark _ | rfl))))))
      (pss_one (ps_ret pe_bl))
      pss_nil)
    (pss_one (ps_ret (pe_and (pe_callH C_law_sum_ok hr (pa_cons (pe_ix (ix_tupK (K := K)) (pv 0) pe_int (fun _ _ => rfl)) pa_nil) (hk := by omega)) (pe_one (pe_callH C_law_sum_ok hr (pa_cons (pe_ix (ix_tupK (K := K)) (pv 0) pe_int (fun _ _ => rfl)) pa_nil) (hk := by omega))))))), ?_⟩
  walk_at "sx"
  rcases hp.three with ⟨n, rfl, rfl⟩ | ⟨z, rfl, rfl⟩ | ⟨j, nm, ps, a, ys, ej, rfl, rfl, sa, pq⟩
  · refine x_isT (t := .type "int") (c := false) (.base (.int n)) (kit_ty (by decide +kernel)) ?_
    walk_at "sx"
    exact q _ (same_refl _)
  · refine x_isT (t := .type "str") (c := false) (.base (.str z)) (kit_ty (by decide +kernel)) ?_
    walk_at "sx"
    exact q _ (same_refl _)
  · have ej' : j = k := by omega
    subst ej'
    have l1 := pq.1
    refine x_isT (t := .type "tuple") (c := true) (ty_tup sa) (kit_ty (by decide +kernel)) ?_
    walk_at "sx"
    have e0 : namedP signs 2 (.t nm ps) = (decide (nm ∈ signs) && decide (ps.length = 2)) := rfl
    have off : namedP signs 2 (.t nm ps) = false → ∀ H', Same H H' → Q (.bl false) H' := fun h H' s' => by
      have q1 := q H' s'
      unfold pairQ at q1
      rw [h, Bool.false_and] at q1
      exact q1
    refine x_iteN (fun c => ?_) (fun c => ?_)
    · walk_at "sx"
      refine off ?_ _ (same_refl _)
      rw [e0, Bool.and_eq_false_iff]
      refine .inr (decide_eq_false fun z => c (congrArg V.int ?_))
      rw [List.length_cons]
      omega
    · have c3 := V.int.inj c
      rw [List.length_cons] at c3
      have l2 : ps.length = 2 := by omega
      walk_at "sx"
      refine ⟨b, _, rfl, .inl (.of hb), rfl, by rw [List.all_map]; exact List.all_eq_true.mpr fun x _ => rfl, ?_⟩
      rw [if_pos rfl, inV_strs]
      cases hin : decide (nm ∈ signs) with
      | false =>
        walk_at "sx"
        exact off (by rw [e0, hin, Bool.false_and]) _ (same_refl _)
      | true =>
        match ps, ys, pq, l2 with
        | [x, y], [v1, v2], pq, _ =>
          have e1 : pairQ signs (.t nm [x, y]) = (sumP x && sumP y) := by
            unfold pairQ
            rw [e0, hin]
            rfl
          rw [e1] at q
          simp only [szT, szL] at hz
          walk_at "sx"
          refine ⟨v1, x, rfl, pq.2 0 v1 x rfl rfl, dr.kids x (by simp), by omega, fun G s1 => ?_⟩
          have sa1 := Same.sqT s1 sa
          cases ex : sumP x with
          | false =>
            rw [ex] at q
            walk_at "sx"
            exact q _ s1
          | true =>
            rw [ex, Bool.true_and] at q
            walk_at "sx"
            exact ⟨v2, y, rfl, (pq.2 1 v2 y rfl rfl).same s1, dr.kids y (by simp), by omega, fun G2 s2 => q _ (s1.trans s2)⟩
theorem ok_law_sum_ok {k : Nat} (F : Fun K "_law_sum_ok" "_law_sum_ok" s_law_sum_ok f fd) (T : Txt mg) (C_law_pair_ok : HasPairQ k P w K mg base) (C_law_capital : HasCap P w K mg base) : FnOk P w K mg base CX0 (2 * k + 3) f fd ["thing"] (spL K k sumP) := by
  refine F.ok sc_law_sum_ok (fun vs H Q E h => ?_) (fun cdv A outer s H vs Q E hr h => ?_)
  · obtain ⟨v, p, rfl, _⟩ := h
    rfl
  obtain ⟨v, p, rfl, hp, dr, hz, q⟩ := h
  refine ⟨_, (pss_cons (ps_if (pt_val (pe_callB (call_isiKK (K := K)) (by rfl) T.z_isinstance (by decide +kernel) (pa_cons (pv 0) (pa_cons (pe_bltn (v := .ty "tuple") (by rfl) T.z_tuple (by decide +kernel) rfl) pa_nil))))
      (pss_one (ps_ret (pe_callH C_law_pair_ok hr (pa_cons (pv 0) (pa_cons (pe_lst (pa_cons pe_str (pa_cons pe_str (pa_cons pe_str (pa_cons pe_str (pa_cons pe_str pa_nil)))))) pa_nil)) (hk := by omega))))
      pss_nil)
    (pss_one (ps_ret (pe_or (pe_callB (call_isiKK (K := K)) (by rfl) T.z_isinstance (by decide +kernel) (pa_cons (pv 0) (pa_cons (pe_bltn (v := .ty "int") (by rfl) T.z_int (by decide +kernel) rfl) pa_nil))) (pe_one (pe_callH C_law_capital hr (pa_cons (pv 0) pa_nil) (hk := by omega))))))), ?_⟩
  walk_at "sx"
  rcases id hp.three with ⟨n, rfl, rfl⟩ | ⟨z, rfl, rfl⟩ | ⟨j, nm, ps, a, ys, ej, rfl, rfl, sa, pq⟩
  · refine x_isT (t := .type "int") (c := false) (.base (.int n)) (kit_ty (by decide +kernel)) ?_
    walk_at "sx"
    refine x_isT (t := .type "int") (c := true) (.base (.int n)) (kit_ty (by decide +kernel)) ?_
    walk_at "sx"
    exact q _ (same_refl _)
  · refine x_isT (t := .type "str") (c := false) (.base (.str z)) (kit_ty (by decide +kernel)) ?_
    walk_at "sx"
    refine x_isT (t := .type "str") (c := false) (.base (.str z)) (kit_ty (by decide +kernel)) ?_
    walk_at "sx"
    exact ⟨.str z, _, .s z, rfl, hp, (fun y e => by cases e; exact dr.okp), q _ (same_refl _)⟩
  · refine x_isT (t := .type "tuple") (c := true) (ty_tup sa) (kit_ty (by decide +kernel)) ?_
    walk_at "sx"
    rename_i l nl
    have sl := same_upd (o := .lst (sums5.map V.str)) nl
    rw [sumP_pair] at q
    exact ⟨.ref a, l, _, sums5, rfl, hp.same sl, upd_same, dr, hz, fun H' s' => q _ (sl.trans s')⟩
theorem sum_all (F : Fun K "_law_pair_ok" "_law_pair_ok" s_law_pair_ok f fd) (T : Txt mg) (b : Binds K fd ["thing", "signs"] []) (kp : PySem.W.keepIn K (.ref f) = true) (m : mg "_law_pair_ok" = some (.ref f))
    (F2 : Fun K "_law_sum_ok" "_law_sum_ok" s_law_sum_ok f2 fd2) (b2 : Binds K fd2 ["thing"] []) (kp2 : PySem.W.keepIn K (.ref f2) = true) (m2 : mg "_law_sum_ok" = some (.ref f2)) (C_law_capital : HasCap P w K mg base) : ∀ k, HasPairQ k P w K mg base ∧ HasL (2 * k + 3) "_law_sum_ok" k sumP P w K mg base
  | 0 => by
    have h0 : HasPairQ 0 P w K mg base := ⟨f, fd, ⟨fun vs H Q E h => by
      obtain ⟨v, a, p, s, _, h, _⟩ := h
      exact h.elim, fun A outer s H args us vs Q E _ _ _ _ h => by
      obtain ⟨v, a, p, s, _, h, _⟩ := h
      exact h.elim⟩, b, kp, m⟩
    exact ⟨h0, f2, fd2, ok_law_sum_ok F2 T h0 C_law_capital, b2, kp2, m2⟩
  | k + 1 => by
    have h := sum_all F T b kp m F2 b2 kp2 m2 C_law_capital k
    have h0 : HasPairQ (k + 1) P w K mg base := ⟨f, fd, ok_law_pair_ok F T h.2, b, kp, m⟩
    exact ⟨h0, f2, fd2, ok_law_sum_ok F2 T h0 C_law_capital, b2, kp2, m2⟩
theorem ok_law_asked_ok {k : Nat} (F : Fun K "_law_asked_ok" "_law_asked_ok" s_law_asked_ok f fd) (T : Txt mg) (C_law_keptless : HasL (k + 2) "_law_keptless" k (fun p => !hasK p) P w K mg base) (C_law_capital : HasCap P w K mg base) : FnOk P w K mg base CX0 (k + 3) f fd ["thing"] (spL K k relP) := by
  refine F.ok sc_law_asked_ok (fun vs H Q E h => ?_) (fun cdv A outer s H vs Q E hr h => ?_)
  · obtain ⟨v, p, rfl, _⟩ := h
    rfl
  obtain ⟨v, p, rfl, hp, dr, hz, q⟩ := h
  refine ⟨_, (pss_one (ps_ret (pe_and (pe_callH C_law_keptless hr (pa_cons (pv 0) pa_nil) (hk := by omega)) (pe_and (pe_not (pe_callB (call_isiKK (K := K)) (by rfl) T.z_isinstance (by decide +kernel) (pa_cons (pv 0) (pa_cons (pe_bltn (v := .ty "int") (by rfl) T.z_int (by decide +kernel) rfl) pa_nil)))) (pe_one (pe_not (pe_callH C_law_capital hr (pa_cons (pv 0) pa_nil) (hk := by omega)))))))), ?_⟩
  walk_at "sx"
  refine ⟨v, p, rfl, hp, dr, hz, fun G s1 => ?_⟩
  cases hk : (fun p => !hasK p) p with
  | false =>
    have hk : (!hasK p) = false := hk
    rw [Bool.not_eq_false'] at hk
    have e : relP p = false := by
      unfold relP
      rw [hk]
      rfl
    rw [e] at q
    walk_at "sx"
    exact q _ s1
  | true =>
    have hk : (!hasK p) = true := hk
    rw [Bool.not_eq_true'] at hk
    have e : relP p = (wordP p || isTup p) := by
      unfold relP
      rw [hk]
      rfl
    rw [e] at q
    walk_at "sx"
    have hp1 := hp.same s1
    rcases id hp1.three with ⟨n, rfl, rfl⟩ | ⟨z, rfl, rfl⟩ | ⟨j, nm, ps, a, ys, ej, rfl, rfl, sa, pq⟩
    · refine x_isT (t := .type "int") (c := true) (.base (.int n)) (kit_ty (by decide +kernel)) ?_
      walk_at "sx"
      exact q _ s1
    · refine x_isT (t := .type "str") (c := false) (.base (.str z)) (kit_ty (by decide +kernel)) ?_
      walk_at "sx"
      refine ⟨.str z, _, .s z, rfl, hp1, (fun y e => by cases e; exact dr.okp), ?_⟩
      have e2 : (wordP (.s z) || isTup (.s z)) = !unk (.s z) := by
        rw [show wordP (.s z) = wordS z from rfl, show isTup (.s z) = false from rfl, Bool.or_false, dr.str]
        rfl
      rw [e2] at q
      walk_at "sx"
      exact q _ s1
    · refine x_isT (t := .type "tuple") (c := false) (ty_tup sa) (kit_ty (by decide +kernel)) ?_
      walk_at "sx"
      refine ⟨.ref a, _, .t nm ps, rfl, hp1, (fun y e => by cases e), ?_⟩
      walk_at "sx"
      exact q _ s1
end
end Gs
namespace Gs
open PySem PySem.Spec PyProof.Rows L2 TL SrtK
abbrev s_law_range_ok : Stmt := PySem.Challenge.pw_goalstead_k14_goals_by_their_shapes.main.body.getD 99 (.Pass ⟨0, 0, 0, 0⟩)
theorem sc_law_range_ok : FnScope ["thing"] ["thing"] (defScope s_law_range_ok) := ⟨rfl, rfl, rfl, by decide +kernel, rfl, by decide +kernel, by decide +kernel⟩
theorem dr_parts : ∀ (n : Nat) (p q : Pt), q ∈ partsN n p → Dr p → Dr q
  | 0, p, q, h, d => by
    rw [partsN, List.mem_singleton] at h
    rw [h]
    exact d
  | n + 1, p, q, h, d => by
    rw [partsN] at h
    split at h
    · rename_i c
      obtain ⟨nm, a, b, rfl, _⟩ := named2 c
      rcases List.mem_cons.mp h with rfl | h
      · exact d.kids _ (by simp [kid])
      · exact dr_parts n b q h (d.kids _ (by simp))
    · rw [List.mem_singleton.mp h]
      exact d
theorem once_len_nd : ∀ l : List Str, (once l).length = l.length ↔ l.Nodup := by
  have : ∀ (r a : List Str), ((once a).length = a.length ↔ a.Nodup) → ((once (a ++ r)).length = (a ++ r).length ↔ (a ++ r).Nodup) := by
    intro r
    induction r with
    | nil =>
      intro a h
      rw [List.append_nil]
      exact h
    | cons x r ih =>
      intro a h
      have e : a ++ x :: r = (a ++ [x]) ++ r := by simp
      rw [e]
      refine ih _ ?_
      have hle := once_le a
      have hnd : (a ++ [x]).Nodup ↔ a.Nodup ∧ x ∉ a := by
        rw [List.nodup_append]
        constructor
        · rintro ⟨h1, _, h3⟩
          exact ⟨h1, fun hx => h3 x hx x (List.mem_singleton_self _) rfl⟩
        · rintro ⟨h1, h2⟩
          refine ⟨h1, by simp, fun y hy z hz e => ?_⟩
          rw [List.mem_singleton] at hz
          rw [e, hz] at hy
          exact h2 hy
      rw [hnd, once_more]
      by_cases hx : x ∈ once a
      · rw [if_pos hx, List.length_append, List.length_singleton]
        have hx2 := mem_once.mp hx
        constructor
        · intro z
          omega
        · rintro ⟨_, z⟩
          exact absurd hx2 z
      · rw [if_neg hx, List.length_append, List.length_append, List.length_singleton, ← h]
        have hx2 : x ∉ a := fun z => hx (mem_once.mpr z)
        constructor
        · intro z
          exact ⟨by omega, hx2⟩
        · rintro ⟨z, _⟩
          omega
  intro l
  exact this l [] (by simp [once_nil])
theorem cnt_nd : ∀ l : List Str, (∀ z ∈ l, l.count z = 1) ↔ l.Nodup
  | [] => by simp
  | x :: r => by
    have ih := cnt_nd r
    rw [List.nodup_cons]
    constructor
    · intro h
      have hx : x ∉ r := fun hx => by
        have h1 := h x (List.mem_cons_self ..)
        rw [List.count_cons_self] at h1
        have := List.count_pos_iff.mpr hx
        omega
      refine ⟨hx, ih.mp fun z hz => ?_⟩
      have h1 := h z (List.mem_cons_of_mem _ hz)
      rw [List.count_cons_of_ne (fun e => hx (by rw [e]; exact hz))] at h1
      exact h1
    · rintro ⟨hx, hr⟩ z hz
      rcases List.mem_cons.mp hz with rfl | hz
      · rw [List.count_cons_self, List.count_eq_zero.mpr hx]
      · rw [List.count_cons_of_ne (fun e => hx (by rw [e]; exact hz))]
        exact ih.mpr hr z hz
theorem nmL_iff : ∀ {ps : List Pt} {z : Str}, z ∈ nmL ps ↔ ∃ p ∈ ps, z ∈ nmT p
  | [], z => by simp [nmL]
  | x :: r, z => by
    rw [nmL, List.mem_append, nmL_iff]
    simp
/-- a box, as the law looks at it -/
theorem box_law {p : Pt} (h3 : ¬ 3 < (partsA p).length) (ha : (partsA p).all rangeP = true) : boxP p = (((partsA p).map rname).map fun z => decide ((((partsA p).map rname).count z : Int) = 1) && !decide (z ∈ nmL ((partsA p).map (kid 1)))).all id := by
  unfold boxP
  rw [ha, Bool.true_and, decide_eq_false h3, Bool.false_or, Bool.eq_iff_iff]
  have hl := once_le ((partsA p).map rname)
  have e1 : ((!decide ((once ((partsA p).map rname)).length < (partsA p).length)) = true) ↔ ∀ z ∈ (partsA p).map rname, ((partsA p).map rname).count z = 1 := by
    rw [cnt_nd, ← once_len_nd, Bool.not_eq_true', decide_eq_false_iff_not]
    rw [List.length_map] at hl ⊢
    omega
  rw [Bool.and_eq_true, e1, List.all_map, List.all_eq_true, List.all_eq_true]
  constructor
  · rintro ⟨h1, h2⟩ z hz
    show (decide _ && !decide _) = true
    rw [Bool.and_eq_true, decide_eq_true_iff, Bool.not_eq_true', decide_eq_false_iff_not]
    refine ⟨by rw [h1 z hz]; rfl, fun hm => ?_⟩
    obtain ⟨q, hq, hzq⟩ := nmL_iff.mp hm
    obtain ⟨r, hr, rfl⟩ := List.mem_map.mp hq
    have := List.all_eq_true.mp (h2 r hr) z (mem_once.mpr hzq)
    rw [Bool.not_eq_true', decide_eq_false_iff_not] at this
    exact this hz
  · intro h
    have g : ∀ z ∈ (partsA p).map rname, (((partsA p).map rname).count z : Int) = 1 ∧ z ∉ nmL ((partsA p).map (kid 1)) := fun z hz => by
      have := h z hz
      have this : (decide ((((partsA p).map rname).count z : Int) = 1) && !decide (z ∈ nmL ((partsA p).map (kid 1)))) = true := this
      rw [Bool.and_eq_true, decide_eq_true_iff, Bool.not_eq_true', decide_eq_false_iff_not] at this
      exact this
    refine ⟨fun z hz => by have := (g z hz).1; omega, fun r hr => List.all_eq_true.mpr fun u hu => ?_⟩
    rw [Bool.not_eq_true', decide_eq_false_iff_not]
    intro hm
    exact (g u hm).2 (nmL_iff.mpr ⟨kid 1 r, List.mem_map.mpr ⟨r, hr, rfl⟩, mem_once.mp hu⟩)
section
variable {P : Program} {w : World} {K : PySem.W.Frag} {mg : Str → Option Value} {base : Heap} {f : Addr} {fd : FuncData}
theorem ok_law_parted {k : Nat} (F : Fun K "_law_parted" "_law_parted" s_law_parted f fd) (T : Txt mg) : FnOk P w K mg base CX0 1 f fd ["thing"] (spParted K k) := by
  refine F.ok sc_law_parted (fun vs H Q E h => ?_) (fun cdv A outer s H vs Q E hr h => ?_)
  · obtain ⟨v, p, rfl, _⟩ := h
    rfl
  obtain ⟨v, p, rfl, hv, dr, hz, q⟩ := h
  refine ⟨_, (pss_cons (ps_set (i := 1) sc_law_parted.nd rfl (Or.inl rfl) (pe_lst pa_nil))
    (pss_cons (ps_while PassesOwn.never (PW.pt (pw_and (pt_val (pe_callB (call_isiKK (K := K)) (by rfl) T.z_isinstance (by decide +kernel) (pa_cons (pv 0) (pa_cons (pe_bltn (v := .ty "tuple") (by rfl) T.z_tuple (by decide +kernel) rfl) pa_nil)))) (pw_and1 (pt_cmpR op_eq (pe_ix (ix_tupK (K := K)) (pv 0) pe_int (fun _ _ => rfl)) pe_str (nomark _)))))
      (pss_cons (ps_expr (pe_bm PySem.F.plainAttrs_list PySem.F.slot_list_append PySem.F.type_list_append mt_append (pv 1) (pa_cons (pe_ix (ix_tupK (K := K)) (pv 0) pe_int (fun _ _ => rfl)) pa_nil)))
    (pss_one (ps_set (i := 0) sc_law_parted.nd rfl (Or.inl rfl) (pe_ix (ix_tupK (K := K)) (pv 0) pe_int (fun _ _ => rfl))))))
    (pss_one (ps_ret (pe_op op_cat (pv 1) (pe_lst (pa_cons (pv 0) pa_nil))))))), ?_⟩
  walk_at "sx"
  rename_i pl npl
  refine x_while (fun m σ' G => ∃ (v' : V) (us : List V) (pre : List Pt) (p' : Pt), σ' = [some v', some (.ref pl)] ∧ PtAt K G k v' p' ∧ Dr p' ∧ G pl = some (.lst us) ∧ PtsAt K G k us pre ∧ partsA p = pre ++ partsA p' ∧ m = szT p' ∧ us.length + szT p' ≤ szT p ∧ Same H G) (szT p) ?_ ?_
  · exact ⟨v, [], [], p, rfl, hv.same (same_upd npl), dr, upd_same, .nil, rfl, rfl, by simp, same_upd npl⟩
  · rintro m σ' G ⟨v', us, pre, p', rfl, hv', dr', hpl, hus, e, rfl, hl, kG⟩
    have hsz := szT_pos p'
    have fin : namedP ["and"] 2 p' = false → ∀ (Q' : V → Hp → Prop), (∀ a H', H a = none → Same H H' → H' a = some (.lst (us ++ [v'])) → PtsAt K H' k (us ++ [v']) (partsA p) → Q' (.ref a) H') → ∀ o G2, G o = none → G2 = upd G o (.lst [v']) → ∀ b, G2 b = none → Q' (.ref b) (upd G2 b (.lst (us ++ [v']))) := fun hn Q' hq o G2 no eG b nb => by
      subst eG
      have s1 := same_upd (o := .lst [v']) no
      have s2 := s1.trans (same_upd (o := .lst (us ++ [v'])) nb)
      refine hq b _ ((kG.trans s1).free nb) (kG.trans s2) upd_same ?_
      rw [e, partsA_one hn]
      exact (hus.same s2).append (.one (hv'.same s2))
    walk_at "sx"
    rcases id hv'.three with ⟨n, rfl, rfl⟩ | ⟨z, rfl, rfl⟩ | ⟨j, nm, ps, a, ys, ej, rfl, rfl, sa, pq⟩
    · refine x_isT (t := .type "int") (c := false) (.base (.int n)) (kit_ty (by decide +kernel)) ?_
      walk_at "sx"
      rename_i o no
      refine x_cat (xs := us) (zs := [.int n]) (by walk_at "hx") upd_same (sz (by show us.length + 1 ≤ _; omega)) fun b nb => ?_
      walk_at "sx"
      exact fin rfl Q (fun a H' h1 h2 h3 h4 => q a _ H' h1 h2 h3 h4) _ _ no rfl b nb
    · refine x_isT (t := .type "str") (c := false) (.base (.str z)) (kit_ty (by decide +kernel)) ?_
      walk_at "sx"
      rename_i o no
      refine x_cat (xs := us) (zs := [.str z]) (by walk_at "hx") upd_same (sz (by show us.length + 1 ≤ _; omega)) fun b nb => ?_
      walk_at "sx"
      exact fin rfl Q (fun a H' h1 h2 h3 h4 => q a _ H' h1 h2 h3 h4) _ _ no rfl b nb
    · refine x_isT (t := .type "tuple") (c := true) (ty_tup sa) (kit_ty (by decide +kernel)) ?_
      walk_at "sx"
      refine x_ite (fun c => ?_) (fun c => ?_)
      · have en := V.str.inj c
        subst en
        have l2 : ps.length = 2 := by rw [dr'.ar (by decide +kernel), if_neg (by decide +kernel)]
        match ps, ys, pq, l2 with
        | [x, y], [v1, v2], pq, _ =>
          have hx := szT_pos x
          simp only [szT, szL] at hsz hl
          refine ⟨fun σ' G => ∃ (v' : V) (us : List V) (pre : List Pt) (p2 : Pt), σ' = [some v', some (.ref pl)] ∧ PtAt K G k v' p2 ∧ Dr p2 ∧ G pl = some (.lst us) ∧ PtsAt K G k us pre ∧ partsA p = pre ++ partsA p2 ∧ szT p2 < szT (.t "and" [x, y]) ∧ us.length + szT p2 ≤ szT p ∧ Same H G, ?_, ?_⟩
          · rintro σ' G ⟨v', us, pre, p2, rfl, g1, g0, g2, g3, g4, g5, g6, g7⟩
            exact ⟨_, g5, v', us, pre, p2, rfl, g1, g0, g2, g3, g4, rfl, g6, g7⟩
          walk_at "sx"
          refine x_app hpl (szl (by omega)) ?_
          have sa2 := sqT_lst (o := .lst (us ++ [v1])) hpl sa
          walk_at "sx"
          refine ⟨v2, _, pre ++ [x], y, rfl, ?_, dr'.kids y (by simp), upd_same, ?_, by rw [e, partsA_and (by rfl), List.append_assoc]; rfl, by simp only [szT, szL]; omega, by rw [List.length_append, List.length_singleton]; omega, same_updf kG npl⟩
          · exact ((PtsAt.one ((pq.2 1 v2 y rfl rfl).up (by omega))).lst hpl).2 0 v2 y rfl rfl
          · exact (hus.append (.one ((pq.2 0 v1 x rfl rfl).up (by omega)))).lst hpl
      · have hn : namedP ["and"] 2 (.t nm ps) = false := by
          show (decide (nm ∈ [("and" : Str)]) && decide (ps.length = 2)) = false
          rw [decide_eq_false (fun h => c (congrArg V.str (List.mem_singleton.mp h))), Bool.false_and]
        walk_at "sx"
        rename_i o no
        refine x_cat (xs := us) (zs := [.ref a]) (by walk_at "hx") upd_same (sz (by show us.length + 1 ≤ _; omega)) fun b nb => ?_
        walk_at "sx"
        exact fin hn Q (fun a H' h1 h2 h3 h4 => q a _ H' h1 h2 h3 h4) _ _ no rfl b nb
theorem ok_law_range_ok {k : Nat} (F : Fun K "_law_range_ok" "_law_range_ok" s_law_range_ok f fd) (T : Txt mg) (C_law_capital : HasCap P w K mg base) (C_law_pair_ok : HasPairQ k P w K mg base) : FnOk P w K mg base CX0 (2 * k + 3) f fd ["thing"] (spL K k rangeP) := by
  refine F.ok sc_law_range_ok (fun vs H Q E h => ?_) (fun cdv A outer s H vs Q E hr h => ?_)
  · obtain ⟨v, p, rfl, _⟩ := h
    rfl
  obtain ⟨v, p, rfl, hp, dr, hz, q⟩ := h
  refine ⟨_, (pss_cons (ps_if (PW.pt (pw_or (pt_not (pt_val (pe_callB (call_isiKK (K := K)) (by rfl) T.z_isinstance (by decide +kernel) (pa_cons (pv 0) (pa_cons (pe_bltn (v := .ty "tuple") (by rfl) T.z_tuple (by decide +kernel) rfl) pa_nil))))) (pw_or1 (pt_cmpR op_ne (pe_ix (ix_tupK (K := K)) (pv 0) pe_int (fun _ _ => rfl)) pe_str (nomark _)))))
      (pss_one (ps_ret pe_bl))
      pss_nil)
    (pss_one (ps_ret (pe_and (pe_callH C_law_capital hr (pa_cons (pe_ix (ix_tupK (K := K)) (pv 0) pe_int (fun _ _ => rfl)) pa_nil) (hk := by omega)) (pe_one (pe_callH C_law_pair_ok hr (pa_cons (pe_ix (ix_tupK (K := K)) (pv 0) pe_int (fun _ _ => rfl)) (pa_cons (pe_lst (pa_cons pe_str pa_nil)) pa_nil)) (hk := by omega))))))), ?_⟩
  walk_at "sx"
  rcases hp.three with ⟨n, rfl, rfl⟩ | ⟨z, rfl, rfl⟩ | ⟨j, nm, ps, a, ys, ej, rfl, rfl, sa, pq⟩
  · refine x_isT (t := .type "int") (c := false) (.base (.int n)) (kit_ty (by decide +kernel)) ?_
    walk_at "sx"
    exact q _ (same_refl _)
  · refine x_isT (t := .type "str") (c := false) (.base (.str z)) (kit_ty (by decide +kernel)) ?_
    walk_at "sx"
    exact q _ (same_refl _)
  · refine x_isT (t := .type "tuple") (c := true) (ty_tup sa) (kit_ty (by decide +kernel)) ?_
    walk_at "sx"
    refine x_iteN (fun c => ?_) (fun c => ?_)
    · have e : rangeP (.t nm ps) = false := by
        show ((decide (nm ∈ [("in" : Str)]) && decide (ps.length = 2)) && _) = false
        rw [decide_eq_false (fun h => c (congrArg V.str (List.mem_singleton.mp h))), Bool.false_and, Bool.false_and]
      rw [e] at q
      walk_at "sx"
      exact q _ (same_refl _)
    · have en := V.str.inj c
      subst en
      have l2 : ps.length = 2 := by rw [dr.ar (by decide +kernel), if_neg (by decide +kernel)]
      match ps, ys, pq, l2 with
      | [x, y], [v1, v2], pq, _ =>
        have e1 : rangeP (.t "in" [x, y]) = (unk x && pairQ [".."] y) := rfl
        rw [e1] at q
        simp only [szT, szL] at hz
        have drx := dr.kids x (by simp)
        walk_at "sx"
        refine ⟨v1, j, x, rfl, pq.2 0 v1 x rfl rfl, (fun z e => by subst e; exact drx.okp), ?_⟩
        cases ex : unk x with
        | false =>
          rw [ex] at q
          walk_at "sx"
          exact q _ (same_refl _)
        | true =>
          rw [ex, Bool.true_and] at q
          walk_at "sx"
          rename_i l nl
          have sl := same_upd (o := .lst ([("..": Str)].map V.str)) nl
          exact ⟨v2, l, y, [".."], rfl, ((pq.2 1 v2 y rfl rfl).up (by omega)).same sl, upd_same, dr.kids y (by simp), by omega, fun H' s' => q _ (sl.trans s')⟩
end
end Gs
namespace Gs
open PySem PySem.Spec PyProof.Rows L2 TL SrtK
abbrev s_law_box_ok : Stmt := PySem.Challenge.pw_goalstead_k14_goals_by_their_shapes.main.body.getD 100 (.Pass ⟨0, 0, 0, 0⟩)
theorem sc_law_box_ok : FnScope ["thing", "ranges", "names", "barred", "one", "name"] ["thing"] (defScope s_law_box_ok) := ⟨rfl, rfl, rfl, by decide +kernel, rfl, by decide +kernel, by decide +kernel⟩
abbrev s_law_goal_ok : Stmt := PySem.Challenge.pw_goalstead_k14_goals_by_their_shapes.main.body.getD 101 (.Pass ⟨0, 0, 0, 0⟩)
theorem sc_law_goal_ok : FnScope ["thing", "signs", "tests", "one"] ["thing"] (defScope s_law_goal_ok) := ⟨rfl, rfl, rfl, by decide +kernel, rfl, by decide +kernel, by decide +kernel⟩
abbrev s_law_held : Stmt := PySem.Challenge.pw_goalstead_k14_goals_by_their_shapes.main.body.getD 102 (.Pass ⟨0, 0, 0, 0⟩)
theorem sc_law_held : FnScope ["bits", "held", "widest", "bit"] ["bits"] (defScope s_law_held) := ⟨rfl, rfl, rfl, by decide +kernel, rfl, by decide +kernel, by decide +kernel⟩
theorem range_in {r : Pt} (h : rangeP r = true) : ∃ z e, r = .t "in" [.s z, e] ∧ rname r = z ∧ kid 1 r = e := by
  have h' : (namedP ["in"] 2 r && (unk (kid 0 r) && spanP (kid 1 r))) = true := h
  rw [Bool.and_eq_true, Bool.and_eq_true] at h'
  obtain ⟨nm, a, b, rfl, hn⟩ := named2 h'.1
  rw [List.mem_singleton] at hn
  subst hn
  cases a with
  | i n => cases h'.2.1
  | t nm ps => cases h'.2.1
  | s z => exact ⟨z, b, rfl, rfl, rfl⟩
/-- goals by their first names -/
theorem goal_no {p : Pt} (h : isTup p = false) : goalP p = relP p := by
  cases p with
  | t nm ps => cases h
  | i n =>
    have e : boxP (.i n) = false := rfl
    unfold goalP
    rw [show notP (.i n) = false from rfl, show likeP (.i n) = false from rfl, show reckP (.i n) = false from rfl, show testP (.i n) = false from rfl, show fieldQ (.i n) = false from e]
    simp
  | s z =>
    have e : boxP (.s z) = false := rfl
    unfold goalP
    rw [show notP (.s z) = false from rfl, show likeP (.s z) = false from rfl, show reckP (.s z) = false from rfl, show testP (.s z) = false from rfl, show fieldQ (.s z) = false from e]
    simp
theorem named_off {ns : List Str} {m : Nat} {nm : Str} {ps : List Pt} (h : nm ∉ ns) : namedP ns m (.t nm ps) = false := by
  show (decide (nm ∈ ns) && decide (ps.length = m)) = false
  rw [decide_eq_false h, Bool.false_and]
theorem box_off {nm : Str} {ps : List Pt} (h1 : nm ≠ ("and" : Str)) (h2 : nm ≠ ("in" : Str)) : boxP (.t nm ps) = false := by
  have e : partsA (.t nm ps) = [.t nm ps] := partsA_one (named_off fun h => h1 (List.mem_singleton.mp h))
  have r : rangeP (.t nm ps) = false := by
    show (namedP ["in"] 2 (.t nm ps) && _) = false
    rw [named_off fun h => h2 (List.mem_singleton.mp h), Bool.false_and]
  unfold boxP
  rw [e, List.all_cons, r, Bool.false_and, Bool.false_and, Bool.false_and]
theorem field_off {nm : Str} {ps : List Pt} (h0 : nm ≠ ("such" : Str)) : fieldQ (.t nm ps) = boxP (.t nm ps) := by
  unfold fieldQ
  rw [named_off fun h => h0 (List.mem_singleton.mp h)]
  rfl
/-- the law's own cases -/
def goalQ (nm : Str) (ps : List Pt) : Bool :=
  if nm = "not" then relP (kid 0 (.t nm ps)) else if nm = "=" then !hasK (kid 0 (.t nm ps)) && !hasK (kid 1 (.t nm ps)) else if nm = "is" then !hasK (kid 0 (.t nm ps)) && sumP (kid 1 (.t nm ps)) else
    if nm = "such" then boxP (kid 0 (.t nm ps)) && (decide ((partsA (kid 1 (.t nm ps))).length < 5) && ((partsA (kid 1 (.t nm ps))).map fun p => pairQ tests4 p).all id) else pairQ tests4 (.t nm ps) || boxP (.t nm ps)
theorem testP_eq (p : Pt) : testP p = pairQ tests4 p := rfl
theorem goal_tup {nm : Str} {ps : List Pt} (d : Dr (.t nm ps)) (hr : relP (.t nm ps) = false) : goalP (.t nm ps) = goalQ nm ps := by
  unfold goalP goalQ
  rw [hr, Bool.false_or]
  have ar := fun h => d.ar (nm := nm) h
  by_cases h1 : nm = "not"
  · subst h1
    have l1 : ps.length = 1 := by rw [ar (by decide +kernel), if_pos rfl]
    rw [if_pos rfl, field_off (by decide +kernel), box_off (by decide +kernel) (by decide +kernel)]
    have e1 : notP (.t "not" ps) = relP (kid 0 (.t "not" ps)) := by
      show ((decide (("not" : Str) ∈ [("not" : Str)]) && decide (ps.length = 1)) && _) = _
      rw [l1]
      rfl
    have e2 : likeP (.t "not" ps) = false := by
      show (namedP ["="] 2 (.t "not" ps) && _) = false
      rw [named_off (by decide +kernel), Bool.false_and]
    have e3 : reckP (.t "not" ps) = false := by
      show (namedP ["is"] 2 (.t "not" ps) && _) = false
      rw [named_off (by decide +kernel), Bool.false_and]
    have e4 : testP (.t "not" ps) = false := by
      show (namedP tests4 2 (.t "not" ps) && _) = false
      rw [named_off (by decide +kernel), Bool.false_and]
    rw [e1, e2, e3, e4]
    simp
  · rw [if_neg h1]
    have e1 : notP (.t nm ps) = false := by
      show (namedP ["not"] 1 (.t nm ps) && _) = false
      rw [named_off (fun h => h1 (List.mem_singleton.mp h)), Bool.false_and]
    rw [e1, Bool.false_or]
    by_cases h2 : nm = "="
    · subst h2
      have l2 : ps.length = 2 := by rw [ar (by decide +kernel), if_neg (by decide +kernel)]
      rw [if_pos rfl, field_off (by decide +kernel), box_off (by decide +kernel) (by decide +kernel)]
      have e2 : likeP (.t "=" ps) = (!hasK (kid 0 (.t "=" ps)) && !hasK (kid 1 (.t "=" ps))) := by
        show ((decide (("=" : Str) ∈ [("=" : Str)]) && decide (ps.length = 2)) && _) = _
        rw [l2]
        rfl
      have e3 : reckP (.t "=" ps) = false := by
        show (namedP ["is"] 2 (.t "=" ps) && _) = false
        rw [named_off (by decide +kernel), Bool.false_and]
      have e4 : testP (.t "=" ps) = false := by
        show (namedP tests4 2 (.t "=" ps) && _) = false
        rw [named_off (by decide +kernel), Bool.false_and]
      rw [e2, e3, e4]
      simp
    · rw [if_neg h2]
      have e2 : likeP (.t nm ps) = false := by
        show (namedP ["="] 2 (.t nm ps) && _) = false
        rw [named_off (fun h => h2 (List.mem_singleton.mp h)), Bool.false_and]
      rw [e2, Bool.false_or]
      by_cases h3 : nm = "is"
      · subst h3
        have l2 : ps.length = 2 := by rw [ar (by decide +kernel), if_neg (by decide +kernel)]
        rw [if_pos rfl, field_off (by decide +kernel), box_off (by decide +kernel) (by decide +kernel)]
        have e3 : reckP (.t "is" ps) = (!hasK (kid 0 (.t "is" ps)) && sumP (kid 1 (.t "is" ps))) := by
          show ((decide (("is" : Str) ∈ [("is" : Str)]) && decide (ps.length = 2)) && _) = _
          rw [l2]
          rfl
        have e4 : testP (.t "is" ps) = false := by
          show (namedP tests4 2 (.t "is" ps) && _) = false
          rw [named_off (by decide +kernel), Bool.false_and]
        rw [e3, e4]
        simp
      · rw [if_neg h3]
        have e3 : reckP (.t nm ps) = false := by
          show (namedP ["is"] 2 (.t nm ps) && _) = false
          rw [named_off (fun h => h3 (List.mem_singleton.mp h)), Bool.false_and]
        rw [e3, Bool.false_or]
        by_cases h4 : nm = "such"
        · subst h4
          have l2 : ps.length = 2 := by rw [ar (by decide +kernel), if_neg (by decide +kernel)]
          rw [if_pos rfl]
          have e4 : testP (.t "such" ps) = false := by
            show (namedP tests4 2 (.t "such" ps) && _) = false
            rw [named_off (by decide +kernel), Bool.false_and]
          have e5 : fieldQ (.t "such" ps) = (boxP (kid 0 (.t "such" ps)) && testsP (kid 1 (.t "such" ps))) := by
            unfold fieldQ
            rw [if_pos]
            show (decide (("such" : Str) ∈ [("such" : Str)]) && decide (ps.length = 2)) = true
            rw [l2]
            rfl
          rw [e4, e5, Bool.false_or]
          congr 1
          unfold testsP
          rw [Bool.and_comm]
          congr 1
          · rw [decide_eq_decide]
            omega
          · rw [List.all_map]
            rfl
        · rw [if_neg h4, field_off h4, testP_eq]
theorem partsN_pos : ∀ (n : Nat) (p : Pt), 0 < (partsN n p).length
  | 0, p => by simp [partsN]
  | n + 1, p => by
    rw [partsN]
    split <;> simp
theorem partsN_szL : ∀ (n : Nat) (p : Pt), szL (partsN n p) ≤ szT p
  | 0, p => by simp [partsN, szL]
  | n + 1, p => by
    rw [partsN]
    split
    · rename_i c
      obtain ⟨nm, a, b, rfl, _⟩ := named2 c
      have := partsN_szL n b
      show szT a + szL (partsN n b) ≤ szT (.t nm [a, b])
      simp only [szT, szL]
      omega
    · simp [szL]
theorem kids_szL : ∀ rs : List Pt, szL (rs.map (kid 1)) ≤ szL rs
  | [] => Nat.le_refl _
  | r :: t => by
    have := kids_szL t
    have : szT (kid 1 r) ≤ szT r := by
      cases r with
      | i n => exact Nat.le_refl _
      | s z => exact Nat.le_refl _
      | t nm ps =>
        show szT (ps.getD 1 (.i 0)) ≤ _
        rw [List.getD_eq_getElem?_getD, szT]
        cases e : ps[1]? with
        | none => show 1 ≤ _; omega
        | some x =>
          have := szL_mem20 (List.mem_of_getElem? e)
          show szT x ≤ _
          omega
    simp only [List.map_cons, szL]
    omega
theorem tx_all (zs : List Str) : AllAt (fun v (z : Str) => v = .str z) (zs.map V.str) zs := by
  refine ⟨List.length_map .., fun i v z h1 h2 => ?_⟩
  rw [List.getElem?_map, h2] at h1
  exact (Option.some.inj h1).symm
theorem PtAt.strv {K : PySem.W.Frag} {H : Hp} {k : Nat} {v : V} {z : Str} (h : PtAt K H k v (.s z)) : v = .str z := by
  rcases h.three with ⟨n, _, e⟩ | ⟨z', ev, e⟩ | ⟨j, nm', ps, r, ys, ej, ev, e, sa, pq⟩
  · cases e
  · cases e
    exact ev
  · cases e
section
variable {P : Program} {w : World} {K : PySem.W.Frag} {mg : Str → Option Value} {base : Heap} {f : Addr} {fd : FuncData}
theorem ok_law_box_ok {k : Nat} (F : Fun K "_law_box_ok" "_law_box_ok" s_law_box_ok f fd) (T : Txt mg) (C_law_parted : HasParted k P w K mg base) (C_law_range_ok : HasL (2 * k + 3) "_law_range_ok" k rangeP P w K mg base) (C_law_names : HasNames15 (k + 1) P w K mg base) : FnOk P w K mg base CX0 (2 * k + 4) f fd ["thing"] (spL K k boxP) := by
  refine F.ok sc_law_box_ok (fun vs H Q E h => ?_) (fun cdv A outer s H vs Q E hr h => ?_)
  · obtain ⟨v, p, rfl, _⟩ := h
    rfl
  obtain ⟨v, p, rfl, hp, dr, hz, q⟩ := h
  refine ⟨_, (pss_cons (ps_set (i := 1) sc_law_box_ok.nd rfl (Or.inl rfl) (pe_callH C_law_parted hr (pa_cons (pv 0) pa_nil) (hk := by omega)))
    (pss_cons (ps_if (PW.pt (pw_or (pt_cmpR op_gt (pe_callB (call_lenK (K := K)) (by rfl) T.z_len (by decide +kernel) (pa_cons (pv 1) pa_nil)) pe_int (nomark _)) (pw_or1 (pt_not (pt_val (pe_callB (cr_allK (K := K) rfl) (by rfl) T.z_all (by decide +kernel) (pa_cons (pe_lc (own := [("one", 4)]) (g := gName 4) (tt := tYes) rfl sc_law_box_ok.nd (pi_list (pv 1)) (blkOk_by (own := [("one", 4)]) (N := ["thing", "ranges", "names", "barred", "one", "name"]) (sc := defScope s_law_box_ok) (by decide +kernel)) (fun _ _ _ _ _ => pg_name (i := 4) sc_law_box_ok.nd rfl (Or.inl rfl)) (fun _ _ _ _ _ => pts_nil) (fun _ _ _ _ _ => (pe_callH C_law_range_ok hr (pa_cons (pv 4) pa_nil) (hk := by omega)))) pa_nil)))))))
      (pss_one (ps_ret pe_bl))
      pss_nil)
    (pss_cons (ps_set (i := 2) sc_law_box_ok.nd rfl (Or.inr rfl) (pe_lc (own := [("one", 4)]) (g := gName 4) (tt := tYes) rfl sc_law_box_ok.nd (pi_list (pv 1)) (blkOk_by (own := [("one", 4)]) (N := ["thing", "ranges", "names", "barred", "one", "name"]) (sc := defScope s_law_box_ok) (by decide +kernel)) (fun _ _ _ _ _ => pg_name (i := 4) sc_law_box_ok.nd rfl (Or.inl rfl)) (fun _ _ _ _ _ => pts_nil) (fun _ _ _ _ _ => (pe_ix (ix_tupK (K := K)) (pv 4) pe_int (fun _ _ => rfl)))))
    (pss_cons (ps_set (i := 3) sc_law_box_ok.nd rfl (Or.inr rfl) (pe_callH C_law_names hr (pa_cons (pe_op (op_catAK (K := K)) (pe_tup (pa_cons pe_str pa_nil)) (pe_callTy call_tuple_of (by rfl) T.z_tuple (by decide +kernel) (pa_cons (pe_lc (own := [("one", 4)]) (g := gName 4) (tt := tYes) rfl sc_law_box_ok.nd (pi_list (pv 1)) (blkOk_by (own := [("one", 4)]) (N := ["thing", "ranges", "names", "barred", "one", "name"]) (sc := defScope s_law_box_ok) (by decide +kernel)) (fun _ _ _ _ _ => pg_name (i := 4) sc_law_box_ok.nd rfl (Or.inl rfl)) (fun _ _ _ _ _ => pts_nil) (fun _ _ _ _ _ => (pe_ix (ix_tupK (K := K)) (pv 4) pe_int (fun _ _ => rfl)))) pa_nil))) pa_nil) (hk := by omega)))
    (pss_one (ps_ret (pe_callB (cr_allK (K := K) rfl) (by rfl) T.z_all (by decide +kernel) (pa_cons (pe_lc (own := [("name", 5)]) (g := gName 5) (tt := tYes) rfl sc_law_box_ok.nd (pi_list (pv 2)) (blkOk_by (own := [("name", 5)]) (N := ["thing", "ranges", "names", "barred", "one", "name"]) (sc := defScope s_law_box_ok) (by decide +kernel)) (fun _ _ _ _ _ => pg_name (i := 5) sc_law_box_ok.nd rfl (Or.inl rfl)) (fun _ _ _ _ _ => pts_nil) (fun _ _ _ _ _ => (pe_and (pe_cmpR op_eq (pe_bmK (K := K) PySem.F.plainAttrs_list PySem.F.slot_list_count PySem.F.type_list_count (mt_countK (K := K) hr) (pv 2) (pa_cons (pv 5) pa_nil)) pe_int (nomark _)) (pe_one (pe_cmpR (op_notInK (K := K)) (pv 5) (pv 3) (by first | exact nomark _ | rfl)))))) pa_nil)))))))), ?_⟩
  walk_at "sx"
  refine ⟨v, p, rfl, hp, dr, hz, fun a us G na sG ea hu => ?_⟩
  have hlen := partsN_len (szT p) p
  have hmem : ∀ u ∈ partsA p, Dr u ∧ szT u ≤ szT p := fun u h => ⟨dr_parts (szT p) p u h dr, (partsN_sub (szT p) p u h).2.1⟩
  have hlen' : (partsA p).length ≤ szT p := hlen
  have hl1 := hu.1
  have off3 : 3 < (partsA p).length → boxP p = false := fun h => by
    unfold boxP
    rw [decide_eq_true h, Bool.true_or]
    simp
  have offr : (partsA p).all rangeP = false → boxP p = false := fun h => by
    unfold boxP
    rw [h, Bool.false_and, Bool.false_and]
  walk_at "sx"
  refine x_ite (fun c => ?_) (fun c => ?_)
  · have c' : (3 : Int) < ((us.length : Nat) : Int) := c
    walk_at "sx"
    rw [off3 (by omega)] at q
    exact q _ sG
  have c' : ¬ (3 : Int) < ((us.length : Nat) : Int) := c
  have h3 : ¬ 3 < (partsA p).length := by omega
  walk_at "sx"
  refine x_lcML (K := K) (R := fun H v p => PtAt K H k v p) (S := fun _ v (b : Bool) => v = .bl b) rangeP (.of ea) (fun G' s' => .of (s' _ _ ea)) ⟨hu.1, hu.2⟩ (fun s h => h.same s) (fun _ _ _ _ _ h => h) (by omega) (fun G3 v x sG3 hx hv Q' P' q' => ?_) (fun D G3 ws nD sG3 eD hw => ?_)
  · obtain ⟨dx, zx⟩ := hmem x hx
    walk_at "sx"
    refine ⟨rfl, ?_⟩
    walk_at "sx"
    exact ⟨v, x, rfl, hv, dx, by omega, fun G4 s4 => q' _ _ s4 rfl⟩
  rw [all_bl ⟨hw.1, hw.2⟩] at eD
  walk_at "sx"
  refine ⟨D, _, rfl, .of eD, ?_⟩
  have ea3 := sG3 _ _ ea
  have hu3 := hu.same sG3
  have s03 := sG.trans sG3
  cases hall : (partsA p).all rangeP with
  | false =>
    have e : ((partsA p).map rangeP).all id = false := by
      rw [List.all_map]
      exact hall
    rw [e]
    walk_at "sx"
    rw [offr hall] at q
    exact q _ s03
  | true =>
    have e : ((partsA p).map rangeP).all id = true := by
      rw [List.all_map]
      exact hall
    rw [e]
    rw [box_law h3 hall] at q
    walk_at "sx"
    have hin : ∀ r ∈ partsA p, ∃ z e, r = .t "in" [.s z, e] ∧ rname r = z ∧ kid 1 r = e := fun r hr => range_in (List.all_eq_true.mp hall r hr)
    refine x_lcML (K := K) (R := fun H v p => PtAt K H k v p) (S := fun _ v (z : Str) => v = .str z) rname (.of ea3) (fun G' s' => .of (s' _ _ ea3)) ⟨hu3.1, hu3.2⟩ (fun s h => h.same s) (fun _ _ _ _ _ h => h) (by omega) (fun G4 v x sG4 hx hv Q' P' q' => ?_) (fun D2 G4 ns nD2 sG4 eD2 hn => ?_)
    · obtain ⟨z, e, rfl, hz1, _⟩ := hin x hx
      obtain ⟨j, r, x1, y1, _, rfl, sa, h1, h2⟩ := hv.two
      walk_at "sx"
      refine ⟨rfl, ?_⟩
      walk_at "sx"
      exact q' _ _ (same_refl _) (by rw [hz1]; exact PtAt.strv h1)
    rw [all_tx ⟨hn.1, hn.2⟩] at eD2
    have ea4 := sG4 _ _ ea3
    have hu4 := hu3.same sG4
    have s04 := s03.trans sG4
    walk_at "sx"
    rename_i t1 nt1
    have st1 := same_upd (o := .tup [.str (".." : Str)]) nt1
    have ea5 := st1 _ _ ea4
    have hu5 := hu4.same st1
    have eD5 := st1 _ _ eD2
    refine x_lcML (K := K) (R := fun H v p => PtAt K H k v p) (S := fun H v p => PtAt K H k v p) (kid 1) (.of ea5) (fun G' s' => .of (s' _ _ ea5)) ⟨hu5.1, hu5.2⟩ (fun s h => h.same s) (fun _ _ _ _ g h => h.mono g) (by omega) (fun G6 v x sG6 hx hv Q' P' q' => ?_) (fun D3 G6 es nD3 sG6 eD3 he => ?_)
    · obtain ⟨z, e, rfl, _, hk1⟩ := hin x hx
      obtain ⟨j, r, x1, y1, ej, rfl, sa, h1, h2⟩ := hv.two
      walk_at "sx"
      refine ⟨rfl, ?_⟩
      walk_at "sx"
      exact q' _ _ (same_refl _) (by rw [hk1]; exact h2.up (by omega))
    walk_at "sx"
    have et6 := sG6 _ _ (show upd G4 t1 (.tup [.str (".." : Str)]) t1 = some (.tup [.str (".." : Str)]) from upd_same)
    have lpp := partsN_pos (szT p) p
    have lps : 0 < (partsA p).length := lpp
    have hle := he.1
    rw [List.length_map] at hle
    refine ⟨D3, es, rfl, .inl ⟨.of eD3, fun t2 nt2 => ?_⟩⟩
    refine x_catA (xs := [.str (".." : Str)]) (ys := es) (sqT_new nt2 (.of et6)) (.of upd_same) (sz (by show 1 + es.length ≤ _; omega)) fun tr G7 k7 sr => ?_
    have s67 : Same G6 G7 := (same_upd nt2).trans k7
    have s07 : Same G4 G7 := (st1.trans sG6).trans s67
    have eD7 := s07 _ _ eD2
    have zsl : szL ((partsA p).map (kid 1)) ≤ szT p := Nat.le_trans (kids_szL _) (partsN_szL (szT p) p)
    walk_at "sx"
    have pes : PtsAt K G7 k es ((partsA p).map (kid 1)) := PtsAt.same (r := ⟨he.1, he.2⟩) s67
    refine ⟨.ref tr, .t ".." ((partsA p).map (kid 1)), rfl, .tup sr pes, ⟨trivial, by rw [List.length_map]; omega, by rw [List.length_map]; omega, okL_mem.mpr fun e he => ?_⟩, by rw [szT]; omega, fun B G8 nB s8 hB => ?_⟩
    · obtain ⟨r, hr, rfl⟩ := List.mem_map.mp he
      obtain ⟨z, e, rfl, _, hk1⟩ := hin r hr
      rw [hk1]
      exact ((hmem _ hr).1.kids e (by simp)).okp
    rw [nmT] at hB
    have eD8 := s8 _ _ eD7
    have s08 := (s04.trans s07).trans s8
    generalize hbl : nmL ((partsA p).map (kid 1)) = bls at *
    generalize hns : (partsA p).map rname = nms at *
    have lnm : nms.length ≤ 1000 := by rw [← hns, List.length_map]; omega
    walk_at "sx"
    refine x_lcML (K := K) (R := fun _ v (z : Str) => v = .str z) (S := fun _ v (b : Bool) => v = .bl b) (fun z => decide ((nms.count z : Int) = 1) && !decide (z ∈ bls)) (.of eD8) (fun G' s' => .of (s' _ _ eD8)) (tx_all nms) (fun _ h => h) (fun _ _ _ _ _ h => h) (by omega) (fun G9 v x sG9 hx hv Q' P' q' => ?_) (fun D4 G9 ws nD4 sG9 eD4 hw => ?_)
    · have hv : v = .str x := hv
      subst hv
      walk_at "sx"
      refine ⟨rfl, ?_⟩
      walk_at "sx"
      refine x_tyL (.of (sG9 _ _ eD8)) ?_
      walk_at "sx"
      refine x_cntS (.of (sG9 _ _ eD8)) ?_
      walk_at "sx"
      have ec : decide (V.int ((nms.count x : Nat) : Int) = V.int 1) = decide ((nms.count x : Int) = 1) := by
        rw [decide_eq_decide]
        exact ⟨V.int.inj, congrArg V.int⟩
      rw [ec]
      cases h1 : decide ((nms.count x : Int) = 1) with
      | false =>
        walk_at "sx"
        exact q' _ _ (same_refl _) (by rw [h1]; rfl)
      | true =>
        walk_at "sx"
        refine ⟨B, _, rfl, .inl (.of (sG9 _ _ hB)), rfl, by rw [List.all_map]; exact List.all_eq_true.mpr fun x _ => rfl, ?_⟩
        rw [if_pos rfl, inV_strs]
        exact q' _ _ (same_refl _) (by rw [h1]; rfl)
    rw [all_bl ⟨hw.1, hw.2⟩] at eD4
    walk_at "sx"
    exact ⟨D4, _, rfl, .of eD4, q _ (s08.trans sG9)⟩
theorem ok_law_goal_ok {k : Nat} (F : Fun K "_law_goal_ok" "_law_goal_ok" s_law_goal_ok f fd) (T : Txt mg) (C_law_keptless : HasL (k + 2) "_law_keptless" k (fun p => !hasK p) P w K mg base) (C_law_sum_ok : HasL (2 * k + 3) "_law_sum_ok" k sumP P w K mg base) (C_law_pair_ok : HasPairQ k P w K mg base) (C_law_asked_ok : HasL (k + 3) "_law_asked_ok" k relP P w K mg base) (C_law_parted : HasParted k P w K mg base) (C_law_box_ok : HasL (2 * k + 4) "_law_box_ok" k boxP P w K mg base) : FnOk P w K mg base CX0 (2 * k + 5) f fd ["thing"] (spL K k goalP) := by
  refine F.ok sc_law_goal_ok (fun vs H Q E h => ?_) (fun cdv A outer s H vs Q E hr h => ?_)
  · obtain ⟨v, p, rfl, _⟩ := h
    rfl
  obtain ⟨v, p, rfl, hp, dr, hz, q⟩ := h
  refine ⟨_, (pss_cons (ps_set (i := 1) sc_law_goal_ok.nd rfl (Or.inr rfl) (pe_lst (pa_cons pe_str (pa_cons pe_str (pa_cons pe_str (pa_cons pe_str pa_nil))))))
    (pss_cons (ps_if (pt_val (pe_callH C_law_asked_ok hr (pa_cons (pv 0) pa_nil) (hk := by omega)))
      (pss_one (ps_ret pe_bl))
      pss_nil)
    (pss_cons (ps_if (pt_not (pt_val (pe_callB (call_isiKK (K := K)) (by rfl) T.z_isinstance (by decide +kernel) (pa_cons (pv 0) (pa_cons (pe_bltn (v := .ty "tuple") (by rfl) T.z_tuple (by decide +kernel) rfl) pa_nil)))))
      (pss_one (ps_ret pe_bl))
      pss_nil)
    (pss_cons (ps_if (pt_cmpR op_eq (pe_ix (ix_tupK (K := K)) (pv 0) pe_int (fun _ _ => rfl)) pe_str (nomark _))
      (pss_one (ps_ret (pe_callH C_law_asked_ok hr (pa_cons (pe_ix (ix_tupK (K := K)) (pv 0) pe_int (fun _ _ => rfl)) pa_nil) (hk := by omega))))
      pss_nil)
    (pss_cons (ps_if (pt_cmpR op_eq (pe_ix (ix_tupK (K := K)) (pv 0) pe_int (fun _ _ => rfl)) pe_str (nomark _))
      (pss_one (ps_ret (pe_and (pe_callH C_law_keptless hr (pa_cons (pe_ix (ix_tupK (K := K)) (pv 0) pe_int (fun _ _ => rfl)) pa_nil) (hk := by omega)) (pe_one (pe_callH C_law_keptless hr (pa_cons (pe_ix (ix_tupK (K := K)) (pv 0) pe_int (fun _ _ => rfl)) pa_nil) (hk := by omega))))))
      pss_nil)
    (pss_cons (ps_if (pt_cmpR op_eq (pe_ix (ix_tupK (K := K)) (pv 0) pe_int (fun _ _ => rfl)) pe_str (nomark _))
      (pss_one (ps_ret (pe_and (pe_callH C_law_keptless hr (pa_cons (pe_ix (ix_tupK (K := K)) (pv 0) pe_int (fun _ _ => rfl)) pa_nil) (hk := by omega)) (pe_one (pe_callH C_law_sum_ok hr (pa_cons (pe_ix (ix_tupK (K := K)) (pv 0) pe_int (fun _ _ => rfl)) pa_nil) (hk := by omega))))))
      pss_nil)
    (pss_cons (ps_if (pt_cmpR op_eq (pe_ix (ix_tupK (K := K)) (pv 0) pe_int (fun _ _ => rfl)) pe_str (nomark _))
      (pss_cons (ps_set (i := 2) sc_law_goal_ok.nd rfl (Or.inl rfl) (pe_callH C_law_parted hr (pa_cons (pe_ix (ix_tupK (K := K)) (pv 0) pe_int (fun _ _ => rfl)) pa_nil) (hk := by omega)))
    (pss_one (ps_ret (pe_and (pe_callH C_law_box_ok hr (pa_cons (pe_ix (ix_tupK (K := K)) (pv 0) pe_int (fun _ _ => rfl)) pa_nil) (hk := by omega)) (pe_and (pe_cmpR op_lt (pe_callB (call_lenK (K := K)) (by rfl) T.z_len (by decide +kernel) (pa_cons (pv 2) pa_nil)) pe_int (nomark _)) (pe_one (pe_callB (cr_allK (K := K) rfl) (by rfl) T.z_all (by decide +kernel) (pa_cons (pe_lc (own := [("one", 3)]) (g := gName 3) (tt := tYes) rfl sc_law_goal_ok.nd (pi_list (pv 2)) (blkOk_by (own := [("one", 3)]) (N := ["thing", "signs", "tests", "one"]) (sc := defScope s_law_goal_ok) (by decide +kernel)) (fun _ _ _ _ _ => pg_name (i := 3) sc_law_goal_ok.nd rfl (Or.inl rfl)) (fun _ _ _ _ _ => pts_nil) (fun _ _ _ _ _ => (pe_callH C_law_pair_ok hr (pa_cons (pv 3) (pa_cons (pv 1) pa_nil)) (hk := by omega)))) pa_nil))))))))
      pss_nil)
    (pss_one (ps_ret (pe_or (pe_callH C_law_pair_ok hr (pa_cons (pv 0) (pa_cons (pv 1) pa_nil)) (hk := by omega)) (pe_one (pe_callH C_law_box_ok hr (pa_cons (pv 0) pa_nil) (hk := by omega))))))))))))), ?_⟩
  walk_at "sx"
  rename_i l nl
  have sl := same_upd (o := .lst (tests4.map V.str)) nl
  have el : upd H l (.lst (tests4.map V.str)) l = some (.lst (tests4.map V.str)) := upd_same
  have eqH : upd H l (.lst [V.str ("<" : Str), V.str ("=<" : Str), V.str ("==" : Str), V.str ("=/=" : Str)]) = upd H l (.lst (tests4.map V.str)) := rfl
  rw [eqH]
  generalize upd H l (.lst (tests4.map V.str)) = H0 at *
  have hp0 := hp.same sl
  refine ⟨v, p, rfl, hp0, dr, hz, fun G s1 => ?_⟩
  have s01 := sl.trans s1
  have el1 := s1 _ _ el
  have hp1 := hp0.same s1
  cases hr1 : relP p with
  | true =>
    walk_at "sx"
    rw [goal_rel hr1] at q
    exact q _ s01
  | false =>
    walk_at "sx"
    rcases id hp1.three with ⟨n, rfl, rfl⟩ | ⟨z, rfl, rfl⟩ | ⟨j, nm, ps, a, ys, ej, rfl, rfl, sa, pq⟩
    · refine x_isT (t := .type "int") (c := false) (.base (.int n)) (kit_ty (by decide +kernel)) ?_
      walk_at "sx"
      rw [goal_no rfl, hr1] at q
      exact q _ s01
    · refine x_isT (t := .type "str") (c := false) (.base (.str z)) (kit_ty (by decide +kernel)) ?_
      walk_at "sx"
      rw [goal_no rfl, hr1] at q
      exact q _ s01
    · refine x_isT (t := .type "tuple") (c := true) (ty_tup sa) (kit_ty (by decide +kernel)) ?_
      rw [goal_tup dr hr1] at q
      unfold goalQ at q
      have ar := fun h => dr.ar (nm := nm) h
      walk_at "sx"
      refine x_ite (fun c => ?_) (fun c => ?_)
      · have en := V.str.inj c
        subst en
        rw [if_pos rfl] at q
        have l1 : ps.length = 1 := by rw [ar (by decide +kernel), if_pos rfl]
        match ps, ys, pq, l1 with
        | [x], [v1], pq, _ =>
          simp only [szT, szL] at hz
          walk_at "sx"
          exact ⟨v1, x, rfl, (pq.2 0 v1 x rfl rfl).up (by omega), dr.kids x (by simp), by omega, fun H' s' => q _ (s01.trans s')⟩
      have n1 : nm ≠ ("not" : Str) := fun e => c (congrArg V.str e)
      rw [if_neg n1] at q
      walk_at "sx"
      refine x_ite (fun c2 => ?_) (fun c2 => ?_)
      · have en := V.str.inj c2
        subst en
        rw [if_pos rfl] at q
        have l2 : ps.length = 2 := by rw [ar (by decide +kernel), if_neg (by decide +kernel)]
        match ps, ys, pq, l2 with
        | [x, y], [v1, v2], pq, _ =>
          simp only [szT, szL] at hz
          have q : ∀ H', Same H H' → Q (.bl (!hasK x && !hasK y)) H' := q
          walk_at "sx"
          refine ⟨v1, x, rfl, (pq.2 0 v1 x rfl rfl).up (by omega), dr.kids x (by simp), by omega, fun G2 s2 => ?_⟩
          have sa2 := Same.sqT s2 sa
          cases hk : (fun p => !hasK p) x with
          | false =>
            have hk : (!hasK x) = false := hk
            rw [hk] at q
            walk_at "sx"
            exact q _ (s01.trans s2)
          | true =>
            have hk : (!hasK x) = true := hk
            rw [hk, Bool.true_and] at q
            walk_at "sx"
            exact ⟨v2, y, rfl, ((pq.2 1 v2 y rfl rfl).up (by omega)).same s2, dr.kids y (by simp), by omega, fun H' s' => q _ ((s01.trans s2).trans s')⟩
      have n2 : nm ≠ ("=" : Str) := fun e => c2 (congrArg V.str e)
      rw [if_neg n2] at q
      walk_at "sx"
      refine x_ite (fun c3 => ?_) (fun c3 => ?_)
      · have en := V.str.inj c3
        subst en
        rw [if_pos rfl] at q
        have l2 : ps.length = 2 := by rw [ar (by decide +kernel), if_neg (by decide +kernel)]
        match ps, ys, pq, l2 with
        | [x, y], [v1, v2], pq, _ =>
          simp only [szT, szL] at hz
          have q : ∀ H', Same H H' → Q (.bl (!hasK x && sumP y)) H' := q
          walk_at "sx"
          refine ⟨v1, x, rfl, (pq.2 0 v1 x rfl rfl).up (by omega), dr.kids x (by simp), by omega, fun G2 s2 => ?_⟩
          have sa2 := Same.sqT s2 sa
          cases hk : (fun p => !hasK p) x with
          | false =>
            have hk : (!hasK x) = false := hk
            rw [hk] at q
            walk_at "sx"
            exact q _ (s01.trans s2)
          | true =>
            have hk : (!hasK x) = true := hk
            rw [hk, Bool.true_and] at q
            walk_at "sx"
            exact ⟨v2, y, rfl, ((pq.2 1 v2 y rfl rfl).up (by omega)).same s2, dr.kids y (by simp), by omega, fun H' s' => q _ ((s01.trans s2).trans s')⟩
      have n3 : nm ≠ ("is" : Str) := fun e => c3 (congrArg V.str e)
      rw [if_neg n3] at q
      walk_at "sx"
      refine x_ite (fun c4 => ?_) (fun c4 => ?_)
      · have en := V.str.inj c4
        subst en
        rw [if_pos rfl] at q
        have l2 : ps.length = 2 := by rw [ar (by decide +kernel), if_neg (by decide +kernel)]
        match ps, ys, pq, l2 with
        | [x, y], [v1, v2], pq, _ =>
          simp only [szT, szL] at hz
          have q : ∀ H', Same H H' → Q (.bl (boxP x && (decide ((partsA y).length < 5) && ((partsA y).map fun p => pairQ tests4 p).all id))) H' := q
          have dx := dr.kids x (by simp)
          have dy := dr.kids y (by simp)
          walk_at "sx"
          refine ⟨v2, y, rfl, (pq.2 1 v2 y rfl rfl).up (by omega), dy, by omega, fun b us G2 nb s2 eb hu => ?_⟩
          have sa2 := Same.sqT s2 sa
          have el2 := s2 _ _ el1
          have hlen := partsN_len (szT y) y
          have hlen' : (partsA y).length ≤ szT y := hlen
          have hl1 := hu.1
          have hmem : ∀ u ∈ partsA y, Dr u ∧ szT u ≤ szT y := fun u h => ⟨dr_parts (szT y) y u h dy, (partsN_sub (szT y) y u h).2.1⟩
          walk_at "sx"
          refine ⟨v1, x, rfl, ((pq.2 0 v1 x rfl rfl).up (by omega)).same s2, dx, by omega, fun G3 s3 => ?_⟩
          have s03 := (s01.trans s2).trans s3
          cases hb : boxP x with
          | false =>
            rw [hb] at q
            walk_at "sx"
            exact q _ s03
          | true =>
            rw [hb, Bool.true_and] at q
            have eb3 := s3 _ _ eb
            have el3 := s3 _ _ el2
            have hu3 := hu.same s3
            walk_at "sx"
            have ed : decide (((us.length : Nat) : Int) < 5) = decide ((partsA y).length < 5) := by
              rw [decide_eq_decide]
              omega
            rw [ed]
            cases h5 : decide ((partsA y).length < 5) with
            | false =>
              rw [h5] at q
              walk_at "sx"
              exact q _ s03
            | true =>
              rw [h5, Bool.true_and] at q
              walk_at "sx"
              refine x_lcML (K := K) (R := fun H v p => PtAt K H k v p) (S := fun _ v (b : Bool) => v = .bl b) (fun p => pairQ tests4 p) (.of eb3) (fun G' s' => .of (s' _ _ eb3)) ⟨hu3.1, hu3.2⟩ (fun s h => h.same s) (fun _ _ _ _ _ h => h) (by omega) (fun G4 v x sG4 hx hv Q' P' q' => ?_) (fun D G4 ws nD sG4 eD hw => ?_)
              · obtain ⟨d1, z1⟩ := hmem x hx
                walk_at "sx"
                refine ⟨rfl, ?_⟩
                walk_at "sx"
                exact ⟨v, l, x, tests4, rfl, hv, sG4 _ _ el3, d1, by omega, fun G5 s5 => q' _ _ s5 rfl⟩
              rw [all_bl ⟨hw.1, hw.2⟩] at eD
              walk_at "sx"
              exact ⟨D, _, rfl, .of eD, q _ (s03.trans sG4)⟩
      have n4 : nm ≠ ("such" : Str) := fun e => c4 (congrArg V.str e)
      rw [if_neg n4] at q
      walk_at "sx"
      refine ⟨.ref a, l, _, tests4, rfl, hp1, el1, dr, hz, fun G2 s2 => ?_⟩
      cases ht : pairQ tests4 (.t nm ps) with
      | true =>
        rw [ht, Bool.true_or] at q
        walk_at "sx"
        exact q _ (s01.trans s2)
      | false =>
        rw [ht, Bool.false_or] at q
        walk_at "sx"
        exact ⟨.ref a, _, rfl, hp1.same s2, dr, hz, fun H' s' => q _ ((s01.trans s2).trans s')⟩
end
end Gs
namespace Gs
open PySem PySem.Spec PyProof.Rows L2 TL SrtK
abbrev s_law_wide : Stmt := PySem.Challenge.pw_goalstead_k14_goals_by_their_shapes.main.body.getD 103 (.Pass ⟨0, 0, 0, 0⟩)
theorem sc_law_wide : FnScope ["pool", "ops", "box", "k"] ["pool", "ops"] (defScope s_law_wide) := ⟨rfl, rfl, rfl, by decide +kernel, rfl, by decide +kernel, by decide +kernel⟩
abbrev s_law_changed : Stmt := PySem.Challenge.pw_goalstead_k14_goals_by_their_shapes.main.body.getD 105 (.Pass ⟨0, 0, 0, 0⟩)
theorem sc_law_changed : FnScope ["pool", "thing", "other", "at"] ["pool", "thing", "other"] (defScope s_law_changed) := ⟨rfl, rfl, rfl, by decide +kernel, rfl, by decide +kernel, by decide +kernel⟩
/-! ### goals drawn, and spoilt -/
mutual
theorem nm_cap : ∀ {u : Pt} {z : Str}, okT NmOk NmOk u → z ∈ nmT u → NameOk 1 (tl z)
  | .i n, z, _, h => by
    rw [nmT] at h
    cases h
  | .s y, z, ok, h => by
    rw [nmT] at h
    split at h
    · rename_i hu
      rw [List.mem_singleton] at h
      subst h
      have ok : NmOk z := ok
      obtain ⟨way, c, t, e, hh⟩ := ok
      unfold unkS at hu
      rw [e] at hu
      have hc := sC_iff.mp (of_decide_eq_true hu)
      rcases hh with ⟨_, h1, _⟩ | ⟨_, h1, h2, h3⟩ | ⟨_, h1, _⟩
      · rw [sS_iff] at h1
        omega
      · exact ⟨c, t, e, .inr (.inl ⟨rfl, h1, h2, h3⟩)⟩
      · have := sM_all h1
        omega
    · cases h
  | .t nm ps, z, ok, h => by
    rw [nmT] at h
    rw [okT] at ok
    exact nm_capL ok.2.2.2 h
theorem nm_capL : ∀ {ps : List Pt} {z : Str}, okL NmOk NmOk ps → z ∈ nmL ps → NameOk 1 (tl z)
  | [], z, _, h => by
    rw [nmL] at h
    cases h
  | x :: r, z, ok, h => by
    rw [nmL, List.mem_append] at h
    rw [okL] at ok
    rcases h with h | h
    · exact nm_cap ok.1 h
    · exact nm_capL ok.2 h
end
theorem GoOk.kids {ops : List Op} {nm : Str} {ps : List Pt} (h : GoOk ops (.t nm ps)) : ∀ x ∈ ps, GoOk ops x := by
  obtain ⟨h1, h2⟩ := h
  rw [okT] at h1
  rw [rdT] at h2
  have rdl : ∀ ps : List Pt, rdL (ownL ++ ops) ps → ∀ x ∈ ps, rdT (ownL ++ ops) x := fun ps => by
    induction ps with
    | nil => exact fun _ x hx => by cases hx
    | cons y r ih =>
      intro h x hx
      rw [rdL] at h
      rcases List.mem_cons.mp hx with rfl | hx
      · exact h.1
      · exact ih h.2 x hx
  exact fun x hx => ⟨okL_mem.mp h1.2.2.2 x hx, rdl ps h2.2.2.2 x hx⟩
theorem GoOk.parts {ops : List Op} : ∀ (n : Nat) (p q : Pt), q ∈ partsN n p → GoOk ops p → GoOk ops q
  | 0, p, q, h, d => by
    rw [partsN, List.mem_singleton] at h
    rw [h]
    exact d
  | n + 1, p, q, h, d => by
    rw [partsN] at h
    split at h
    · rename_i c
      obtain ⟨nm, a, b, rfl, _⟩ := named2 c
      rcases List.mem_cons.mp h with rfl | h
      · exact d.kids _ (by simp [kid])
      · exact GoOk.parts n b q h (d.kids _ (by simp))
    · rw [List.mem_singleton.mp h]
      exact d
def spWide (K : PySem.W.Frag) : Sp := fun vs H Q _ => ∃ (p l a : Addr) (c : Int) (es : List V) (ops : List Op), vs = [.ref p, .ref a] ∧ PoolAt H p l c ∧ c + 41000 ≤ 1000000000000 ∧ H a = some (.lst es) ∧ a ≠ p ∧ a ≠ l ∧ RowsAt K H es ops ∧ OpsOk ops ∧
  ∀ x u H', PtAt K H' 12 x u → GoOk ops u → szT u ≤ 151 → dpT u ≤ 12 → PoolAt H' p l (c + 41000) → Kx p l H H' → Q x H'
def spOther (K : PySem.W.Frag) : Sp := fun vs H Q _ => ∃ (p l a : Addr) (c : Int) (v : V) (u : Pt) (es : List V) (ops : List Op), vs = [.ref p, .ref a, v] ∧ PtAt K H 12 v u ∧ GoOk ops u ∧ szT u ≤ 900 ∧ PoolAt H p l c ∧ c + 30000 ≤ 1000000000000 ∧ H a = some (.lst es) ∧ a ≠ p ∧ a ≠ l ∧ RowsAt K H es ops ∧ OpsOk ops ∧
  ∀ x u H', PtAt K H' 12 x u → GoOk ops u → szT u ≤ 35 → dpT u ≤ 7 → PoolAt H' p l (c + 30000) → Kx p l H H' → Q x H'
def spChanged (K : PySem.W.Frag) (k : Nat) : Sp := fun vs H Q _ => ∃ (p l : Addr) (c : Int) (v o : V) (u uo : Pt) (ops : List Op), vs = [.ref p, v, o] ∧ PtAt K H k v u ∧ PtAt K H 12 o uo ∧ GoOk ops u ∧ GoOk ops uo ∧ PoolAt H p l c ∧ c + 2 * k ≤ 1000000000000 ∧
  ∀ x u' H', PtAt K H' (k + 12) x u' → GoOk ops u' → szT u' ≤ szT u + szT uo → dpT u' ≤ dpT u + dpT uo → PoolAt H' p l (c + 2 * k) → Kx p l H H' → Q x H'
def spHeaded (K : PySem.W.Frag) : Sp := fun vs H Q _ => ∃ (p l : Addr) (c : Int), vs = [.ref p] ∧ PoolAt H p l c ∧ c + 12000 ≤ 1000000000000 ∧
  ∀ x u H', PtAt K H' 12 x u → (∀ ops o, OpsOk ops → rowOf (ownL ++ ops) "-" 1 = some o → GoOk ops u) → szT u ≤ 60 → dpT u ≤ 11 → PoolAt H' p l (c + 12000) → Kx p l H H' → Q x H'
section
variable {P : Program} {w : World} {K : PySem.W.Frag} {mg : Str → Option Value} {base : Heap} {f : Addr} {fd : FuncData}
def HasWide (P : Program) (w : World) (K : PySem.W.Frag) (mg : Str → Option Value) (base : Heap) : Prop := Has P w K mg base 19 "_law_wide" ["pool", "ops"] (spWide K)
def HasOther (P : Program) (w : World) (K : PySem.W.Frag) (mg : Str → Option Value) (base : Heap) : Prop := Has P w K mg base 18 "_law_other" ["pool", "ops", "thing"] (spOther K)
def HasChanged (k : Nat) (P : Program) (w : World) (K : PySem.W.Frag) (mg : Str → Option Value) (base : Heap) : Prop := Has P w K mg base (k + 3) "_law_changed" ["pool", "thing", "other"] (spChanged K k)
def HasHeaded (P : Program) (w : World) (K : PySem.W.Frag) (mg : Str → Option Value) (base : Heap) : Prop := Has P w K mg base 18 "_law_headed" ["pool"] (spHeaded K)
theorem ok_law_wide (F : Fun K "_law_wide" "_law_wide" s_law_wide f fd) (T : Txt mg) (C_law_take : HasTake P w K mg base) (C_law_goal : HasGoal15 P w K mg base) (C_law_box : HasBox15 P w K mg base) (C_law_test : HasTest15 P w K mg base) (C_law_together : HasTogether P w K mg base) : FnOk P w K mg base CX0 19 f fd ["pool", "ops"] (spWide K) := by
  refine F.ok sc_law_wide (fun vs H Q E h => ?_) (fun cdv A outer s H vs Q E hr h => ?_)
  · obtain ⟨p, l, a, c, es, ops, rfl, _⟩ := h
    rfl
  obtain ⟨p, l, a, c, es, ops, rfl, P0, hc, ha, ap, al, hro, oko, q⟩ := h
  refine ⟨_, (pss_cons (ps_if (pt_cmpR op_gt (pe_callH C_law_take hr (pa_cons (pv 0) (pa_cons pe_int pa_nil))) pe_int (nomark _))
      (pss_one (ps_ret (pe_callH C_law_goal hr (pa_cons (pv 0) (pa_cons (pv 1) (pa_cons pe_int pa_nil))))))
      pss_nil)
    (pss_cons (ps_set (i := 2) sc_law_wide.nd rfl (Or.inl rfl) (pe_callH C_law_box hr (pa_cons (pv 0) (pa_cons (pe_op op_add pe_int (pe_callH C_law_take hr (pa_cons (pv 0) (pa_cons pe_int pa_nil)))) pa_nil))))
    (pss_one (ps_ret (pe_tup (pa_cons pe_str (pa_cons (pv 2) (pa_cons (pe_callH C_law_together hr (pa_cons (pe_lc (own := [("k", 3)]) (g := gName 3) (tt := tYes) rfl sc_law_wide.nd (pi_range1 (by rfl) T.z_range (pa_cons (pe_op op_add pe_int (pe_callH C_law_take hr (pa_cons (pv 0) (pa_cons pe_int pa_nil)))) pa_nil)) (blkOk_by (own := [("k", 3)]) (N := ["pool", "ops", "box", "k"]) (sc := defScope s_law_wide) (by decide +kernel)) (fun _ _ _ _ _ => pg_name (i := 3) sc_law_wide.nd rfl (Or.inl rfl)) (fun _ _ _ _ _ => pts_nil) (fun _ _ _ _ _ => (pe_callH C_law_test hr (pa_cons (pv 0) pa_nil)))) pa_nil)) pa_nil)))))))), ?_⟩
  walk_at "sx"
  refine ⟨p, l, c, 4, rfl, P0, by omega, by decide, by decide, fun n1 G1 n10 n11 P1 k1 => ?_⟩
  walk_at "sx"
  refine x_ite (fun c1 => ?_) (fun c1 => ?_)
  · walk_at "sx"
    exact ⟨p, l, a, _, es, ops, 5, rfl, by decide, by decide, P1, by omega, k1 _ _ ha ap al, ap, al, hro.kx k1 P0, oko, fun x u G2 hx g2 _ s2 d2 P2 k2 => q x u G2 hx g2 (by omega) d2 (P2.mono (by omega)) (k1.trans k2)⟩
  walk_at "sx"
  refine ⟨p, l, _, 4, rfl, P1, by omega, by decide, by decide, fun n4 G4 n40 n41 P4 k4 => ?_⟩
  walk_at "sx"
  refine ⟨p, l, _, _, rfl, P4, by omega, by omega, by omega, fun xb ub G5 hxb gb bb sb zb db _ P5 k5 => ?_⟩
  have k05 := (k1.trans k4).trans k5
  walk_at "sx"
  refine ⟨p, l, _, 5, rfl, P5, by omega, by decide, by decide, fun n6 G6 n60 n61 P6 k6 => ?_⟩
  walk_at "sx"
  refine x_lcR1 (n := 1 + n6) (fun D i G => ∃ (vs : List V) (ts : List Pt), G D = some (.lst vs) ∧ PtsAt K G 8 vs ts ∧ (∀ e ∈ ts, (∀ ops, OpsOk ops → GoOk ops e) ∧ testP e = true ∧ szT e ≤ 15 ∧ dpT e ≤ 5) ∧ ts.length = i ∧ szL ts ≤ 15 * i ∧ PoolAt G p l (c + 22000 + 2100 * i) ∧ Kx p l G6 G) (by omega) (by omega) (fun D hD => ⟨[], [], upd_same, .nil, (fun e he => by cases he), rfl, Nat.le_refl _, (P6.upd hD).mono (by omega), (Kx.refl _).updn hD⟩) ?_ ?_
  · rintro D hD i G hi ⟨vs, ts, e1, e2, e4, e3, e5, PG, kG⟩
    have fD := P6.fresh hD
    walk_at "sx"
    refine ⟨rfl, ?_⟩
    walk_at "sx"
    refine ⟨p, l, _, rfl, PG, by omega, fun x1 u1 G1 hx1 g1 t1 z1 d1 P7 k7 => ?_⟩
    have e1' := k7 _ _ e1 fD.1 fD.2
    have hl := e2.1
    refine ⟨_, e1', szl (by omega), vs ++ [x1], ts ++ [u1], upd_same, ((e2.kx k7 PG).append (.one (hx1.of_depth (by omega)))).lst e1', fun y hy => ?_, by rw [List.length_append, e3]; rfl, by rw [szL_append]; simp only [szL]; omega, (P7.updo fD.1 fD.2).mono (by omega), (kG.trans k7).updf hD⟩
    rcases List.mem_append.mp hy with hy | hy
    · exact e4 y hy
    · rw [List.mem_singleton.mp hy]
      exact ⟨g1, t1, z1, d1⟩
  rintro D nD G7 ⟨vs, ts, hD, hts, tok, tl, tz, P7, k7⟩
  have hne : ts ≠ [] := fun z => by
    rw [z] at tl
    change 0 = _ at tl
    omega
  walk_at "sx"
  refine ⟨D, vs, ts, rfl, hD, hts, by omega, by omega, fun xt G8 hxt s8 => ?_⟩
  walk_at "sx"
  rename_i tp ntp
  have st := same_upd (o := .tup [.str ("such" : Str), xb, xt]) ntp
  have dct := chn_dp (d := 5) ts hne fun r hr => (tok r hr).2.2.2
  have zct := chn_sz ts hne
  have hxb8 := (((hxb.kx k6 P5).kx k7 P6).same s8).same st
  have hxt8 := hxt.same st
  refine q _ (.t "such" [ub, chn ts]) _ ?_ (.two (by unfold Own; decide +kernel) (gb ops oko) (chn_go ts hne fun r hr => (tok r hr).1 ops oko)) ?_ ?_ (((P7.same s8).same st).mono (by omega)) (((k05.trans k6).trans k7).trans (.of (s8.trans st)))
  · exact .tup (vs := [xb, xt]) (ps := [ub, chn ts]) (.of upd_same) (.append (vs := [xb]) (ps := [ub]) (.one (hxb8.of_depth (by omega))) (.one (hxt8.of_depth (by omega))))
  · simp only [szT, szL]
    omega
  · simp only [dpT, dpL]
    omega
theorem ok_law_changed (F : Fun K "_law_changed" "_law_changed" s_law_changed f fd) (T : Txt mg) (C_law_take : HasTake P w K mg base) (b : Binds K fd ["pool", "thing", "other"] []) (kp : PySem.W.keepIn K (.ref f) = true) (m : mg "_law_changed" = some (.ref f)) : ∀ k, FnOk P w K mg base CX0 (k + 3) f fd ["pool", "thing", "other"] (spChanged K k)
  | 0 => ⟨fun vs H Q E h => by
      obtain ⟨_, _, _, _, _, _, _, _, _, h, _⟩ := h
      exact h.elim, fun A outer s H args us vs Q E _ _ _ _ h => by
      obtain ⟨_, _, _, _, _, _, _, _, _, h, _⟩ := h
      exact h.elim⟩
  | k + 1 => by
    have C_law_changed : HasChanged k P w K mg base := ⟨f, fd, ok_law_changed F T C_law_take b kp m k, b, kp, m⟩
    refine F.ok sc_law_changed (fun vs H Q E h => ?_) (fun cdv A outer s H vs Q E hr h => ?_)
    · obtain ⟨p, l, c, v, o, u, uo, ops, rfl, _⟩ := h
      rfl
    obtain ⟨p, l, c, v, o, u, uo, ops, rfl, hp, ho, gu, go, P0, hc, q⟩ := h
    refine ⟨_, (pss_cons (ps_if (PW.pt (pw_or (pt_not (pt_val (pe_callB (call_isiKK (K := K)) (by rfl) T.z_isinstance (by decide +kernel) (pa_cons (pv 1) (pa_cons (pe_bltn (v := .ty "tuple") (by rfl) T.z_tuple (by decide +kernel) rfl) pa_nil))))) (pw_or1 (pt_cmpR op_eq (pe_callH C_law_take hr (pa_cons (pv 0) (pa_cons pe_int pa_nil)) (hk := by omega)) pe_int (nomark _)))))
      (pss_one (ps_ret (pv 2)))
      pss_nil)
    (pss_cons (ps_set (i := 3) sc_law_changed.nd rfl (Or.inl rfl) (pe_op op_add pe_int (pe_callH C_law_take hr (pa_cons (pv 0) (pa_cons (pe_op op_sub (pe_callB (call_lenK (K := K)) (by rfl) T.z_len (by decide +kernel) (pa_cons (pv 1) pa_nil)) pe_int) pa_nil)) (hk := by omega))))
    (pss_one (ps_ret (pe_op (op_catAK (K := K)) (pe_op (op_catAK (K := K)) (pe_slice (sl_tupAK (K := K)) (pv 1) po_none (po_some (pv 3))) (pe_tup (pa_cons (pe_callH C_law_changed hr (pa_cons (pv 0) (pa_cons (pe_ix (ix_tupK (K := K)) (pv 1) (pv 3) (fun _ _ => rfl)) (pa_cons (pv 2) pa_nil))) (hk := Nat.le_refl _)) pa_nil))) (pe_slice (sl_tupAK (K := K)) (pv 1) (po_some (pe_op op_add (pv 3) pe_int)) po_none)))))), ?_⟩
    walk_at "sx"
    rcases hp.three with ⟨n, rfl, rfl⟩ | ⟨z, rfl, rfl⟩ | ⟨j, nm, ps, a, ys, ej, rfl, rfl, sa, pq⟩
    · refine x_isT (t := .type "int") (c := false) (.base (.int n)) (kit_ty (by decide +kernel)) ?_
      walk_at "sx"
      exact q o uo _ (ho.up (by omega)) go (by omega) (by omega) (P0.mono (by omega)) (Kx.refl _)
    · refine x_isT (t := .type "str") (c := false) (.base (.str z)) (kit_ty (by decide +kernel)) ?_
      walk_at "sx"
      exact q o uo _ (ho.up (by omega)) go (by omega) (by omega) (P0.mono (by omega)) (Kx.refl _)
    · have ej' : j = k := by omega
      subst ej'
      have lps := pq.1
      have gu0 := gu
      obtain ⟨h1, h2⟩ := gu0
      rw [okT] at h1
      rw [rdT] at h2
      refine x_isT (t := .type "tuple") (c := true) (ty_tup sa) (kit_ty (by decide +kernel)) ?_
      walk_at "sx"
      refine ⟨p, l, c, 3, rfl, P0, by omega, by decide, by decide, fun n1 G1 n10 n11 P1 k1 => ?_⟩
      walk_at "sx"
      refine x_ite (fun c1 => ?_) (fun c1 => ?_)
      · walk_at "sx"
        exact q o uo _ ((ho.kx k1 P0).up (by omega)) go (by omega) (by omega) (P1.mono (by omega)) k1
      have sa1 := k1.sqT P0 sa
      have len0 : (V.str nm :: ys).length = ps.length + 1 := by rw [List.length_cons, lps]
      walk_at "sx"
      refine ⟨p, l, _, ((V.str nm :: ys).length : Int) - 1, rfl, P1, by omega, by omega, by omega, fun n2 G2 n20 n21 P2 k2 => ?_⟩
      obtain ⟨i, rfl⟩ : ∃ i : Nat, n2 = (i : Int) := ⟨n2.toNat, by omega⟩
      have hi : i < ps.length := by omega
      have k02 := k1.trans k2
      have sa2 := k2.sqT P1 sa1
      obtain ⟨v1, hv1⟩ : ∃ v1, ys[i]? = some v1 := ⟨_, List.getElem?_eq_getElem (by omega)⟩
      have pq2 := pq.kx k02 P0
      obtain ⟨u1, hu1, pu1⟩ := pq2.at hv1
      have eA : (1 : Int) + (i : Int) = ((i + 1 : Nat) : Int) := by omega
      walk_at "sx"
      rw [eA]
      refine x_slA sa2 fun t3 G3 k3 st3 => ?_
      rw [cut_take20 (by omega)] at st3
      have sa3 := Same.sqT k3 sa2
      have P3 := P2.same k3
      walk_at "sx"
      refine x_ixT sa3 (atI_nat (j := i + 1) (show (V.str nm :: ys)[i + 1]? = some v1 from hv1)) ?_
      walk_at "sx"
      refine ⟨p, l, _, v1, o, u1, uo, ops, rfl, pu1.same k3, (ho.kx k02 P0).same k3, gu.kids u1 (List.mem_of_getElem? hu1), go, P3, by omega, fun x u' G4 hx g4 z4 d4 P4 k4 => ?_⟩
      have st4 := k4.sqT P3 st3
      have sa4 := k4.sqT P3 sa3
      walk_at "sx"
      rename_i t5 nt5
      have s5 := same_upd (o := .tup [x]) nt5
      refine x_catA (xs := (V.str nm :: ys).take (i + 1)) (ys := [x]) (Same.sqT s5 st4) (.of upd_same) (sz (by rw [List.length_take]; show _ + 1 ≤ _; omega)) fun t6 G6 k6 s6 => ?_
      have s46 := s5.trans k6
      have sa6 := Same.sqT s46 sa4
      walk_at "sx"
      have eB : ((i + 1 : Nat) : Int) + 1 = ((i + 2 : Nat) : Int) := by omega
      rw [eB]
      refine x_slA sa6 fun t7 G7 k7 st7 => ?_
      rw [cut_drop20 (by omega)] at st7
      have s6b := Same.sqT k7 s6
      refine x_catA (xs := (V.str nm :: ys).take (i + 1) ++ [x]) (ys := (V.str nm :: ys).drop (i + 2)) s6b st7 (sz (by rw [List.length_append, List.length_take, List.length_drop]; show _ + 1 + _ ≤ _; omega)) fun t8 G8 k8 s8 => ?_
      have s48 := (s46.trans k7).trans k8
      have e8 : (V.str nm :: ys).take (i + 1) ++ [x] ++ (V.str nm :: ys).drop (i + 2) = V.str nm :: (ys.take i ++ [x] ++ ys.drop (i + 1)) := rfl
      rw [e8] at s8
      have pq8 := ((pq2.same k3).kx k4 P3).same s48
      have pq9 : PtsAt K G8 (j + 12) (ys.take i ++ [x] ++ ys.drop (i + 1)) (ps.take i ++ [u'] ++ ps.drop (i + 1)) := (((pq8.take i).up (by omega)).append (.one (hx.same s48))).append ((pq8.drop (i + 1)).up (by omega))
      have hul := List.getElem?_eq_some_iff.mp hu1
      have esp : ps = ps.take i ++ [u1] ++ ps.drop (i + 1) := by
        obtain ⟨hl, e⟩ := hul
        rw [← e, List.append_assoc, List.singleton_append, List.getElem_cons_drop, List.take_append_drop]
      have eszl := congrArg szL esp
      rw [szL_append, szL_append] at eszl
      simp only [szL] at eszl
      have hmem : ∀ y ∈ ps.take i ++ [u'] ++ ps.drop (i + 1), y ∈ ps ∨ y = u' := fun y hy => by
        rcases List.mem_append.mp hy with hy | hy
        · rcases List.mem_append.mp hy with hy | hy
          · exact .inl (List.mem_of_mem_take hy)
          · exact .inr (List.mem_singleton.mp hy)
        · exact .inl (List.mem_of_mem_drop hy)
      have hlen : (ps.take i ++ [u'] ++ ps.drop (i + 1)).length = ps.length := by
        rw [List.length_append, List.length_append, List.length_take, List.length_drop]
        show min i ps.length + 1 + (ps.length - (i + 1)) = ps.length
        omega
      have hd1 := dpL_mem (List.mem_of_getElem? hu1)
      walk_at "sx"
      refine q _ (.t nm (ps.take i ++ [u'] ++ ps.drop (i + 1))) _ (PtAt.tup s8 pq9) ⟨⟨h1.1, by rw [hlen]; exact h1.2.1, by rw [hlen]; exact h1.2.2.1, okL_mem.mpr fun y hy => ?_⟩, ⟨by rw [hlen]; exact h2.1, by rw [hlen]; exact h2.2.1, by rw [hlen]; exact h2.2.2.1, ?_⟩⟩ ?_ ?_ ((P4.same s48).mono (by omega)) ((((k02.trans (.of k3)).trans k4)).trans (.of s48))
      · rcases hmem y hy with hy | rfl
        · exact okL_mem.mp h1.2.2.2 y hy
        · exact g4.nm
      · have rdl : ∀ qs : List Pt, (∀ y ∈ qs, rdT (ownL ++ ops) y) → rdL (ownL ++ ops) qs := fun qs => by
          induction qs with
          | nil => exact fun _ => trivial
          | cons y r ih => exact fun h => ⟨h y (List.mem_cons_self ..), ih fun z hz => h z (List.mem_cons_of_mem _ hz)⟩
        refine rdl _ fun y hy => ?_
        rcases hmem y hy with hy | rfl
        · exact (gu.kids y hy).rd
        · exact g4.rd
      · rw [szT, szT, szL_append, szL_append]
        simp only [szL]
        omega
      · rw [dpT, dpT]
        have : dpL (ps.take i ++ [u'] ++ ps.drop (i + 1)) ≤ dpL ps + dpT uo := dpL_le fun y hy => by
          rcases hmem y hy with hy | rfl
          · have := dpL_mem hy
            omega
          · omega
        omega
end
end Gs
namespace Gs
open PySem PySem.Spec PyProof.Rows L2 TL SrtK
abbrev s_law_other : Stmt := PySem.Challenge.pw_goalstead_k14_goals_by_their_shapes.main.body.getD 104 (.Pass ⟨0, 0, 0, 0⟩)
theorem sc_law_other : FnScope ["pool", "ops", "thing", "way", "names"] ["pool", "ops", "thing"] (defScope s_law_other) := ⟨rfl, rfl, rfl, by decide +kernel, rfl, by decide +kernel, by decide +kernel⟩
abbrev s_law_headed : Stmt := PySem.Challenge.pw_goalstead_k14_goals_by_their_shapes.main.body.getD 106 (.Pass ⟨0, 0, 0, 0⟩)
theorem sc_law_headed : FnScope ["pool", "one", "two", "parts", "some"] ["pool"] (defScope s_law_headed) := ⟨rfl, rfl, rfl, by decide +kernel, rfl, by decide +kernel, by decide +kernel⟩
section
variable {P : Program} {w : World} {K : PySem.W.Frag} {mg : Str → Option Value} {base : Heap} {f : Addr} {fd : FuncData}
theorem ok_law_other (F : Fun K "_law_other" "_law_other" s_law_other f fd) (T : Txt mg) (C_law_take : HasTake P w K mg base) (C_law_names : HasNames15 12 P w K mg base) (C_law_number : HasNum12 P w K mg base) (C_law_sum : HasSum15 P w K mg base) (C_law_test : HasTest15 P w K mg base) (C_law_box : HasBox15 P w K mg base) (C_law_pattern : HasPattern P w K mg base) : FnOk P w K mg base CX0 18 f fd ["pool", "ops", "thing"] (spOther K) := by
  refine F.ok sc_law_other (fun vs H Q E h => ?_) (fun cdv A outer s H vs Q E hr h => ?_)
  · obtain ⟨p, l, a, c, v, u, es, ops, rfl, _⟩ := h
    rfl
  obtain ⟨p, l, a, c, v, u, es, ops, rfl, hp, gu, hz, P0, hc, ha, ap, al, hro, oko, q⟩ := h
  refine ⟨_, (pss_cons (ps_set (i := 3) sc_law_other.nd rfl (Or.inl rfl) (pe_callH C_law_take hr (pa_cons (pv 0) (pa_cons pe_int pa_nil))))
    (pss_cons (ps_set (i := 4) sc_law_other.nd rfl (Or.inl rfl) (pe_op op_cat (pe_callH C_law_names hr (pa_cons (pv 2) pa_nil)) (pe_lst (pa_cons pe_str pa_nil))))
    (pss_cons (ps_if (pt_cmpR op_eq (pv 3) pe_int (nomark _))
      (pss_one (ps_ret (pe_callH C_law_number hr (pa_cons (pv 0) pa_nil))))
      pss_nil)
    (pss_cons (ps_if (pt_cmpR op_lt (pv 3) pe_int (nomark _))
      (pss_one (ps_ret (pe_ix (ix_listK (K := K)) (pv 4) (pe_callH C_law_take hr (pa_cons (pv 0) (pa_cons (pe_callB (call_lenK (K := K)) (by rfl) T.z_len (by decide +kernel) (pa_cons (pv 4) pa_nil)) pa_nil))) (fun _ _ => rfl))))
      pss_nil)
    (pss_cons (ps_if (pt_cmpR op_eq (pv 3) pe_int (nomark _))
      (pss_one (ps_ret (pe_callH C_law_sum hr (pa_cons (pv 0) pa_nil))))
      pss_nil)
    (pss_cons (ps_if (pt_cmpR op_eq (pv 3) pe_int (nomark _))
      (pss_one (ps_ret (pe_callH C_law_test hr (pa_cons (pv 0) pa_nil))))
      pss_nil)
    (pss_cons (ps_if (pt_cmpR op_eq (pv 3) pe_int (nomark _))
      (pss_one (ps_ret (pe_callH C_law_box hr (pa_cons (pv 0) (pa_cons (pe_op op_add pe_int (pe_callH C_law_take hr (pa_cons (pv 0) (pa_cons pe_int pa_nil)))) pa_nil)))))
      pss_nil)
    (pss_cons (ps_if (pt_cmpR op_eq (pv 3) pe_int (nomark _))
      (pss_one (ps_ret (pe_tup (pa_cons pe_str (pa_cons (pe_callH C_law_sum hr (pa_cons (pv 0) pa_nil)) (pa_cons (pe_callH C_law_sum hr (pa_cons (pv 0) pa_nil)) pa_nil))))))
      pss_nil)
    (pss_cons (ps_if (pt_cmpR op_eq (pv 3) pe_int (nomark _))
      (pss_one (ps_ret (pe_tup (pa_cons pe_str (pa_cons (pe_callH C_law_test hr (pa_cons (pv 0) pa_nil)) (pa_cons (pe_ix (ix_listK (K := K)) (pe_lst (pa_cons (pe_callH C_law_test hr (pa_cons (pv 0) pa_nil)) (pa_cons (pe_callH C_law_pattern hr (pa_cons (pv 0) (pa_cons (pv 1) (pa_cons pe_int (pa_cons pe_int pa_nil))))) pa_nil))) (pe_callH C_law_take hr (pa_cons (pv 0) (pa_cons pe_int pa_nil))) (fun _ _ => rfl)) pa_nil))))))
      pss_nil)
    (pss_cons (ps_if (pt_cmpR op_eq (pv 3) pe_int (nomark _))
      (pss_one (ps_ret (pe_tup (pa_cons pe_str (pa_cons (pe_callH C_law_pattern hr (pa_cons (pv 0) (pa_cons (pv 1) (pa_cons pe_int (pa_cons pe_int pa_nil))))) pa_nil)))))
      pss_nil)
    (pss_one (ps_ret (pe_callH C_law_pattern hr (pa_cons (pv 0) (pa_cons (pv 1) (pa_cons pe_int (pa_cons pe_int pa_nil))))))))))))))))), ?_⟩
  walk_at "sx"
  refine ⟨p, l, c, 10, rfl, P0, by omega, by decide, by decide, fun n1 G1 n10 n11 P1 k1 => ?_⟩
  walk_at "sx"
  refine ⟨v, u, rfl, hp.kx k1 P0, okT_imp (fun z h => nm_tx15 h) (fun _ _ => trivial) gu.nm, by omega, fun B G2 nB s2 hB => ?_⟩
  have lnm := nmT_len u
  walk_at "sx"
  rename_i o3 no3
  have st3 := same_upd (o := .lst [V.str ("X" : Str)]) no3
  refine x_cat (st3 _ _ hB) upd_same (sz (by rw [List.length_map]; show _ + 1 ≤ _; omega)) fun N nN => ?_
  have hall : ∀ z ∈ nmT u ++ [("X" : Str)], NameOk 1 (tl z) := fun z hz => by
    rcases List.mem_append.mp hz with hz | hz
    · exact nm_cap gu.nm hz
    · rw [List.mem_singleton.mp hz]
      exact ⟨88, [], by decide +kernel, .inr (.inl ⟨rfl, by decide, (fun x hx => by cases hx), by decide⟩)⟩
  have enm : (nmT u).map V.str ++ [V.str ("X" : Str)] = (nmT u ++ [("X" : Str)]).map V.str := by rw [List.map_append]; rfl
  rw [enm]
  have k03 : Kx p l H (upd (upd G2 o3 (.lst [V.str ("X" : Str)])) N (.lst ((nmT u ++ [("X" : Str)]).map V.str))) := k1.trans (.of ((s2.trans st3).trans (same_upd nN)))
  have P3 := ((P1.same s2).same st3).upd (o := .lst ((nmT u ++ [("X" : Str)]).map V.str)) nN
  have fN := ((P1.same s2).same st3).fresh nN
  have hN : upd (upd G2 o3 (.lst [V.str ("X" : Str)])) N (.lst ((nmT u ++ [("X" : Str)]).map V.str)) N = some (.lst ((nmT u ++ [("X" : Str)]).map V.str)) := upd_same
  generalize upd (upd G2 o3 (.lst [V.str ("X" : Str)])) N (.lst ((nmT u ++ [("X" : Str)]).map V.str)) = G3 at *
  have a3 := k03 _ _ ha ap al
  have r3 := hro.kx k03 P0
  walk_at "sx"
  refine x_ite (fun c0 => ?_) (fun c0 => ?_)
  · walk_at "sx"
    exact ⟨p, l, _, rfl, P3, by omega, fun n G4 hn P4 k4 => q _ (.i n) _ rfl ((SumOk.num hn).ok ops oko) (by simp [szT]) (by simp [dpT]) (P4.mono (by omega)) (k03.trans k4)⟩
  walk_at "sx"
  refine x_ite (fun c1 => ?_) (fun c1 => ?_)
  · walk_at "sx"
    refine ⟨p, l, _, (((nmT u ++ [("X" : Str)]).map V.str).length : Int), rfl, P3, by omega, by rw [List.length_map, List.length_append, List.length_singleton]; omega, by rw [List.length_map, List.length_append, List.length_singleton]; omega, fun n4 G4 n40 n41 P4 k4 => ?_⟩
    obtain ⟨y, hy, hat⟩ := atL (xs := (nmT u ++ [("X" : Str)]).map V.str) n40 n41
    obtain ⟨z, hz1, rfl⟩ := List.mem_map.mp hy
    refine x_ixL (.of (k4 _ _ hN fN.1 fN.2)) hat ?_
    exact q _ (.s z) _ rfl ((SumOk.var (hall z hz1)).ok ops oko) (by simp [szT]) (by simp [dpT]) (P4.mono (by omega)) (k03.trans k4)
  walk_at "sx"
  refine x_ite (fun c2 => ?_) (fun c2 => ?_)
  · walk_at "sx"
    exact ⟨p, l, _, rfl, P3, by omega, fun x1 u1 G4 hx1 s1 z1 P4 k4 => q x1 u1 _ hx1 (s1.ok ops oko) (by omega) (by have := sum_dp u1 s1.sm; omega) (P4.mono (by omega)) (k03.trans k4)⟩
  walk_at "sx"
  refine x_ite (fun c4 => ?_) (fun c4 => ?_)
  · walk_at "sx"
    exact ⟨p, l, _, rfl, P3, by omega, fun x1 u1 G4 hx1 g1 t1 z1 d1 P4 k4 => q x1 u1 _ hx1 (g1 ops oko) (by omega) (by omega) (P4.mono (by omega)) (k03.trans k4)⟩
  walk_at "sx"
  refine x_ite (fun c5 => ?_) (fun c5 => ?_)
  · walk_at "sx"
    refine ⟨p, l, _, 2, rfl, P3, by omega, by decide, by decide, fun n4 G4 n40 n41 P4 k4 => ?_⟩
    walk_at "sx"
    exact ⟨p, l, _, _, rfl, P4, by omega, by omega, by omega, fun xb ub G5 hxb gb bb sb zb db _ P5 k5 => q xb ub _ hxb (gb ops oko) (by omega) (by omega) (P5.mono (by omega)) ((k03.trans k4).trans k5)⟩
  walk_at "sx"
  refine x_ite (fun c6 => ?_) (fun c6 => ?_)
  · walk_at "sx"
    refine ⟨p, l, _, rfl, P3, by omega, fun x1 u1 G4 hx1 s1 z1 P4 k4 => ?_⟩
    walk_at "sx"
    refine ⟨p, l, _, rfl, P4, by omega, fun x2 u2 G5 hx2 s2 z2 P5 k5 => ?_⟩
    walk_at "sx"
    rename_i tp ntp
    have st := same_upd (o := .tup [.str (".." : Str), x1, x2]) ntp
    have d1 := sum_dp u1 s1.sm
    have d2 := sum_dp u2 s2.sm
    refine q _ (.t ".." [u1, u2]) _ ?_ (.two (by unfold Own; decide +kernel) (s1.ok ops oko) (s2.ok ops oko)) (by simp only [szT, szL]; omega) (by simp only [dpT, dpL]; omega) ((P5.upd ntp).mono (by omega)) (((k03.trans k4).trans k5).trans (.of st))
    exact .tup (vs := [x1, x2]) (ps := [u1, u2]) (.of upd_same) (.append (vs := [x1]) (ps := [u1]) (.one (((hx1.kx k5 P4).same st).of_depth (by omega))) (.one ((hx2.same st).of_depth (by omega))))
  walk_at "sx"
  refine x_ite (fun c7 => ?_) (fun c7 => ?_)
  · walk_at "sx"
    refine ⟨p, l, _, rfl, P3, by omega, fun x1 u1 G4 hx1 g1 t1 z1 d1 P4 k4 => ?_⟩
    walk_at "sx"
    refine ⟨p, l, _, rfl, P4, by omega, fun x2 u2 G5 hx2 g2 t2 z2 d2 P5 k5 => ?_⟩
    have k05 := (k03.trans k4).trans k5
    walk_at "sx"
    refine ⟨p, l, a, _, 3, 3, es, ops, rfl, by decide, by decide, P5, by omega, by decide, by decide, k05 _ _ ha ap al, ap, al, hro.kx k05 P0, oko, fun x3 u3 G6 hx3 th3 z3 d3 P6 k6 => ?_⟩
    walk_at "sx"
    rename_i o7 no7
    refine ⟨p, l, _, 2, rfl, P6.upd no7, by omega, by decide, by decide, fun n8 G8 n80 n81 P8 k8 => ?_⟩
    have o78 := kxl P6 no7 k8
    have k68 : Kx p l G6 G8 := ((Kx.refl _).updn no7).trans k8
    obtain ⟨y, hy, hat⟩ := atL (xs := [x2, x3]) n80 (by show n8 < 2; exact n81)
    obtain ⟨uy, gy, zy, dy, py⟩ : ∃ uy, GoOk ops uy ∧ szT uy ≤ 15 ∧ dpT uy ≤ 5 ∧ PtAt K G8 12 y uy := by
      simp only [List.mem_cons, List.not_mem_nil, or_false] at hy
      rcases hy with rfl | rfl
      · exact ⟨u2, g2 ops oko, z2, d2, (hx2.kx k6 P5).kx k68 P6⟩
      · exact ⟨u3, th3.go, by omega, by omega, hx3.kx k68 P6⟩
    refine x_ixL (.of o78) hat ?_
    walk_at "sx"
    rename_i tp ntp
    have st := same_upd (o := .tup [.str ("and" : Str), x1, y]) ntp
    have hx18 := ((hx1.kx k5 P4).kx k6 P5).kx k68 P6
    refine q _ (.t "and" [u1, uy]) _ ?_ (.two (by unfold Own; decide +kernel) (g1 ops oko) gy) (by simp only [szT, szL]; omega) (by simp only [dpT, dpL]; omega) ((P8.upd ntp).mono (by omega)) (((k05.trans k6).trans k68).trans (.of st))
    exact .tup (vs := [x1, y]) (ps := [u1, uy]) (.of upd_same) (.append (vs := [x1]) (ps := [u1]) (.one ((hx18.same st).of_depth (by omega))) (.one ((py.same st).of_depth (by omega))))
  walk_at "sx"
  refine x_ite (fun c8 => ?_) (fun c8 => ?_)
  · walk_at "sx"
    refine ⟨p, l, a, _, 3, 3, es, ops, rfl, by decide, by decide, P3, by omega, by decide, by decide, a3, ap, al, r3, oko, fun x3 u3 G6 hx3 th3 z3 d3 P6 k6 => ?_⟩
    walk_at "sx"
    rename_i tp ntp
    have st := same_upd (o := .tup [.str ("not" : Str), x3]) ntp
    refine q _ (.t "not" [u3]) _ ?_ (.one (by unfold Own; decide +kernel) th3.go) (by simp only [szT, szL]; omega) (by simp only [dpT, dpL]; omega) ((P6.upd ntp).mono (by omega)) ((k03.trans k6).trans (.of st))
    exact .tup (vs := [x3]) (ps := [u3]) (.of upd_same) (.one ((hx3.same st).of_depth (by omega)))
  · walk_at "sx"
    exact ⟨p, l, a, _, 4, 4, es, ops, rfl, by decide, by decide, P3, by omega, by decide, by decide, a3, ap, al, r3, oko, fun x3 u3 G6 hx3 th3 z3 d3 P6 k6 => q x3 u3 _ hx3 th3.go (by omega) (by omega) (P6.mono (by omega)) (k03.trans k6)⟩
theorem ok_law_headed (F : Fun K "_law_headed" "_law_headed" s_law_headed f fd) (T : Txt mg) (C_law_take : HasTake P w K mg base) (C_law_sum : HasSum15 P w K mg base) (C_law_box : HasBox15 P w K mg base) (C_law_parted : HasParted 12 P w K mg base) : FnOk P w K mg base CX0 18 f fd ["pool"] (spHeaded K) := by
  refine F.ok sc_law_headed (fun vs H Q E h => ?_) (fun cdv A outer s H vs Q E hr h => ?_)
  · obtain ⟨p, l, c, rfl, _⟩ := h
    rfl
  obtain ⟨p, l, c, rfl, P0, hc, q⟩ := h
  refine ⟨_, (pss_cons (ps_par3 (i := 1) (j := 2) (k := 3) rfl sc_law_headed.nd rfl rfl rfl (by decide) (by decide) (by decide) rfl rfl rfl (pa_cons (pe_tup (pa_cons pe_str (pa_cons (pe_callH C_law_sum hr (pa_cons (pv 0) pa_nil)) pa_nil))) (pa_cons (pe_callH C_law_sum hr (pa_cons (pv 0) pa_nil)) (pa_cons (pe_callH C_law_parted hr (pa_cons (pe_callH C_law_box hr (pa_cons (pv 0) (pa_cons pe_int pa_nil))) pa_nil)) pa_nil))) rfl)
    (pss_cons (ps_set (i := 4) sc_law_headed.nd rfl (Or.inl rfl) (pe_lst (pa_cons (pe_tup (pa_cons pe_str (pa_cons pe_str (pa_cons (pv 1) pa_nil)))) (pa_cons (pe_tup (pa_cons pe_str (pa_cons (pv 1) (pa_cons (pv 2) pa_nil)))) (pa_cons (pe_tup (pa_cons pe_str (pa_cons (pv 2) (pa_cons (pv 1) pa_nil)))) (pa_cons (pe_tup (pa_cons pe_str (pa_cons pe_str (pa_cons (pe_tup (pa_cons pe_str (pa_cons (pv 2) (pa_cons (pv 1) pa_nil)))) pa_nil)))) pa_nil))))))
    (pss_one (ps_ret (pe_ix (ix_listK (K := K)) (pe_op op_cat (pv 4) (pe_lst (pa_cons (pe_tup (pa_cons pe_str (pa_cons (pe_tup (pa_cons pe_str (pa_cons (pe_ix (ix_listK (K := K)) (pv 3) pe_int (fun _ _ => rfl)) (pa_cons (pe_ix (ix_listK (K := K)) (pv 3) pe_int (fun _ _ => rfl)) pa_nil)))) (pa_cons (pe_ix (ix_listK (K := K)) (pv 3) pe_int (fun _ _ => rfl)) pa_nil)))) pa_nil))) (pe_callH C_law_take hr (pa_cons (pv 0) (pa_cons pe_int pa_nil))) (fun _ _ => rfl)))))), ?_⟩
  walk_at "sx"
  refine x_par3 ?_
  walk_at "sx"
  refine ⟨p, l, _, rfl, P0, by omega, fun x1 u1 G1 hx1 s1 z1 P1 k1 => ?_⟩
  walk_at "sx"
  rename_i t1 nt1
  have st1 := same_upd (o := .tup [.str ("-" : Str), x1]) nt1
  have et1 : upd G1 t1 (.tup [.str ("-" : Str), x1]) t1 = some (.tup [.str ("-" : Str), x1]) := upd_same
  have hx1b := hx1.same st1
  have P2 := P1.same st1
  have k02 := k1.trans (.of st1)
  generalize upd G1 t1 (.tup [.str ("-" : Str), x1]) = G2 at *
  refine ⟨p, l, _, rfl, P2, by omega, fun x2 u2 G3 hx2 s2 z2 P3 k3 => ?_⟩
  walk_at "sx"
  refine ⟨p, l, _, 3, rfl, P3, by omega, by decide, by decide, fun xb ub G4 hxb gb bb sb zb db lb P4 k4 => ?_⟩
  walk_at "sx"
  refine ⟨xb, ub, rfl, hxb, ⟨[], .nil, gb [] .nil⟩, by omega, fun R us G5 nR s5 eR hus => ?_⟩
  walk_at "sx"
  refine ⟨_, _, _, rfl, ?_⟩
  have k25 : Kx p l G2 G5 := (k3.trans k4).trans (.of s5)
  have k05 := k02.trans k25
  have et5 : SqT K G5 t1 [.str ("-" : Str), x1] := k25.sqT P2 (.of et1)
  have hx15 := hx1b.kx k25 P2
  have hx25 := (hx2.kx k4 P3).same s5
  have P5 := P4.same s5
  have d1 := sum_dp u1 s1.sm
  have d2 := sum_dp u2 s2.sm
  have hneg : PtAt K G5 6 (.ref t1) (.t "-" [u1]) := .tup (vs := [x1]) (ps := [u1]) et5 (.one (hx15.of_depth (by omega)))
  have gneg : ∀ ops o, OpsOk ops → rowOf (ownL ++ ops) "-" 1 = some o → GoOk ops (.t "-" [u1]) := fun ops o k e => by
    have g1 := s1.ok ops k
    exact ⟨⟨(show Own "-" 2 by unfold Own; decide +kernel).nm, by simp, by simp, g1.nm, trivial⟩, ⟨by simp, by simp, (fun z => by rw [show rowOf (ownL ++ ops) "-" [u1].length = some o from e] at z; cases z), g1.rd, trivial⟩⟩
  have lrs : (partsA ub).length = 3 := by omega
  have zrs : szL (partsA ub) ≤ szT ub := partsN_szL (szT ub) ub
  have grs : ∀ r ∈ partsA ub, (∀ ops, OpsOk ops → GoOk ops r) ∧ dpT r ≤ dpT ub := fun r hr => ⟨fun ops k => GoOk.parts (szT ub) ub r hr (gb ops k), (partsN_sub (szT ub) ub r hr).2.2⟩
  generalize partsA ub = rs at *
  match rs, us, hus, lrs with
  | [r1, r2, r3], [w1, w2, w3], hus, _ =>
    obtain ⟨g1, dr1⟩ := grs r1 (by simp)
    obtain ⟨g2, dr2⟩ := grs r2 (by simp)
    obtain ⟨g3, dr3⟩ := grs r3 (by simp)
    simp only [szL] at zrs
    have hw1 := hus.2 0 w1 r1 rfl rfl
    have hw2 := hus.2 1 w2 r2 rfl rfl
    have hw3 := hus.2 2 w3 r3 rfl rfl
    walk_at "sx"
    rename_i ta nta tb ntb tc ntc td ntd te nte ls nls tf ntf tg ntg lg nlg lx nlx
    have sa := same_upd (o := .tup [.str ("is" : Str), .str ("X" : Str), .ref t1]) nta
    have sb := same_upd (o := .tup [.str ("<" : Str), .ref t1, x2]) ntb
    have sc := same_upd (o := .tup [.str ("<" : Str), x2, .ref t1]) ntc
    have sd := same_upd (o := .tup [.str (".." : Str), x2, .ref t1]) ntd
    have se := same_upd (o := .tup [.str ("in" : Str), .str ("X" : Str), .ref td]) nte
    have sl := same_upd (o := .lst [.ref ta, .ref tb, .ref tc, .ref te]) nls
    have sf := same_upd (o := .tup [.str ("and" : Str), w1, w2]) ntf
    have sg := same_upd (o := .tup [.str ("and" : Str), .ref tf, w3]) ntg
    have sh := same_upd (o := .lst [V.ref tg]) nlg
    have s1h := ((((((((sa.trans sb).trans sc).trans sd).trans se).trans sl).trans sf).trans sg).trans sh)
    have nx : NameOk 1 (tl ("X" : Str)) := ⟨88, [], by decide +kernel, .inr (.inl ⟨rfl, by decide, (fun x hx => by cases hx), by decide⟩)⟩
    have h1 := hneg.same s1h
    have h2 := hx25.same s1h
    have eTa := ((((((((sb.trans sc).trans sd).trans se).trans sl).trans sf).trans sg).trans sh)) _ _ (show upd G5 ta (.tup [.str ("is" : Str), .str ("X" : Str), .ref t1]) ta = _ from upd_same)
    have eTb := (((((((sc.trans sd).trans se).trans sl).trans sf).trans sg).trans sh)) tb _ upd_same
    have eTc := ((((((sd.trans se).trans sl).trans sf).trans sg).trans sh)) tc _ upd_same
    have eTd := (((((se.trans sl).trans sf).trans sg).trans sh)) td _ upd_same
    have eTe := ((((sl.trans sf).trans sg).trans sh)) te _ upd_same
    have eLs := (((sf.trans sg).trans sh)) ls _ upd_same
    have eTf := ((sg.trans sh)) tf _ upd_same
    have eTg := sh tg _ upd_same
    have h3 := hw1.same s1h
    have h4 := hw2.same s1h
    have h5 := hw3.same s1h
    have P9 := P5.same s1h
    have k9 : Kx p l H (upd (upd (upd (upd (upd (upd (upd (upd (upd G5 ta (.tup [.str ("is" : Str), .str ("X" : Str), .ref t1])) tb (.tup [.str ("<" : Str), .ref t1, x2])) tc (.tup [.str ("<" : Str), x2, .ref t1])) td (.tup [.str (".." : Str), x2, .ref t1])) te (.tup [.str ("in" : Str), .str ("X" : Str), .ref td])) ls (.lst [.ref ta, .ref tb, .ref tc, .ref te])) tf (.tup [.str ("and" : Str), w1, w2])) tg (.tup [.str ("and" : Str), .ref tf, w3])) lg (.lst [V.ref tg])) := k05.trans (.of s1h)
    have eLg : upd (upd (upd (upd (upd (upd (upd (upd (upd G5 ta (.tup [.str ("is" : Str), .str ("X" : Str), .ref t1])) tb (.tup [.str ("<" : Str), .ref t1, x2])) tc (.tup [.str ("<" : Str), x2, .ref t1])) td (.tup [.str (".." : Str), x2, .ref t1])) te (.tup [.str ("in" : Str), .str ("X" : Str), .ref td])) ls (.lst [.ref ta, .ref tb, .ref tc, .ref te])) tf (.tup [.str ("and" : Str), w1, w2])) tg (.tup [.str ("and" : Str), .ref tf, w3])) lg (.lst [V.ref tg]) lg = some (.lst [V.ref tg]) := upd_same
    clear sa sb sc sd se sl sf sg sh s1h hneg hx25 hw1 hw2 hw3
    generalize upd (upd (upd (upd (upd (upd (upd (upd (upd G5 ta (.tup [.str ("is" : Str), .str ("X" : Str), .ref t1])) tb (.tup [.str ("<" : Str), .ref t1, x2])) tc (.tup [.str ("<" : Str), x2, .ref t1])) td (.tup [.str (".." : Str), x2, .ref t1])) te (.tup [.str ("in" : Str), .str ("X" : Str), .ref td])) ls (.lst [.ref ta, .ref tb, .ref tc, .ref te])) tf (.tup [.str ("and" : Str), w1, w2])) tg (.tup [.str ("and" : Str), .ref tf, w3])) lg (.lst [V.ref tg]) = G9 at *
    have sx := same_upd (o := .lst ([V.ref ta, .ref tb, .ref tc, .ref te] ++ [.ref tg])) nlx
    refine ⟨p, l, _, 5, rfl, P9.same sx, by omega, by decide, by decide, fun n8 G8 n80 n81 P8 k8 => ?_⟩
    have o78 := kxl P9 nlx k8
    have k98 : Kx p l G9 G8 := (Kx.of sx).trans k8
    have P9x := P9
    obtain ⟨y, hy, hat⟩ := atL (xs := [V.ref ta, .ref tb, .ref tc, .ref te] ++ [.ref tg]) n80 (by show n8 < 5; exact n81)
    refine x_ixL (.of o78) hat ?_
    have tup2 : ∀ {t : Addr} {nm : Str} {a b : V} {pa pb : Pt}, G9 t = some (.tup [.str nm, a, b]) → PtAt K G9 11 a pa → PtAt K G9 11 b pb → PtAt K G8 12 (.ref t) (.t nm [pa, pb]) := fun e ha hb => (PtAt.tup (vs := [_, _]) (ps := [_, _]) (.of e) (.append (vs := [_]) (ps := [_]) (.one ha) (.one hb))).kx k98 P9
    have tup2' : ∀ {t : Addr} {nm : Str} {a b : V} {pa pb : Pt}, G9 t = some (.tup [.str nm, a, b]) → PtAt K G9 10 a pa → PtAt K G9 10 b pb → PtAt K G9 11 (.ref t) (.t nm [pa, pb]) := fun e ha hb => PtAt.tup (vs := [_, _]) (ps := [_, _]) (.of e) (.append (vs := [_]) (ps := [_]) (.one ha) (.one hb))
    have fin : ∀ (u : Pt), PtAt K G8 12 y u → (∀ ops o, OpsOk ops → rowOf (ownL ++ ops) "-" 1 = some o → GoOk ops u) → szT u ≤ 60 → dpT u ≤ 11 → Q y G8 := fun u h g z d => q y u G8 h g z d (P8.mono (by omega)) (k9.trans k98)
    simp only [List.cons_append, List.nil_append, List.mem_cons, List.not_mem_nil, or_false] at hy
    have gx : ∀ ops, OpsOk ops → GoOk ops (.s "X") := fun ops k => (SumOk.var nx).ok ops k
    rcases hy with rfl | rfl | rfl | rfl | rfl
    · exact fin (.t "is" [.s "X", .t "-" [u1]]) (tup2 eTa rfl (h1.up (by decide))) (fun ops o k e => .two (by unfold Own; decide +kernel) (gx ops k) (gneg ops o k e)) (by simp only [szT, szL]; omega) (by simp only [dpT, dpL]; omega)
    · exact fin (.t "<" [.t "-" [u1], u2]) (tup2 eTb (h1.up (by decide)) (h2.of_depth (by omega))) (fun ops o k e => .two (by unfold Own; decide +kernel) (gneg ops o k e) (s2.ok ops k)) (by simp only [szT, szL]; omega) (by simp only [dpT, dpL]; omega)
    · exact fin (.t "<" [u2, .t "-" [u1]]) (tup2 eTc (h2.of_depth (by omega)) (h1.up (by decide))) (fun ops o k e => .two (by unfold Own; decide +kernel) (s2.ok ops k) (gneg ops o k e)) (by simp only [szT, szL]; omega) (by simp only [dpT, dpL]; omega)
    · exact fin (.t "in" [.s "X", .t ".." [u2, .t "-" [u1]]]) (tup2 eTe rfl (tup2' eTd (h2.of_depth (by omega)) (h1.up (by decide)))) (fun ops o k e => .two (by unfold Own; decide +kernel) (gx ops k) (.two (by unfold Own; decide +kernel) (s2.ok ops k) (gneg ops o k e))) (by simp only [szT, szL]; omega) (by simp only [dpT, dpL]; omega)
    · exact fin (.t "and" [.t "and" [r1, r2], r3]) (tup2 eTg (tup2' eTf (h3.of_depth (by omega)) (h4.of_depth (by omega))) (h5.of_depth (by omega))) (fun ops o k e => .two (by unfold Own; decide +kernel) (.two (by unfold Own; decide +kernel) (g1 ops k) (g2 ops k)) (g3 ops k)) (by simp only [szT, szL]; omega) (by simp only [dpT, dpL]; omega)
end
end Gs
namespace Gs
open PySem PySem.Spec PyProof.Rows L2 TL SrtK
section
variable {P : Program} {w : World} {K : PySem.W.Frag} {mg : Str → Option Value} {base : Heap} {f : Addr} {fd : FuncData}
def HasHeld (P : Program) (w : World) (K : PySem.W.Frag) (mg : Str → Option Value) (base : Heap) : Prop := Has P w K mg base 1 "_law_held" ["bits"] (spMostOpen K)
theorem ok_law_held (F : Fun K "_law_held" "_law_held" s_law_held f fd) (T : Txt mg) : FnOk P w K mg base CX0 1 f fd ["bits"] (spMostOpen K) := by
  refine F.ok sc_law_held (fun vs H Q E h => ?_) (fun cdv A outer s H vs Q E hr h => ?_)
  · obtain ⟨a, zs, rfl, _⟩ := h
    rfl
  obtain ⟨a, zs, rfl, hS, q⟩ := h
  refine ⟨_, (pss_cons (ps_set (i := 1) sc_law_held.nd rfl (Or.inl rfl) pe_int)
    (pss_cons (ps_set (i := 2) sc_law_held.nd rfl (Or.inl rfl) pe_int)
    (pss_cons (ps_for PassesOwn.never rfl (pi_list (pv 0)) (pg_name (i := 3) sc_law_held.nd rfl (.inl rfl))
      (pss_cons (ps_set (i := 1) sc_law_held.nd rfl (Or.inl rfl) (pe_op op_sub (pe_op op_add (pv 1) (pe_callTy call_int1 (by rfl) T.z_int (by decide +kernel) (pa_cons (pe_cmpR op_eq (pv 3) pe_str (nomark _)) pa_nil))) (pe_callTy call_int1 (by rfl) T.z_int (by decide +kernel) (pa_cons (pe_cmpR op_eq (pv 3) pe_str (nomark _)) pa_nil))))
    (pss_one (ps_set (i := 2) sc_law_held.nd rfl (Or.inl rfl) (pe_callB (call_max2 rfl) (by rfl) T.z_max (by decide +kernel) (pa_cons (pv 2) (pa_cons (pv 1) pa_nil)))))))
    (pss_one (ps_ret (pv 2)))))), ?_⟩
  walk_at "sx"
  refine x_forL (K := K) (a := a) (xs := zs.map V.str) (fun i σ' H' => ∃ x, σ' = [some (.ref a), some (.int ((zs.take i).foldl mo (0, 0)).2), some (.int ((zs.take i).foldl mo (0, 0)).1), x] ∧ H' = H) ⟨none, rfl, rfl⟩ (fun i σ' H' _ h => ?_) (fun i x σ' H' hx h => ?_) (fun σ' H' h => ?_) hS
  · obtain ⟨x, _, rfl⟩ := h
    exact hS
  · obtain ⟨x0, rfl, rfl⟩ := h
    obtain ⟨z, hz, rfl⟩ : ∃ z, zs[i]? = some z ∧ x = .str z := by
      rw [List.getElem?_map] at hx
      cases e : zs[i]? with
      | none =>
        rw [e] at hx
        cases hx
      | some z =>
        rw [e] at hx
        exact ⟨z, rfl, (Option.some.inj hx).symm⟩
    have st : (zs.take (i + 1)).foldl mo (0, 0) = mo ((zs.take i).foldl mo (0, 0)) z := by
      rw [List.take_add_one, hz, List.foldl_append]
      rfl
    rw [st]
    generalize (zs.take i).foldl mo (0, 0) = s
    have ez : ∀ u : Str, (V.str z = V.str u) ↔ z = u := fun u => ⟨V.str.inj, congrArg V.str⟩
    walk_at "sx"
    refine x_ii ?_
    walk_at "sx"
    have e1 : (s.2 + (if decide (V.str z = V.str ("(" : Str)) = true then (1 : Int) else 0)) - (if decide (V.str z = V.str (")" : Str)) = true then (1 : Int) else 0) = (mo s z).2 := by
      unfold mo
      simp only [decide_eq_true_eq, ez]
      by_cases h1 : z = ("(" : Str)
      · have h2 : z ≠ (")" : Str) := fun h => absurd (h1.symm.trans h) (by decide +kernel)
        rw [if_pos h1, if_neg h2, if_pos h1]
        omega
      · rw [if_neg h1, if_neg h1]
        by_cases h2 : z = (")" : Str)
        · rw [if_pos h2, if_pos h2]
          omega
        · rw [if_neg h2, if_neg h2]
          omega
    have e2 : (if (mo s z).2 > s.1 then (mo s z).2 else s.1) = (mo s z).1 := rfl
    rw [e1, e2]
    exact ⟨some (.str z), rfl, rfl⟩
  · obtain ⟨x, rfl, rfl⟩ := h
    rw [List.length_map, List.take_length] at *
    walk_at "sx"
    exact q
end
end Gs
namespace Gs
open PySem PySem.Spec PyProof.Rows L2 TL SrtK
abbrev s_law_told : Stmt := PySem.Challenge.pw_goalstead_k14_goals_by_their_shapes.main.body.getD 107 (.Pass ⟨0, 0, 0, 0⟩)
theorem sc_law_told : FnScope ["line", "ops"] ["line", "ops"] (defScope s_law_told) := ⟨rfl, rfl, rfl, by decide +kernel, rfl, by decide +kernel, by decide +kernel⟩
def spTold14 (K : PySem.W.Frag) (d dd : Nat) : Sp := fun vs H Q _ => ∃ (line : Str) (b : Addr) (es : List V) (ops : List Op) (zs : List Str) (o : Option Pt), vs = [.str line, .ref b] ∧ H b = some (.lst es) ∧ RowsAt K H es ops ∧ OpsOk ops ∧ TabOk (ownL ++ ops) ∧
  line.length ≤ 100000 ∧ Cut (tl line) (zs.map tl) ∧ (∀ z ∈ zs, isPc (tl z) = true) ∧ RdO (ownL ++ ops) d zs o ∧ (200 < zs.length ∨ 12 < mostOpen zs → ∀ D v H', Same H H' → H' D = some (.lst [.str ("size" : Str), v]) → Q (.ref D) H') ∧
  (zs.length ≤ 200 → mostOpen zs ≤ 12 → (o = none → ∀ D v H', Same H H' → H' D = some (.lst [.str ("shape" : Str), v]) → Q (.ref D) H') ∧
  ∀ p, o = some p → OkP p ∧ szT p ≤ 1000 ∧ dpT p ≤ dd ∧ (goalP p = false → ∀ D v H', Same H H' → H' D = some (.lst [.str ("shape" : Str), v]) → Q (.ref D) H') ∧ (goalP p = true → (60 < szT p ∨ 12 < dpT p) → ∀ D v H', Same H H' → H' D = some (.lst [.str ("size" : Str), v]) → Q (.ref D) H') ∧
    (goalP p = true → szT p ≤ 60 ∧ dpT p ≤ 12 → ∀ x D H', Same H H' → PtAt K H' (dpT p) x p → H' D = some (.lst [.str ("told" : Str), x]) → Q (.ref D) H'))
section
variable {P : Program} {w : World} {K : PySem.W.Frag} {mg : Str → Option Value} {base : Heap} {f BS BZ : Addr} {fd : FuncData}
def HasTold14 (d dd : Nat) (P : Program) (w : World) (K : PySem.W.Frag) (mg : Str → Option Value) (base : Heap) : Prop := Has P w K mg base (4 * d + 9) "_law_told" ["line", "ops"] (spTold14 K d dd)
theorem ok_law_told14 {d dd : Nat} (F : Fun K "_law_told" "_law_told" s_law_told f fd) (E_BadShape : HasErr P w K mg base "BadShape" "line" BS) (E_BadSize : HasErr P w K mg base "BadSize" "line" BZ) (hne : PySem.W.exmOne K (.ref BZ) (.ref BS) = some false) (C_read_goal : HasReadGS BS BZ d dd P w K mg base) : FnOk P w K mg base CX0 (4 * d + 9) f fd ["line", "ops"] (spTold14 K d dd) := by
  refine F.ok sc_law_told (fun vs H Q E h => ?_) (fun cdv A outer s H vs Q E hr h => ?_)
  · obtain ⟨line, b, es, ops, zs, o, rfl, _⟩ := h
    rfl
  obtain ⟨line, b, es, ops, zs, o, rfl, hb, hro, oko, tok, hl, hcut, hpc, hrd, qz, q0⟩ := h
  refine ⟨_, (pss_one (ps_try_many rfl rfl takes0
      (fun W pn xe tk _ => (pss_one (ps_ret (pe_lst (pa_cons pe_str (pa_cons (pe_callHDE C_read_goal hr tk (pa_cons (pv 0) (pa_cons (pv 1) pa_nil)) (hk := by omega)) pa_nil))))))
      (HdsOk.cons ⟨rfl, by decide, Or.inl E_BadShape.mC⟩
      (fun a oe cls d pn _ _ => (pss_one (ps_ret (pe_lst (pa_cons pe_str (pa_cons (pe_tup pa_nil) pa_nil))))))
      (HdsOk.cons ⟨rfl, by decide, Or.inl E_BadSize.mC⟩
      (fun a oe cls d pn _ _ => (pss_one (ps_ret (pe_lst (pa_cons pe_str (pa_cons (pe_tup pa_nil) pa_nil))))))
      HdsOk.nil)))), ?_⟩
  walk_at "sx"
  refine x_callSD ?_
  walk_at "sx"
  refine ⟨line, 200, b, es, ops, zs, o, rfl, hb, hro, oko, tok, hl, hcut, hpc, by decide, hrd, fun e => ?_, fun hm1 hm2 => ⟨fun e => ?_, fun p e => ?_⟩⟩
  · intro dd' H' sH hd
    refine ⟨false, hne, fun z => Bool.noConfusion z, fun _ => ⟨true, E_BadSize.ex, fun _ a0 h0 => ?_, fun z => Bool.noConfusion z⟩⟩
    walk_at "sx"
    rename_i t0 nt0 o1 no1
    exact qz (by omega) o1 _ _ ((sH.trans (same_upd nt0)).trans (same_upd no1)) upd_same
  · intro dd' H' sH hd
    refine ⟨true, E_BadShape.ex, fun _ a0 h0 => ?_, fun z => Bool.noConfusion z⟩
    walk_at "sx"
    rename_i t0 nt0 o1 no1
    exact (q0 (by omega) hm2).1 e o1 _ _ ((sH.trans (same_upd nt0)).trans (same_upd no1)) upd_same
  · obtain ⟨h1, h2, h3, h4, h5, h6⟩ := (q0 (by omega) hm2).2 p e
    refine ⟨h1, h2, h3, fun hg => ?_, fun hg hz => ?_, fun hg hz x H' sH px => ?_⟩
    · intro dd' H' sH hd
      refine ⟨true, E_BadShape.ex, fun _ a0 h0 => ?_, fun z => Bool.noConfusion z⟩
      walk_at "sx"
      rename_i t0 nt0 o1 no1
      exact h4 hg o1 _ _ ((sH.trans (same_upd nt0)).trans (same_upd no1)) upd_same
    · intro dd' H' sH hd
      refine ⟨false, hne, fun z => Bool.noConfusion z, fun _ => ⟨true, E_BadSize.ex, fun _ a0 h0 => ?_, fun z => Bool.noConfusion z⟩⟩
      walk_at "sx"
      rename_i t0 nt0 o1 no1
      exact h5 hg hz o1 _ _ ((sH.trans (same_upd nt0)).trans (same_upd no1)) upd_same
    · walk_at "sx"
      rename_i o1 no1
      exact h6 hg hz x o1 _ (sH.trans (same_upd no1)) (px.same (same_upd no1)) upd_same
end
end Gs
namespace Gs
open PySem PySem.Spec
theorem exm_off {K : PySem.W.Frag} {S T : Addr} (h1 : PySem.W.subIn K (.ref T) (.type "BaseException") = some true) (h2 : PySem.W.isClsIn K T = true) (h3 : PySem.W.typeIn K (.ref T) = some (.type "type")) (h4 : PySem.W.subIn K (.ref S) (.ref T) = some false) : PySem.W.exmOne K (.ref S) (.ref T) = some false := by
  have h2' : (PySem.W.clsIn K T).isSome = true := h2
  unfold PySem.W.exmOne
  simp only [h1, BEq.rfl, if_true]
  unfold PySem.W.kitCls
  simp only [h3, h4, h2', BEq.rfl, Bool.and_self, if_true]
end Gs
namespace Gs
open PySem PySem.Spec PyProof.Rows L2 TL SrtK
abbrev s_law : Stmt := PySem.Challenge.pw_goalstead_k14_goals_by_their_shapes.main.body.getD 108 (.Pass ⟨0, 0, 0, 0⟩)
theorem sc_law : FnScope ["script", "pool", "ops", "thing", "bits", "line", "found", "due", "row"] ["script"] (defScope s_law) := ⟨rfl, rfl, rfl, by decide +kernel, rfl, by decide +kernel, by decide +kernel⟩
theorem same_kx {A B C : Hp} {p l : Addr} (s : Same A B) (np : A p = none) (nl : A l = none) (k : Kx p l B C) : Same A C := fun c o e => k c o (s c o e) (ne_of_none e np) (ne_of_none e nl)
theorem NmOk.strOk {z : Str} (h : NmOk z) : PyData.strOk z = true := by
  obtain ⟨way, c, t, e, h⟩ := h
  have sm : ∀ x ∈ tl z, x < 128 := fun x hx => by
    have hd : x ∈ sS ++ sD → x < 128 := fun hc => by
      rw [List.mem_append, sS_iff, sD_iff] at hc
      omega
    rw [e] at hx
    rcases h with ⟨_, hc, ht, _⟩ | ⟨_, hc, ht, _⟩ | ⟨_, hc, ht, _⟩
    · rcases List.mem_cons.mp hx with rfl | hx
      · exact hd (List.mem_append_left _ hc)
      · exact hd (ht x hx)
    · rcases List.mem_cons.mp hx with rfl | hx
      · have := sC_iff.mp hc
        omega
      · exact hd (ht x hx)
    · rcases List.mem_cons.mp hx with rfl | hx
      · have := sM_all hc
        omega
      · have := sM_all (ht x hx)
        omega
  unfold PyData.strOk
  rw [← Array.all_toList]
  refine List.all_eq_true.mpr fun x hx => decide_eq_true ?_
  have := sm x hx
  omega
/-! ### the operators with a sign ahead -/
def hdF (o : Op) : Bool := !(decide (o.s = ("ahead" : Str)) && decide (o.n = ("-" : Str)))
def negO : Op := ⟨5, "ahead", "-"⟩
theorem row_neg_none {ops : List Op} : rowOf (ownL ++ ops.filter hdF) "-" 1 = none := by
  unfold rowOf
  rw [List.find?_eq_none]
  intro o ho hr
  have hr := of_decide_eq_true hr
  have hs : o.s = ("ahead" : Str) := by
    by_cases h : o.s = ("ahead" : Str)
    · exact h
    · have := hr.2
      rw [if_neg h] at this
      exact absurd this (by decide)
  rcases List.mem_append.mp ho with ho | ho
  · have : ∀ o ∈ ownL, ¬ (o.n = ("-" : Str) ∧ o.s = ("ahead" : Str)) := by decide +kernel
    exact this o ho ⟨hr.1, hs⟩
  · have := (List.mem_filter.mp ho).2
    unfold hdF at this
    rw [hs, hr.1] at this
    simp at this
theorem OpsOk.filt {ops : List Op} (k : OpsOk ops) : OpsOk (ops.filter hdF) := by
  have sub : ∀ o ∈ ops.filter hdF, o ∈ ops := fun o h => (List.mem_filter.mp h).1
  have sl : (ownL ++ ops.filter hdF).Sublist (ownL ++ ops) := List.Sublist.append (List.Sublist.refl _) List.filter_sublist
  exact ⟨Nat.le_trans (List.length_filter_le _ _) k.len, fun o h => k.lv o (sub o h), fun o h => k.nm o (sub o h), k.nd.sublist (sl.map _), fun o h => k.sd o (sub o h), fun a ha b hb => k.sid a (sl.subset ha) b (sl.subset hb), fun o h => k.lc o (sub o h), fun o h => k.nk o (sub o h)⟩
theorem OpsOk.neg {ops : List Op} (k : OpsOk ops) (h7 : ops.length ≤ 7) : OpsOk (ops.filter hdF ++ [negO]) := by
  refine OpsOk.more k.filt (Nat.le_trans (List.length_filter_le _ _) h7) (by decide) (show Own "-" 2 by unfold Own; decide +kernel).nm (by decide +kernel) (fun c t e hc => ?_) (by decide +kernel) (fun e _ _ _ h => absurd rfl h) ?_
  · have e2 : tl negO.n = [45] := by decide +kernel
    rw [e2] at e
    cases e
    exact absurd hc (by decide)
  · rw [show (if negO.s = ("ahead" : Str) then 1 else 2) = 1 from if_pos rfl]
    exact row_neg_none
theorem row_neg {ops : List Op} : ∃ o, rowOf (ownL ++ (ops.filter hdF ++ [negO])) "-" 1 = some o := by
  cases e : rowOf (ownL ++ (ops.filter hdF ++ [negO])) "-" 1 with
  | some o => exact ⟨o, rfl⟩
  | none =>
    unfold rowOf at e
    rw [List.find?_eq_none] at e
    exact absurd (show isRow "-" 1 negO = true by decide +kernel) (e negO (by simp))
/-- what is due -/
def dueS (u : Pt) (zs : List Str) : Str := if 200 < zs.length ∨ 12 < mostOpen zs then "size" else if goalP u = false then "shape" else if 60 < szT u ∨ 12 < dpT u then "size" else "told"
section
variable {P : Program} {w : World} {K : PySem.W.Frag} {mg : Str → Option Value} {base : Heap} {f C BS BZ : Addr} {fd : FuncData}
def HasPool (P : Program) (w : World) (K : PySem.W.Frag) (mg : Str → Option Value) (base : Heap) : Prop := Has P w K mg base 1 "_law_pool" ["script", "k"] (spPool K)
def HasLine (P : Program) (w : World) (K : PySem.W.Frag) (mg : Str → Option Value) (base : Heap) : Prop := Has P w K mg base 3 "_law_line" ["bits", "pool"] (spLine K)
theorem ok_law (F : Fun K "law" "law" s_law f fd) (T : Txt mg) (C_law_pool : HasPool P w K mg base) (C_law_ops : HasOps P w K mg base) (C_law_wide : HasWide P w K mg base) (C_law_take : HasTake P w K mg base) (C_law_headed : HasHeaded P w K mg base) (C_law_changed : HasChanged 12 P w K mg base) (C_law_other : HasOther P w K mg base) (C_law_spelt : HasSpelt 20 P w K mg base) (C_law_line : HasLine P w K mg base) (C_law_told : HasTold14 40 20 P w K mg base) (C_law_weight : HasWt 21 P w K mg base) (C_law_goal_ok : HasL 45 "_law_goal_ok" 20 goalP P w K mg base) (C_law_held : HasHeld P w K mg base) (C_law_alike : HasLAlike20 12 P w K mg base) :
    FnOk P w K mg base CX0 175 f fd ["script"] (spLaw K) := by
  refine F.ok sc_law (fun vs H Q E h => ?_) (fun cdv A outer s H vs Q E hr h => ?_)
  · obtain ⟨a, ns, rfl, _⟩ := h
    rfl
  obtain ⟨a, ns, rfl, hS, hlen, q⟩ := h
  refine ⟨_, (pss_cons (ps_set (i := 1) sc_law.nd rfl (Or.inl rfl) (pe_callH C_law_pool hr (pa_cons (pv 0) (pa_cons pe_int pa_nil))))
    (pss_cons (ps_set (i := 2) sc_law.nd rfl (Or.inl rfl) (pe_callH C_law_ops hr (pa_cons (pe_callH C_law_pool hr (pa_cons (pv 0) (pa_cons pe_int pa_nil))) pa_nil)))
    (pss_cons (ps_set (i := 3) sc_law.nd rfl (Or.inl rfl) (pe_callH C_law_wide hr (pa_cons (pv 1) (pa_cons (pv 2) pa_nil))))
    (Evl.pss_cut (ps_if (pt_cmpR op_eq (pe_callH C_law_take hr (pa_cons (pv 1) (pa_cons pe_int pa_nil))) pe_int (nomark _))
      (pss_cons (ps_set (i := 2) sc_law.nd rfl (Or.inl rfl) (pe_op op_cat (pe_lc (own := [("row", 8)]) (g := gName 8) rfl sc_law.nd (pi_list (pv 2)) (blkOk_by (own := [("row", 8)]) (N := ["script", "pool", "ops", "thing", "bits", "line", "found", "due", "row"]) (sc := defScope s_law) (by decide +kernel)) (fun _ _ _ _ _ => pg_name (i := 8) sc_law.nd rfl (Or.inl rfl)) (fun _ _ _ _ _ => (pts_one (pt_cmpR (op_neDK (K := K) hr.units) (pe_slice (sl_tupAK (K := K)) (pv 8) (po_some pe_int) po_none) (pe_tup (pa_cons pe_str (pa_cons pe_str pa_nil))) (nomark _)))) (fun _ _ _ _ _ => (pv 8))) (pe_lst (pa_cons (pe_tup (pa_cons pe_int (pa_cons pe_str (pa_cons pe_str pa_nil)))) pa_nil))))
    (pss_one (ps_set (i := 3) sc_law.nd rfl (Or.inl rfl) (pe_callH C_law_headed hr (pa_cons (pv 1) pa_nil)))))
      (pss_one (ps_if (pt_cmpR op_gt (pe_callH C_law_take hr (pa_cons (pv 1) (pa_cons pe_int pa_nil))) pe_int (nomark _))
      (pss_one (ps_set (i := 3) sc_law.nd rfl (Or.inl rfl) (pe_callH C_law_changed hr (pa_cons (pv 1) (pa_cons (pv 3) (pa_cons (pe_callH C_law_other hr (pa_cons (pv 1) (pa_cons (pv 2) (pa_cons (pv 3) pa_nil)))) pa_nil))))))
      pss_nil)))
    (pss_cons (ps_set (i := 4) sc_law.nd rfl (Or.inl rfl) (pe_callH C_law_spelt hr (pa_cons (pv 3) (pa_cons pe_int (pa_cons (pv 2) (pa_cons (pe_callH C_law_pool hr (pa_cons (pv 0) (pa_cons pe_int pa_nil))) (pa_cons pe_int pa_nil)))))))
    (pss_cons (ps_set (i := 5) sc_law.nd rfl (Or.inl rfl) (pe_callH C_law_line hr (pa_cons (pv 4) (pa_cons (pe_callH C_law_pool hr (pa_cons (pv 0) (pa_cons pe_int pa_nil))) pa_nil))))
    (pss_cons (ps_if (pt_cmpR op_gt (pe_callB call_len_str (by rfl) T.z_len (by decide +kernel) (pa_cons (pv 5) pa_nil)) pe_int (nomark _))
      (pss_one (ps_ret pe_bl))
      pss_nil)
    (Evl.pss_cut (ps_set (i := 6) sc_law.nd rfl (Or.inl rfl) (pe_callH C_law_told hr (pa_cons (pv 5) (pa_cons (pe_callTy call_list_of (by rfl) T.z_list (by decide +kernel) (pa_cons (pv 2) pa_nil)) pa_nil))))
    (Evl.pss_cut (ps_set (i := 7) sc_law.nd rfl (Or.inl rfl) (pe_ix (ix_listK (K := K)) (pe_lst (pa_cons pe_str (pa_cons pe_str pa_nil))) (pe_callTy call_int1 (by rfl) T.z_int (by decide +kernel) (pa_cons (pe_or (pe_cmpR op_gt (pe_ix (ix_tupK (K := K)) (pe_callH C_law_weight hr (pa_cons (pv 3) pa_nil)) pe_int (fun _ _ => rfl)) pe_int (nomark _)) (pe_one (pe_cmpR op_gt (pe_ix (ix_tupK (K := K)) (pe_callH C_law_weight hr (pa_cons (pv 3) pa_nil)) pe_int (fun _ _ => rfl)) pe_int (nomark _)))) pa_nil)) (fun _ _ => rfl)))
    (Evl.pss_cut (ps_if (pt_not (pt_val (pe_callH C_law_goal_ok hr (pa_cons (pv 3) pa_nil))))
      (pss_one (ps_set (i := 7) sc_law.nd rfl (Or.inl rfl) pe_str))
      pss_nil)
    (Evl.pss_cut (ps_if (PW.pt (pw_or (pt_cmpR op_gt (pe_callB (call_lenK (K := K)) (by rfl) T.z_len (by decide +kernel) (pa_cons (pv 4) pa_nil)) pe_int (nomark _)) (pw_or1 (pt_cmpR op_gt (pe_callH C_law_held hr (pa_cons (pv 4) pa_nil)) pe_int (nomark _)))))
      (pss_one (ps_set (i := 7) sc_law.nd rfl (Or.inl rfl) pe_str))
      pss_nil)
    (pss_one (ps_ret (pe_and (pe_cmpR op_eq (pe_ix (ix_listK (K := K)) (pv 6) pe_int (fun _ _ => rfl)) (pv 7) (nomark _)) (pe_one (pe_or (pe_cmpR op_ne (pv 7) pe_str (nomark _)) (pe_one (pe_callH C_law_alike hr (pa_cons (pe_ix (ix_listK (K := K)) (pv 6) pe_int (fun _ _ => rfl)) (pa_cons (pv 3) pa_nil)))))))))))))))))))), ?_⟩
  walk_at "sx"
  refine ⟨a, ns, 0, rfl, hS, hlen, by decide, by decide, fun p l H1 np nl s1 P1 => ?_⟩
  walk_at "sx"
  refine ⟨a, ns, 1, rfl, s1.seq hS, hlen, by decide, by decide, fun p1 l1 H2 np1 nl1 s2 Q1 => ?_⟩
  walk_at "sx"
  refine ⟨p1, l1, 0, rfl, Q1, by decide, fun oa es ops H3 noa hoa k3 hro oko _ l7 => ?_⟩
  have s13 : Same H1 H3 := same_kx s2 np1 nl1 k3
  have P3 := P1.same s13
  have fo := (P1.same s2).fresh noa
  have sH3 := s1.trans s13
  walk_at "sx"
  refine ⟨p, l, oa, 0, es, ops, rfl, P3, by decide, hoa, fo.1, fo.2, hro, oko, fun x u H4 px gu zu du P4 k4 => ?_⟩
  have sH4 : Same H H4 := same_kx sH3 np nl k4
  have o4 := k4 _ _ hoa fo.1 fo.2
  have r4 := hro.kx k4 P3
  walk_at "sx"
  refine x_cut (M := fun σ' G => ∃ (x : V) (u : Pt) (ob : Addr) (es : List V) (ops : List Op), σ' = [some (.ref a), some (.ref p), some (.ref ob), some x, none, none, none, none, none] ∧ PtAt K G 20 x u ∧ GoOk ops u ∧ szT u ≤ 190 ∧ dpT u ≤ 19 ∧ G ob = some (.lst es) ∧ RowsAt K G es ops ∧ OpsOk ops ∧ Same H G) ?_ ?_
  · walk_at "sx"
    refine ⟨p, l, _, 8, rfl, P4, by omega, by decide, by decide, fun n5 H5 n50 n51 P5 k5 => ?_⟩
    have sH5 : Same H H5 := same_kx sH4 np nl k5
    have o5 := k5 _ _ o4 fo.1 fo.2
    have r5 := r4.kx k5 P4
    have px5 := px.kx k5 P4
    walk_at "sx"
    refine x_ite (fun c1 => ?_) (fun c1 => ?_)
    · walk_at "sx"
      refine x_lcL (K := K) (a := oa) (xs := es) (fun D j G => ∃ (us : List V), Same H5 G ∧ G D = some (.lst us) ∧ us.length ≤ j ∧ RowsAt K G us ((ops.take j).filter hdF)) (.of o5) (fun D hD => ⟨[], same_upd hD, upd_same, Nat.le_refl _, .nil⟩) ?_ ?_ ?_
      · rintro D hD j G' _ ⟨us, h1, _⟩
        exact .of (h1 _ _ o5)
      · rintro D hD j x G' hx ⟨us, h1, h2, h3, h4⟩
        obtain ⟨t, e, rfl, he, st⟩ := r5.at hx
        have st' := Same.sqT h1 st
        have hj : j < es.length := (List.getElem?_eq_some_iff.mp hx).1
        have hle : es.length = ops.length := r5.1
        have et : (ops.take (j + 1)).filter hdF = (ops.take j).filter hdF ++ if hdF e = true then [e] else [] := by
          rw [List.take_add_one, he, List.filter_append]
          congr 1
          show List.filter hdF [e] = _
          by_cases hb : hdF e = true
          · rw [if_pos hb, List.filter_cons_of_pos hb]
            rfl
          · rw [if_neg hb, List.filter_cons_of_neg hb]
            rfl
        walk_at "sx"
        refine ⟨rfl, ?_⟩
        walk_at "sx"
        refine x_slA st' fun t2 G2 k2 st2 => ?_
        rw [show cutV (rowV e) (some 1) none = [.str e.s, .str e.n] from cut_tail _ _] at st2
        walk_at "sx"
        rename_i t3 nt3
        have s3 := same_upd (o := .tup [.str ("ahead" : Str), .str ("-" : Str)]) nt3
        have eo := List.mem_of_getElem? he
        have sk := (k2.trans s3)
        have ee : (!PyData.eqv (.tuple [.str e.s, .str e.n]) (.tuple [.str ("ahead" : Str), .str ("-" : Str)])) = hdF e := by
          unfold hdF
          have hb2 : ∀ a b : Str, (a == b) = decide (a = b) := fun a b => by rw [Bool.eq_iff_iff]; simp
          simp [PyData.eqv, PyData.eqvAll]
          rw [hb2, hb2]
        refine ⟨.tuple [.str e.s, .str e.n], .tuple [.str ("ahead" : Str), .str ("-" : Str)], .tup (Same.sqT s3 st2) (.cons (.str _) (.cons (.str _) .nil)), .tup (.of upd_same) (.cons (.str _) (.cons (.str _) .nil)), ?_, by decide +kernel, ?_⟩
        · have hs1 := oko.sd e eo
          have hs2 := (oko.nm e eo).strOk
          simp [SeqAt.shaped, PyData.canLay0, PyData.canLayAll0, PyData.depth, PyData.depthAll, hs1, hs2]
        rw [ee]
        cases hb : hdF e with
        | true =>
          rw [hb] at et
          walk_at "sx"
          refine ⟨_, sk _ _ h2, szl (by omega), us ++ [.ref t], same_updf (h1.trans sk) hD, upd_same, by rw [List.length_append]; show us.length + 1 ≤ _; omega, ?_⟩
          rw [et]
          exact ((h4.same sk).append (.cons (Same.sqT sk st') .nil)).lst (ys := us) (sk _ _ h2)
        | false =>
          rw [hb] at et
          walk_at "sx"
          refine ⟨us, h1.trans sk, sk _ _ h2, by omega, ?_⟩
          rw [et]
          simpa using h4.same sk
      · rintro D hD G ⟨us, h1, h2, h3, h4⟩
        have hle : es.length = ops.length := r5.1
        rw [hle, List.take_length] at h4
        have hul := h4.1
        have P5G := P5.same h1
        have sHG := sH5.trans h1
        walk_at "sx"
        rename_i tn ntn ol nol
        have st := same_upd (o := .tup [.int 5, .str ("ahead" : Str), .str ("-" : Str)]) ntn
        have sl := same_upd (o := .lst [.ref tn]) nol
        refine x_cat ((st.trans sl) _ _ h2) upd_same (sz (by show us.length + 1 ≤ _; omega)) fun ob nob => ?_
        have sb := same_upd (o := .lst (us ++ [.ref tn])) nob
        have sGb := (st.trans sl).trans sb
        have fb := (P5G.same (st.trans sl)).fresh nob
        have rb := ((h4.same sGb).append (.cons (o := negO) (Same.sqT (sl.trans sb) (.of upd_same)) .nil))
        walk_at "sx"
        refine ⟨p, l, _, rfl, P5G.same sGb, by omega, fun y uy H7 py gy zy dy P7 k7 => ?_⟩
        obtain ⟨oo, hoo⟩ := row_neg (ops := ops)
        walk_at "sx"
        exact ⟨y, uy, ob, _, ops.filter hdF ++ [negO], rfl, py.up (by decide), gy _ oo (oko.neg l7) hoo, by omega, by omega, k7 _ _ upd_same fb.1 fb.2, rb.kx k7 (P5G.same sGb), oko.neg l7, same_kx (sHG.trans sGb) np nl k7⟩
    · walk_at "sx"
      refine ⟨p, l, _, 3, rfl, P5, by omega, by decide, by decide, fun n6 H6 n60 n61 P6 k6 => ?_⟩
      have sH6 : Same H H6 := same_kx sH5 np nl k6
      have o6 := k6 _ _ o5 fo.1 fo.2
      have r6 := r5.kx k6 P5
      have px6 := px5.kx k6 P5
      walk_at "sx"
      refine x_ite (fun c2 => ?_) (fun c2 => ?_)
      · walk_at "sx"
        refine ⟨p, l, oa, _, x, u, es, ops, rfl, px6, gu, by omega, P6, by omega, o6, fo.1, fo.2, r6, oko, fun y uy H7 py gy zy dy P7 k7 => ?_⟩
        have sH7 : Same H H7 := same_kx sH6 np nl k7
        walk_at "sx"
        refine ⟨p, l, _, x, y, u, uy, ops, rfl, px6.kx k7 P6, py, gu, gy, P7, by omega, fun z uz H8 pz gz zz dz P8 k8 => ?_⟩
        walk_at "sx"
        exact ⟨z, uz, oa, es, ops, rfl, pz.of_depth (by omega), gz, by omega, by omega, k8 _ _ (k7 _ _ o6 fo.1 fo.2) fo.1 fo.2, (r6.kx k7 P6).kx k8 P7, oko, same_kx sH7 np nl k8⟩
      · walk_at "sx"
        exact ⟨x, u, oa, es, ops, rfl, px6.up (by decide), gu, by omega, by omega, o6, r6, oko, sH6⟩
  clear hro o4 r4 oko l7 gu zu du px fo hoa
  rintro σ' G ⟨x, u, ob, es, ops, rfl, px, gu, zu, du, hob, hro, oko, sG⟩
  walk_at "sx"
  refine ⟨a, ns, 2, rfl, sG.seq hS, hlen, by decide, by decide, fun p2 l2 H6 np2 nl2 s6 Q2 => ?_⟩
  walk_at "sx"
  refine ⟨x, u, 9, ob, es, ops, p2, l2, 0, 0, rfl, px.same s6, gu.nm, gu.rd, s6 _ _ hob, ne_of_none hob np2, ne_of_none hob nl2, hro.same s6, oko, by decide, by decide, Q2, by omega, by omega, by decide, by omega, fun D zs H7 spl eD nD1 nD2 Q7 k7 => ?_⟩
  have s67 : Same G H7 := same_kx s6 np2 nl2 k7
  have sH7 := sG.trans s67
  have lnz := spl.ln
  walk_at "sx"
  refine ⟨a, ns, 3, rfl, sH7.seq hS, hlen, by decide, by decide, fun p3 l3 H8 np3 nl3 s8 Q8 => ?_⟩
  walk_at "sx"
  refine ⟨D, p3, l3, zs, 0, rfl, .of (s8 _ _ eD), ne_of_none eD np3, ne_of_none eD nl3, spl.ok, by omega, Q8, by decide, fun y H9 cut lz Q9 k9 => ?_⟩
  have s79 : Same H7 H9 := same_kx s8 np3 nl3 k9
  have s69 := s67.trans s79
  have eD9 := s79 _ _ eD
  have o9 := s69 _ _ hob
  have r9 := hro.same s69
  have px9 := px.same s69
  walk_at "sx"
  refine x_lenS (sz (by omega)) ?_
  walk_at "sx"
  refine x_ite (fun c1 => ?_) (fun c1 => ?_)
  · walk_at "sx"
    exact q _
  walk_at "sx"
  refine x_cut (M := fun σ' G9 => ∃ (D2 : Addr) (tag : Str) (v : V), σ' = [some (.ref a), some (.ref p), some (.ref ob), some x, some (.ref D), some (.str y), some (.ref D2), none, none] ∧ Same H9 G9 ∧ G9 D2 = some (.lst [.str tag, v]) ∧ tag = dueS u zs ∧ (tag = ("told" : Str) → PtAt K G9 12 v u)) ?_ ?_
  · walk_at "sx"
    refine ⟨ob, es, rfl, .inl (.of o9), fun hd nhd => ?_⟩
    have s10 := same_upd (o := .lst es) nhd
    have e10 : upd H9 hd (.lst es) hd = some (.lst es) := upd_same
    have r10 := r9.same s10
    generalize upd H9 hd (.lst es) = H10 at *
    obtain ⟨lev, hlev, hsp⟩ := spl.sp 40 (by omega)
    have tok := tab_ok oko
    walk_at "sx"
    refine ⟨y, hd, es, ops, zs, some u, rfl, e10, r10, oko, tok, by omega, cut, fun t ht => (spl.ok t ht).pc, Spt.rdo tok hsp hlev, fun hz D2 v G2 sg eg => ?_, fun hm1 hm2 => ⟨(fun e => by cases e), fun p' e => ?_⟩⟩
    · walk_at "sx"
      refine ⟨D2, _, v, rfl, s10.trans sg, eg, ?_, fun h => absurd h (by decide +kernel)⟩
      unfold dueS
      rw [if_pos hz]
    cases e
    refine ⟨okT_imp (fun z h => nm_tx15 h) (fun _ _ => trivial) gu.nm, by omega, by omega, fun hg D2 v G2 sg eg => ?_, fun hg hz D2 v G2 sg eg => ?_, fun hg hz v D2 G2 sg pv eg => ?_⟩
    · walk_at "sx"
      refine ⟨D2, _, v, rfl, s10.trans sg, eg, ?_, fun h => absurd h (by decide +kernel)⟩
      unfold dueS
      rw [if_neg (by omega), if_pos hg]
    · walk_at "sx"
      refine ⟨D2, _, v, rfl, s10.trans sg, eg, ?_, fun h => absurd h (by decide +kernel)⟩
      unfold dueS
      rw [if_neg (by omega), if_neg (by rw [hg]; decide), if_pos hz]
    · walk_at "sx"
      refine ⟨D2, _, v, rfl, s10.trans sg, eg, ?_, fun _ => pv.up (by omega)⟩
      unfold dueS
      rw [if_neg (by omega), if_neg (by rw [hg]; decide), if_neg (by omega)]
  rintro σ' G9 ⟨D2, tag, v, rfl, s9, e2, htag, htold⟩
  have px10 := px9.same s9
  have eD10 := s9 _ _ eD9
  refine x_cut (M := fun σ' G' => σ' = [some (.ref a), some (.ref p), some (.ref ob), some x, some (.ref D), some (.str y), some (.ref D2), some (.str (if 60 < szT u ∨ 12 < dpT u then ("size" : Str) else "told")), none] ∧ Same G9 G') ?_ ?_
  · walk_at "sx"
    rename_i o1 no1
    have s1 := same_upd (o := .lst [V.str ("told" : Str), .str ("size" : Str)]) no1
    have e1 : upd G9 o1 (.lst [V.str ("told" : Str), .str ("size" : Str)]) o1 = some (.lst [V.str ("told" : Str), .str ("size" : Str)]) := upd_same
    have px11 := px10.same s1
    generalize upd G9 o1 (.lst [V.str ("told" : Str), .str ("size" : Str)]) = G10 at *
    refine ⟨x, u, rfl, px11.up (by decide), gu.nm, fun w1 H11 s11 tw => ?_⟩
    obtain ⟨t11, rfl, st11⟩ := two_inv tw
    walk_at "sx"
    refine x_ite (fun c => ?_) (fun c => ?_)
    · have c' : (60 : Int) < ((szT u : Nat) : Int) := c
      walk_at "sx"
      rw [if_pos rfl]
      refine x_ixL (.of (s11 _ _ e1)) (at1 rfl) ?_
      walk_at "sx"
      exact ⟨by rw [if_pos (Or.inl (by omega))]; rfl, s1.trans s11⟩
    · have c' : ¬ (60 : Int) < ((szT u : Nat) : Int) := c
      walk_at "sx"
      refine ⟨x, u, rfl, (px11.same s11).up (by decide), gu.nm, fun w2 H12 s12 tw2 => ?_⟩
      obtain ⟨t12, rfl, st12⟩ := two_inv tw2
      have e12 := s12 _ _ (s11 _ _ e1)
      walk_at "sx"
      cases h12 : decide ((12 : Int) < ((dpT u : Nat) : Int)) with
      | true =>
        have h := of_decide_eq_true h12
        rw [if_pos rfl]
        refine x_ixL (.of e12) (at1 rfl) ?_
        walk_at "sx"
        exact ⟨by rw [if_pos (Or.inr (by omega))]; rfl, (s1.trans s11).trans s12⟩
      | false =>
        have h := of_decide_eq_false h12
        rw [if_neg Bool.false_ne_true]
        refine x_ixL (.of e12) (at0 rfl) ?_
        walk_at "sx"
        exact ⟨by rw [if_neg (show ¬ (60 < szT u ∨ 12 < dpT u) by omega)]; rfl, (s1.trans s11).trans s12⟩
  rintro σ' G10 ⟨rfl, s10⟩
  have px11 := px10.same s10
  refine x_cut (M := fun σ' G' => σ' = [some (.ref a), some (.ref p), some (.ref ob), some x, some (.ref D), some (.str y), some (.ref D2), some (.str (if goalP u = false then ("shape" : Str) else if 60 < szT u ∨ 12 < dpT u then "size" else "told")), none] ∧ Same G9 G') ?_ ?_
  · walk_at "sx"
    refine ⟨x, u, rfl, px11, ⟨ops, oko, gu⟩, by omega, fun G11 s11 => ?_⟩
    cases hg : goalP u with
    | true =>
      walk_at "sx"
      exact ⟨by rw [if_neg (show ¬ (true = false) by decide)], s10.trans s11⟩
    | false =>
      walk_at "sx"
      exact ⟨by rw [if_pos rfl]; rfl, s10.trans s11⟩
  rintro σ' G11 ⟨rfl, s11⟩
  refine x_cut (M := fun σ' G' => σ' = [some (.ref a), some (.ref p), some (.ref ob), some x, some (.ref D), some (.str y), some (.ref D2), some (.str (dueS u zs)), none] ∧ G' = G11) ?_ ?_
  · have eD12 := s11 _ _ eD10
    walk_at "sx"
    refine x_ite (fun c => ?_) (fun c => ?_)
    · have c' : (200 : Int) < (((zs.map V.str).length : Nat) : Int) := c
      rw [List.length_map] at c'
      walk_at "sx"
      refine ⟨?_, rfl⟩
      have e : dueS u zs = ("size" : Str) := if_pos (Or.inl (by omega))
      rw [e]
      rfl
    · have c' : ¬ (200 : Int) < (((zs.map V.str).length : Nat) : Int) := c
      rw [List.length_map] at c'
      walk_at "sx"
      refine ⟨D, zs, rfl, .of (s11 _ _ eD10), ?_⟩
      walk_at "sx"
      refine x_ite (fun c2 => ?_) (fun c2 => ?_)
      · have c2' : (12 : Int) < mostOpen zs := c2
        walk_at "sx"
        refine ⟨?_, rfl⟩
        have e : dueS u zs = ("size" : Str) := if_pos (Or.inr c2')
        rw [e]
        rfl
      · have c2' : ¬ (12 : Int) < mostOpen zs := c2
        walk_at "sx"
        refine ⟨?_, rfl⟩
        have e : dueS u zs = if goalP u = false then ("shape" : Str) else if 60 < szT u ∨ 12 < dpT u then "size" else "told" := if_neg (show ¬ (200 < zs.length ∨ 12 < mostOpen zs) by omega)
        rw [e]
  rintro σ' G12 ⟨rfl, rfl⟩
  have e12 := s11 _ _ e2
  have px12 := px10.same s11
  subst htag
  walk_at "sx"
  refine x_ite (fun _ => ?_) (fun c => absurd rfl c)
  walk_at "sx"
  refine x_iteN (fun c => ?_) (fun c => ?_)
  · walk_at "sx"
    exact q _
  · have ht := V.str.inj c
    have pv := (htold ht).same s11
    have hd12 : dpT u ≤ 12 := by
      unfold dueS at ht
      by_cases h1 : 200 < zs.length ∨ 12 < mostOpen zs
      · rw [if_pos h1] at ht
        exact absurd ht (by decide +kernel)
      · rw [if_neg h1] at ht
        by_cases h2 : goalP u = false
        · rw [if_pos h2] at ht
          exact absurd ht (by decide +kernel)
        · rw [if_neg h2] at ht
          by_cases h3 : 60 < szT u ∨ 12 < dpT u
          · rw [if_pos h3] at ht
            exact absurd ht (by decide +kernel)
          · omega
    walk_at "sx"
    refine ⟨v, x, u, u, rfl, pv, px12.of_depth hd12, gu.nm, gu.nm, fun b G2 s2 hb => ?_⟩
    have eb : b = true := hb.mpr rfl
    subst eb
    exact q _
end
end Gs
namespace Gs
open PySem PySem.Spec PyProof.Rows L2 TL
set_option maxHeartbeats 0 in
theorem all_mk {l : PySem.W.OpenLaw} {w : World} {K : PySem.W.Frag} {h : Heap} {mg : Str → Option Value} {fa f0 f1 f2 f3 f4 f5 f6 f7 f8 f9 f10 f11 f12 f13 f14 f15 f16 f17 f18 f19 f20 f21 f22 f23 f24 f25 f26 f27 f28 f29 f30 f31 f32 f33 f34 f35 f36 f37 f38 f39 f40 f41 f42 f43 f44 f45 f46 f47 f48 f49 f50 f51 f52 f53 f54 f55 f56 f57 f58 f59 f60 f61 f62 f63 f64 f65 f66 f67 f68 f69 f70 f71 f72 f73 : Addr} (X : K.In h) (G : h.Ns mainGlobals mg) (hfa : mg "law" = some (.ref fa))
    {B_GoalError : Addr} (m_GoalError : PySem.W.nsIn K mainGlobals "GoalError" = some (some (.ref B_GoalError))) (sp_GoalError : PySem.W.specialIn K (.ref B_GoalError) "__getattribute__" = some (some (.builtin "type.__getattribute__"))) (rd_GoalError : PySem.W.readsIn K B_GoalError (.type "type") = true) (fc_GoalError : PySem.W.findCls K (.ref B_GoalError) (.type "type") "__init__" = some (.val (.builtin "ValueError.__init__")))
    {od0 an0 : Option Addr} {sl0 : Array (Option Value)} {oc0 kV0 dc0 pm0 cd0 ct0 : Value}
    (a0 : PySem.W.nsIn K mainGlobals "is_word" = some (some (.ref f0))) (l0 : K.lookup f0 = some ⟨oc0, od0, .func (PySem.W.fnOf "is_word" "is_word" (defArgs s_is_word) (defBody s_is_word) (defScope s_is_word) .none kV0 dc0 pm0 an0 cd0 ct0), sl0⟩) (c0 : PySem.W.codeIn K cd0 "is_word" = true) (k0 : PySem.W.keepIn K (.ref f0) = true)
    {od1 an1 : Option Addr} {sl1 : Array (Option Value)} {oc1 kV1 dc1 pm1 cd1 ct1 : Value}
    (a1 : PySem.W.nsIn K mainGlobals "is_unknown" = some (some (.ref f1))) (l1 : K.lookup f1 = some ⟨oc1, od1, .func (PySem.W.fnOf "is_unknown" "is_unknown" (defArgs s_is_unknown) (defBody s_is_unknown) (defScope s_is_unknown) .none kV1 dc1 pm1 an1 cd1 ct1), sl1⟩) (c1 : PySem.W.codeIn K cd1 "is_unknown" = true) (k1 : PySem.W.keepIn K (.ref f1) = true)
    {od2 an2 : Option Addr} {sl2 : Array (Option Value)} {oc2 kV2 dc2 pm2 cd2 ct2 : Value}
    (a2 : PySem.W.nsIn K mainGlobals "is_kept" = some (some (.ref f2))) (l2 : K.lookup f2 = some ⟨oc2, od2, .func (PySem.W.fnOf "is_kept" "is_kept" (defArgs s_is_kept) (defBody s_is_kept) (defScope s_is_kept) .none kV2 dc2 pm2 an2 cd2 ct2), sl2⟩) (c2 : PySem.W.codeIn K cd2 "is_kept" = true) (k2 : PySem.W.keepIn K (.ref f2) = true)
    {od3 an3 : Option Addr} {sl3 : Array (Option Value)} {oc3 kV3 dc3 pm3 cd3 ct3 : Value}
    (a3 : PySem.W.nsIn K mainGlobals "own" = some (some (.ref f3))) (l3 : K.lookup f3 = some ⟨oc3, od3, .func (PySem.W.fnOf "own" "own" (defArgs s_own) (defBody s_own) (defScope s_own) .none kV3 dc3 pm3 an3 cd3 ct3), sl3⟩) (c3 : PySem.W.codeIn K cd3 "own" = true) (k3 : PySem.W.keepIn K (.ref f3) = true)
    {od4 an4 : Option Addr} {sl4 : Array (Option Value)} {oc4 kV4 dc4 pm4 cd4 ct4 : Value}
    (a4 : PySem.W.nsIn K mainGlobals "_run" = some (some (.ref f4))) (l4 : K.lookup f4 = some ⟨oc4, od4, .func (PySem.W.fnOf "_run" "_run" (defArgs s_run) (defBody s_run) (defScope s_run) .none kV4 dc4 pm4 an4 cd4 ct4), sl4⟩) (c4 : PySem.W.codeIn K cd4 "_run" = true) (k4 : PySem.W.keepIn K (.ref f4) = true)
    {od5 an5 : Option Addr} {sl5 : Array (Option Value)} {oc5 kV5 dc5 pm5 cd5 ct5 : Value}
    (a5 : PySem.W.nsIn K mainGlobals "_end_of_piece" = some (some (.ref f5))) (l5 : K.lookup f5 = some ⟨oc5, od5, .func (PySem.W.fnOf "_end_of_piece" "_end_of_piece" (defArgs s_end_of_piece) (defBody s_end_of_piece) (defScope s_end_of_piece) .none kV5 dc5 pm5 an5 cd5 ct5), sl5⟩) (c5 : PySem.W.codeIn K cd5 "_end_of_piece" = true) (k5 : PySem.W.keepIn K (.ref f5) = true)
    {od6 an6 : Option Addr} {sl6 : Array (Option Value)} {oc6 kV6 dc6 pm6 cd6 ct6 : Value}
    (a6 : PySem.W.nsIn K mainGlobals "_is_piece" = some (some (.ref f6))) (l6 : K.lookup f6 = some ⟨oc6, od6, .func (PySem.W.fnOf "_is_piece" "_is_piece" (defArgs s_is_piece) (defBody s_is_piece) (defScope s_is_piece) .none kV6 dc6 pm6 an6 cd6 ct6), sl6⟩) (c6 : PySem.W.codeIn K cd6 "_is_piece" = true) (k6 : PySem.W.keepIn K (.ref f6) = true)
    {od7 an7 : Option Addr} {sl7 : Array (Option Value)} {oc7 kV7 dc7 pm7 cd7 ct7 : Value}
    (a7 : PySem.W.nsIn K mainGlobals "_most_open" = some (some (.ref f7))) (l7 : K.lookup f7 = some ⟨oc7, od7, .func (PySem.W.fnOf "_most_open" "_most_open" (defArgs s_most_open) (defBody s_most_open) (defScope s_most_open) .none kV7 dc7 pm7 an7 cd7 ct7), sl7⟩) (c7 : PySem.W.codeIn K cd7 "_most_open" = true) (k7 : PySem.W.keepIn K (.ref f7) = true)
    {od8 an8 : Option Addr} {sl8 : Array (Option Value)} {oc8 dc8 pm8 cd8 ct8 : Value} {D8 : Addr} {uk8 : Value}
    (a8 : PySem.W.nsIn K mainGlobals "pieces_of" = some (some (.ref f8))) (l8 : K.lookup f8 = some ⟨oc8, od8, .func (PySem.W.fnOf "pieces_of" "pieces_of" (defArgs s_pieces_of) (defBody s_pieces_of) (defScope s_pieces_of) .none (.ref D8) dc8 pm8 an8 cd8 ct8), sl8⟩) (c8 : PySem.W.codeIn K cd8 "pieces_of" = true) (k8 : PySem.W.keepIn K (.ref f8) = true)
    (q8 : PySem.W.nsIn K D8 "most" = some (some uk8)) (r8 : RelV (.int 200) uk8)
    {od9 an9 : Option Addr} {sl9 : Array (Option Value)} {oc9 kV9 dc9 pm9 cd9 ct9 : Value}
    (a9 : PySem.W.nsIn K mainGlobals "read_pieces" = some (some (.ref f9))) (l9 : K.lookup f9 = some ⟨oc9, od9, .func (PySem.W.fnOf "read_pieces" "read_pieces" (defArgs s_read_pieces) (defBody s_read_pieces) (defScope s_read_pieces) .none kV9 dc9 pm9 an9 cd9 ct9), sl9⟩) (c9 : PySem.W.codeIn K cd9 "read_pieces" = true) (k9 : PySem.W.keepIn K (.ref f9) = true)
    {od10 an10 : Option Addr} {sl10 : Array (Option Value)} {oc10 kV10 dc10 pm10 cd10 ct10 : Value}
    (a10 : PySem.W.nsIn K mainGlobals "size_of" = some (some (.ref f10))) (l10 : K.lookup f10 = some ⟨oc10, od10, .func (PySem.W.fnOf "size_of" "size_of" (defArgs s_size_of) (defBody s_size_of) (defScope s_size_of) .none kV10 dc10 pm10 an10 cd10 ct10), sl10⟩) (c10 : PySem.W.codeIn K cd10 "size_of" = true) (k10 : PySem.W.keepIn K (.ref f10) = true)
    {od11 an11 : Option Addr} {sl11 : Array (Option Value)} {oc11 kV11 dc11 pm11 cd11 ct11 : Value}
    (a11 : PySem.W.nsIn K mainGlobals "depth_of" = some (some (.ref f11))) (l11 : K.lookup f11 = some ⟨oc11, od11, .func (PySem.W.fnOf "depth_of" "depth_of" (defArgs s_depth_of) (defBody s_depth_of) (defScope s_depth_of) .none kV11 dc11 pm11 an11 cd11 ct11), sl11⟩) (c11 : PySem.W.codeIn K cd11 "depth_of" = true) (k11 : PySem.W.keepIn K (.ref f11) = true)
    {od12 an12 : Option Addr} {sl12 : Array (Option Value)} {oc12 kV12 dc12 pm12 cd12 ct12 : Value}
    (a12 : PySem.W.nsIn K mainGlobals "is_great" = some (some (.ref f12))) (l12 : K.lookup f12 = some ⟨oc12, od12, .func (PySem.W.fnOf "is_great" "is_great" (defArgs s_is_great) (defBody s_is_great) (defScope s_is_great) .none kV12 dc12 pm12 an12 cd12 ct12), sl12⟩) (c12 : PySem.W.codeIn K cd12 "is_great" = true) (k12 : PySem.W.keepIn K (.ref f12) = true)
    {od13 an13 : Option Addr} {sl13 : Array (Option Value)} {oc13 kV13 dc13 pm13 cd13 ct13 : Value}
    (a13 : PySem.W.nsIn K mainGlobals "is_pattern" = some (some (.ref f13))) (l13 : K.lookup f13 = some ⟨oc13, od13, .func (PySem.W.fnOf "is_pattern" "is_pattern" (defArgs s_is_pattern) (defBody s_is_pattern) (defScope s_is_pattern) .none kV13 dc13 pm13 an13 cd13 ct13), sl13⟩) (c13 : PySem.W.codeIn K cd13 "is_pattern" = true) (k13 : PySem.W.keepIn K (.ref f13) = true)
    {od14 an14 : Option Addr} {sl14 : Array (Option Value)} {oc14 kV14 dc14 pm14 cd14 ct14 : Value}
    (a14 : PySem.W.nsIn K mainGlobals "unknowns_of" = some (some (.ref f14))) (l14 : K.lookup f14 = some ⟨oc14, od14, .func (PySem.W.fnOf "unknowns_of" "unknowns_of" (defArgs s_unknowns_of) (defBody s_unknowns_of) (defScope s_unknowns_of) .none kV14 dc14 pm14 an14 cd14 ct14), sl14⟩) (c14 : PySem.W.codeIn K cd14 "unknowns_of" = true) (k14 : PySem.W.keepIn K (.ref f14) = true)
    {od15 an15 : Option Addr} {sl15 : Array (Option Value)} {oc15 kV15 dc15 pm15 cd15 ct15 : Value}
    (a15 : PySem.W.nsIn K mainGlobals "_is_named" = some (some (.ref f15))) (l15 : K.lookup f15 = some ⟨oc15, od15, .func (PySem.W.fnOf "_is_named" "_is_named" (defArgs s_is_named) (defBody s_is_named) (defScope s_is_named) .none kV15 dc15 pm15 an15 cd15 ct15), sl15⟩) (c15 : PySem.W.codeIn K cd15 "_is_named" = true) (k15 : PySem.W.keepIn K (.ref f15) = true)
    {od16 an16 : Option Addr} {sl16 : Array (Option Value)} {oc16 kV16 dc16 pm16 cd16 ct16 : Value}
    (a16 : PySem.W.nsIn K mainGlobals "is_sum" = some (some (.ref f16))) (l16 : K.lookup f16 = some ⟨oc16, od16, .func (PySem.W.fnOf "is_sum" "is_sum" (defArgs s_is_sum) (defBody s_is_sum) (defScope s_is_sum) .none kV16 dc16 pm16 an16 cd16 ct16), sl16⟩) (c16 : PySem.W.codeIn K cd16 "is_sum" = true) (k16 : PySem.W.keepIn K (.ref f16) = true)
    {od17 an17 : Option Addr} {sl17 : Array (Option Value)} {oc17 kV17 dc17 pm17 cd17 ct17 : Value}
    (a17 : PySem.W.nsIn K mainGlobals "parted_by_and" = some (some (.ref f17))) (l17 : K.lookup f17 = some ⟨oc17, od17, .func (PySem.W.fnOf "parted_by_and" "parted_by_and" (defArgs s_parted_by_and) (defBody s_parted_by_and) (defScope s_parted_by_and) .none kV17 dc17 pm17 an17 cd17 ct17), sl17⟩) (c17 : PySem.W.codeIn K cd17 "parted_by_and" = true) (k17 : PySem.W.keepIn K (.ref f17) = true)
    {od18 an18 : Option Addr} {sl18 : Array (Option Value)} {oc18 kV18 dc18 pm18 cd18 ct18 : Value}
    (a18 : PySem.W.nsIn K mainGlobals "is_relation" = some (some (.ref f18))) (l18 : K.lookup f18 = some ⟨oc18, od18, .func (PySem.W.fnOf "is_relation" "is_relation" (defArgs s_is_relation) (defBody s_is_relation) (defScope s_is_relation) .none kV18 dc18 pm18 an18 cd18 ct18), sl18⟩) (c18 : PySem.W.codeIn K cd18 "is_relation" = true) (k18 : PySem.W.keepIn K (.ref f18) = true)
    {od19 an19 : Option Addr} {sl19 : Array (Option Value)} {oc19 kV19 dc19 pm19 cd19 ct19 : Value}
    (a19 : PySem.W.nsIn K mainGlobals "is_not" = some (some (.ref f19))) (l19 : K.lookup f19 = some ⟨oc19, od19, .func (PySem.W.fnOf "is_not" "is_not" (defArgs s_is_not) (defBody s_is_not) (defScope s_is_not) .none kV19 dc19 pm19 an19 cd19 ct19), sl19⟩) (c19 : PySem.W.codeIn K cd19 "is_not" = true) (k19 : PySem.W.keepIn K (.ref f19) = true)
    {od20 an20 : Option Addr} {sl20 : Array (Option Value)} {oc20 kV20 dc20 pm20 cd20 ct20 : Value}
    (a20 : PySem.W.nsIn K mainGlobals "is_likeness" = some (some (.ref f20))) (l20 : K.lookup f20 = some ⟨oc20, od20, .func (PySem.W.fnOf "is_likeness" "is_likeness" (defArgs s_is_likeness) (defBody s_is_likeness) (defScope s_is_likeness) .none kV20 dc20 pm20 an20 cd20 ct20), sl20⟩) (c20 : PySem.W.codeIn K cd20 "is_likeness" = true) (k20 : PySem.W.keepIn K (.ref f20) = true)
    {od21 an21 : Option Addr} {sl21 : Array (Option Value)} {oc21 kV21 dc21 pm21 cd21 ct21 : Value}
    (a21 : PySem.W.nsIn K mainGlobals "is_reckoning" = some (some (.ref f21))) (l21 : K.lookup f21 = some ⟨oc21, od21, .func (PySem.W.fnOf "is_reckoning" "is_reckoning" (defArgs s_is_reckoning) (defBody s_is_reckoning) (defScope s_is_reckoning) .none kV21 dc21 pm21 an21 cd21 ct21), sl21⟩) (c21 : PySem.W.codeIn K cd21 "is_reckoning" = true) (k21 : PySem.W.keepIn K (.ref f21) = true)
    {od22 an22 : Option Addr} {sl22 : Array (Option Value)} {oc22 kV22 dc22 pm22 cd22 ct22 : Value}
    (a22 : PySem.W.nsIn K mainGlobals "is_test" = some (some (.ref f22))) (l22 : K.lookup f22 = some ⟨oc22, od22, .func (PySem.W.fnOf "is_test" "is_test" (defArgs s_is_test) (defBody s_is_test) (defScope s_is_test) .none kV22 dc22 pm22 an22 cd22 ct22), sl22⟩) (c22 : PySem.W.codeIn K cd22 "is_test" = true) (k22 : PySem.W.keepIn K (.ref f22) = true)
    {od23 an23 : Option Addr} {sl23 : Array (Option Value)} {oc23 kV23 dc23 pm23 cd23 ct23 : Value}
    (a23 : PySem.W.nsIn K mainGlobals "_is_range" = some (some (.ref f23))) (l23 : K.lookup f23 = some ⟨oc23, od23, .func (PySem.W.fnOf "_is_range" "_is_range" (defArgs s_is_range) (defBody s_is_range) (defScope s_is_range) .none kV23 dc23 pm23 an23 cd23 ct23), sl23⟩) (c23 : PySem.W.codeIn K cd23 "_is_range" = true) (k23 : PySem.W.keepIn K (.ref f23) = true)
    {od24 an24 : Option Addr} {sl24 : Array (Option Value)} {oc24 kV24 dc24 pm24 cd24 ct24 : Value}
    (a24 : PySem.W.nsIn K mainGlobals "_are_tests" = some (some (.ref f24))) (l24 : K.lookup f24 = some ⟨oc24, od24, .func (PySem.W.fnOf "_are_tests" "_are_tests" (defArgs s_are_tests) (defBody s_are_tests) (defScope s_are_tests) .none kV24 dc24 pm24 an24 cd24 ct24), sl24⟩) (c24 : PySem.W.codeIn K cd24 "_are_tests" = true) (k24 : PySem.W.keepIn K (.ref f24) = true)
    {od25 an25 : Option Addr} {sl25 : Array (Option Value)} {oc25 kV25 dc25 pm25 cd25 ct25 : Value}
    (a25 : PySem.W.nsIn K mainGlobals "_is_box" = some (some (.ref f25))) (l25 : K.lookup f25 = some ⟨oc25, od25, .func (PySem.W.fnOf "_is_box" "_is_box" (defArgs s_is_box) (defBody s_is_box) (defScope s_is_box) .none kV25 dc25 pm25 an25 cd25 ct25), sl25⟩) (c25 : PySem.W.codeIn K cd25 "_is_box" = true) (k25 : PySem.W.keepIn K (.ref f25) = true)
    {od26 an26 : Option Addr} {sl26 : Array (Option Value)} {oc26 kV26 dc26 pm26 cd26 ct26 : Value}
    (a26 : PySem.W.nsIn K mainGlobals "is_field" = some (some (.ref f26))) (l26 : K.lookup f26 = some ⟨oc26, od26, .func (PySem.W.fnOf "is_field" "is_field" (defArgs s_is_field) (defBody s_is_field) (defScope s_is_field) .none kV26 dc26 pm26 an26 cd26 ct26), sl26⟩) (c26 : PySem.W.codeIn K cd26 "is_field" = true) (k26 : PySem.W.keepIn K (.ref f26) = true)
    {od27 an27 : Option Addr} {sl27 : Array (Option Value)} {oc27 kV27 dc27 pm27 cd27 ct27 : Value}
    (a27 : PySem.W.nsIn K mainGlobals "is_goal" = some (some (.ref f27))) (l27 : K.lookup f27 = some ⟨oc27, od27, .func (PySem.W.fnOf "is_goal" "is_goal" (defArgs s_is_goal) (defBody s_is_goal) (defScope s_is_goal) .none kV27 dc27 pm27 an27 cd27 ct27), sl27⟩) (c27 : PySem.W.codeIn K cd27 "is_goal" = true) (k27 : PySem.W.keepIn K (.ref f27) = true)
    {od28 an28 : Option Addr} {sl28 : Array (Option Value)} {oc28 kV28 dc28 pm28 cd28 ct28 : Value}
    (a28 : PySem.W.nsIn K mainGlobals "_table_of" = some (some (.ref f28))) (l28 : K.lookup f28 = some ⟨oc28, od28, .func (PySem.W.fnOf "_table_of" "_table_of" (defArgs s_table_of) (defBody s_table_of) (defScope s_table_of) .none kV28 dc28 pm28 an28 cd28 ct28), sl28⟩) (c28 : PySem.W.codeIn K cd28 "_table_of" = true) (k28 : PySem.W.keepIn K (.ref f28) = true)
    {od29 an29 : Option Addr} {sl29 : Array (Option Value)} {oc29 kV29 dc29 pm29 cd29 ct29 : Value}
    (a29 : PySem.W.nsIn K mainGlobals "_measure" = some (some (.ref f29))) (l29 : K.lookup f29 = some ⟨oc29, od29, .func (PySem.W.fnOf "_measure" "_measure" (defArgs s_measure) (defBody s_measure) (defScope s_measure) .none kV29 dc29 pm29 an29 cd29 ct29), sl29⟩) (c29 : PySem.W.codeIn K cd29 "_measure" = true) (k29 : PySem.W.keepIn K (.ref f29) = true)
    {od30 an30 : Option Addr} {sl30 : Array (Option Value)} {oc30 kV30 dc30 pm30 cd30 ct30 : Value}
    (a30 : PySem.W.nsIn K mainGlobals "_goal_of" = some (some (.ref f30))) (l30 : K.lookup f30 = some ⟨oc30, od30, .func (PySem.W.fnOf "_goal_of" "_goal_of" (defArgs s_goal_of) (defBody s_goal_of) (defScope s_goal_of) .none kV30 dc30 pm30 an30 cd30 ct30), sl30⟩) (c30 : PySem.W.codeIn K cd30 "_goal_of" = true) (k30 : PySem.W.keepIn K (.ref f30) = true)
    {od31 an31 : Option Addr} {sl31 : Array (Option Value)} {oc31 dc31 pm31 cd31 ct31 : Value} {D31 : Addr} {uk31 : Value}
    (a31 : PySem.W.nsIn K mainGlobals "read_goal" = some (some (.ref f31))) (l31 : K.lookup f31 = some ⟨oc31, od31, .func (PySem.W.fnOf "read_goal" "read_goal" (defArgs s_read_goal) (defBody s_read_goal) (defScope s_read_goal) .none (.ref D31) dc31 pm31 an31 cd31 ct31), sl31⟩) (c31 : PySem.W.codeIn K cd31 "read_goal" = true) (k31 : PySem.W.keepIn K (.ref f31) = true)
    (q31 : PySem.W.nsIn K D31 "most" = some (some uk31)) (r31 : RelV (.int 200) uk31)
    {od32 an32 : Option Addr} {sl32 : Array (Option Value)} {oc32 kV32 dc32 pm32 cd32 ct32 : Value}
    (a32 : PySem.W.nsIn K mainGlobals "_law_pool" = some (some (.ref f32))) (l32 : K.lookup f32 = some ⟨oc32, od32, .func (PySem.W.fnOf "_law_pool" "_law_pool" (defArgs s_law_pool) (defBody s_law_pool) (defScope s_law_pool) .none kV32 dc32 pm32 an32 cd32 ct32), sl32⟩) (c32 : PySem.W.codeIn K cd32 "_law_pool" = true) (k32 : PySem.W.keepIn K (.ref f32) = true)
    {od33 an33 : Option Addr} {sl33 : Array (Option Value)} {oc33 kV33 dc33 pm33 cd33 ct33 : Value}
    (a33 : PySem.W.nsIn K mainGlobals "_law_mixed" = some (some (.ref f33))) (l33 : K.lookup f33 = some ⟨oc33, od33, .func (PySem.W.fnOf "_law_mixed" "_law_mixed" (defArgs s_law_mixed) (defBody s_law_mixed) (defScope s_law_mixed) .none kV33 dc33 pm33 an33 cd33 ct33), sl33⟩) (c33 : PySem.W.codeIn K cd33 "_law_mixed" = true) (k33 : PySem.W.keepIn K (.ref f33) = true)
    {od34 an34 : Option Addr} {sl34 : Array (Option Value)} {oc34 kV34 dc34 pm34 cd34 ct34 : Value}
    (a34 : PySem.W.nsIn K mainGlobals "_law_take" = some (some (.ref f34))) (l34 : K.lookup f34 = some ⟨oc34, od34, .func (PySem.W.fnOf "_law_take" "_law_take" (defArgs s_law_take) (defBody s_law_take) (defScope s_law_take) .none kV34 dc34 pm34 an34 cd34 ct34), sl34⟩) (c34 : PySem.W.codeIn K cd34 "_law_take" = true) (k34 : PySem.W.keepIn K (.ref f34) = true)
    {od35 an35 : Option Addr} {sl35 : Array (Option Value)} {oc35 kV35 dc35 pm35 cd35 ct35 : Value}
    (a35 : PySem.W.nsIn K mainGlobals "_law_number" = some (some (.ref f35))) (l35 : K.lookup f35 = some ⟨oc35, od35, .func (PySem.W.fnOf "_law_number" "_law_number" (defArgs s_law_number) (defBody s_law_number) (defScope s_law_number) .none kV35 dc35 pm35 an35 cd35 ct35), sl35⟩) (c35 : PySem.W.codeIn K cd35 "_law_number" = true) (k35 : PySem.W.keepIn K (.ref f35) = true)
    {od36 an36 : Option Addr} {sl36 : Array (Option Value)} {oc36 kV36 dc36 pm36 cd36 ct36 : Value}
    (a36 : PySem.W.nsIn K mainGlobals "_law_figure" = some (some (.ref f36))) (l36 : K.lookup f36 = some ⟨oc36, od36, .func (PySem.W.fnOf "_law_figure" "_law_figure" (defArgs s_law_figure) (defBody s_law_figure) (defScope s_law_figure) .none kV36 dc36 pm36 an36 cd36 ct36), sl36⟩) (c36 : PySem.W.codeIn K cd36 "_law_figure" = true) (k36 : PySem.W.keepIn K (.ref f36) = true)
    {od37 an37 : Option Addr} {sl37 : Array (Option Value)} {oc37 kV37 dc37 pm37 cd37 ct37 : Value}
    (a37 : PySem.W.nsIn K mainGlobals "_law_name" = some (some (.ref f37))) (l37 : K.lookup f37 = some ⟨oc37, od37, .func (PySem.W.fnOf "_law_name" "_law_name" (defArgs s_law_name) (defBody s_law_name) (defScope s_law_name) .none kV37 dc37 pm37 an37 cd37 ct37), sl37⟩) (c37 : PySem.W.codeIn K cd37 "_law_name" = true) (k37 : PySem.W.keepIn K (.ref f37) = true)
    {od38 an38 : Option Addr} {sl38 : Array (Option Value)} {oc38 kV38 dc38 pm38 cd38 ct38 : Value}
    (a38 : PySem.W.nsIn K mainGlobals "_law_kept" = some (some (.ref f38))) (l38 : K.lookup f38 = some ⟨oc38, od38, .func (PySem.W.fnOf "_law_kept" "_law_kept" (defArgs s_law_kept) (defBody s_law_kept) (defScope s_law_kept) .none kV38 dc38 pm38 an38 cd38 ct38), sl38⟩) (c38 : PySem.W.codeIn K cd38 "_law_kept" = true) (k38 : PySem.W.keepIn K (.ref f38) = true)
    {od39 an39 : Option Addr} {sl39 : Array (Option Value)} {oc39 kV39 dc39 pm39 cd39 ct39 : Value}
    (a39 : PySem.W.nsIn K mainGlobals "_law_own" = some (some (.ref f39))) (l39 : K.lookup f39 = some ⟨oc39, od39, .func (PySem.W.fnOf "_law_own" "_law_own" (defArgs s_law_own) (defBody s_law_own) (defScope s_law_own) .none kV39 dc39 pm39 an39 cd39 ct39), sl39⟩) (c39 : PySem.W.codeIn K cd39 "_law_own" = true) (k39 : PySem.W.keepIn K (.ref f39) = true)
    {od40 an40 : Option Addr} {sl40 : Array (Option Value)} {oc40 kV40 dc40 pm40 cd40 ct40 : Value}
    (a40 : PySem.W.nsIn K mainGlobals "_law_row" = some (some (.ref f40))) (l40 : K.lookup f40 = some ⟨oc40, od40, .func (PySem.W.fnOf "_law_row" "_law_row" (defArgs s_law_row) (defBody s_law_row) (defScope s_law_row) .none kV40 dc40 pm40 an40 cd40 ct40), sl40⟩) (c40 : PySem.W.codeIn K cd40 "_law_row" = true) (k40 : PySem.W.keepIn K (.ref f40) = true)
    {od41 an41 : Option Addr} {sl41 : Array (Option Value)} {oc41 kV41 dc41 pm41 cd41 ct41 : Value}
    (a41 : PySem.W.nsIn K mainGlobals "_law_ops" = some (some (.ref f41))) (l41 : K.lookup f41 = some ⟨oc41, od41, .func (PySem.W.fnOf "_law_ops" "_law_ops" (defArgs s_law_ops) (defBody s_law_ops) (defScope s_law_ops) .none kV41 dc41 pm41 an41 cd41 ct41), sl41⟩) (c41 : PySem.W.codeIn K cd41 "_law_ops" = true) (k41 : PySem.W.keepIn K (.ref f41) = true)
    {od42 an42 : Option Addr} {sl42 : Array (Option Value)} {oc42 kV42 dc42 pm42 cd42 ct42 : Value}
    (a42 : PySem.W.nsIn K mainGlobals "_law_free" = some (some (.ref f42))) (l42 : K.lookup f42 = some ⟨oc42, od42, .func (PySem.W.fnOf "_law_free" "_law_free" (defArgs s_law_free) (defBody s_law_free) (defScope s_law_free) .none kV42 dc42 pm42 an42 cd42 ct42), sl42⟩) (c42 : PySem.W.codeIn K cd42 "_law_free" = true) (k42 : PySem.W.keepIn K (.ref f42) = true)
    {od43 an43 : Option Addr} {sl43 : Array (Option Value)} {oc43 kV43 dc43 pm43 cd43 ct43 : Value}
    (a43 : PySem.W.nsIn K mainGlobals "_law_weight" = some (some (.ref f43))) (l43 : K.lookup f43 = some ⟨oc43, od43, .func (PySem.W.fnOf "_law_weight" "_law_weight" (defArgs s_law_weight) (defBody s_law_weight) (defScope s_law_weight) .none kV43 dc43 pm43 an43 cd43 ct43), sl43⟩) (c43 : PySem.W.codeIn K cd43 "_law_weight" = true) (k43 : PySem.W.keepIn K (.ref f43) = true)
    {od44 an44 : Option Addr} {sl44 : Array (Option Value)} {oc44 kV44 dc44 pm44 cd44 ct44 : Value}
    (a44 : PySem.W.nsIn K mainGlobals "_law_leaf" = some (some (.ref f44))) (l44 : K.lookup f44 = some ⟨oc44, od44, .func (PySem.W.fnOf "_law_leaf" "_law_leaf" (defArgs s_law_leaf) (defBody s_law_leaf) (defScope s_law_leaf) .none kV44 dc44 pm44 an44 cd44 ct44), sl44⟩) (c44 : PySem.W.codeIn K cd44 "_law_leaf" = true) (k44 : PySem.W.keepIn K (.ref f44) = true)
    {od45 an45 : Option Addr} {sl45 : Array (Option Value)} {oc45 kV45 dc45 pm45 cd45 ct45 : Value}
    (a45 : PySem.W.nsIn K mainGlobals "_law_pattern" = some (some (.ref f45))) (l45 : K.lookup f45 = some ⟨oc45, od45, .func (PySem.W.fnOf "_law_pattern" "_law_pattern" (defArgs s_law_pattern) (defBody s_law_pattern) (defScope s_law_pattern) .none kV45 dc45 pm45 an45 cd45 ct45), sl45⟩) (c45 : PySem.W.codeIn K cd45 "_law_pattern" = true) (k45 : PySem.W.keepIn K (.ref f45) = true)
    {od46 an46 : Option Addr} {sl46 : Array (Option Value)} {oc46 kV46 dc46 pm46 cd46 ct46 : Value}
    (a46 : PySem.W.nsIn K mainGlobals "_law_spelt" = some (some (.ref f46))) (l46 : K.lookup f46 = some ⟨oc46, od46, .func (PySem.W.fnOf "_law_spelt" "_law_spelt" (defArgs s_law_spelt) (defBody s_law_spelt) (defScope s_law_spelt) .none kV46 dc46 pm46 an46 cd46 ct46), sl46⟩) (c46 : PySem.W.codeIn K cd46 "_law_spelt" = true) (k46 : PySem.W.keepIn K (.ref f46) = true)
    {od47 an47 : Option Addr} {sl47 : Array (Option Value)} {oc47 kV47 dc47 pm47 cd47 ct47 : Value}
    (a47 : PySem.W.nsIn K mainGlobals "_law_kind" = some (some (.ref f47))) (l47 : K.lookup f47 = some ⟨oc47, od47, .func (PySem.W.fnOf "_law_kind" "_law_kind" (defArgs s_law_kind) (defBody s_law_kind) (defScope s_law_kind) .none kV47 dc47 pm47 an47 cd47 ct47), sl47⟩) (c47 : PySem.W.codeIn K cd47 "_law_kind" = true) (k47 : PySem.W.keepIn K (.ref f47) = true)
    {od48 an48 : Option Addr} {sl48 : Array (Option Value)} {oc48 kV48 dc48 pm48 cd48 ct48 : Value}
    (a48 : PySem.W.nsIn K mainGlobals "_law_stuck" = some (some (.ref f48))) (l48 : K.lookup f48 = some ⟨oc48, od48, .func (PySem.W.fnOf "_law_stuck" "_law_stuck" (defArgs s_law_stuck) (defBody s_law_stuck) (defScope s_law_stuck) .none kV48 dc48 pm48 an48 cd48 ct48), sl48⟩) (c48 : PySem.W.codeIn K cd48 "_law_stuck" = true) (k48 : PySem.W.keepIn K (.ref f48) = true)
    {od49 an49 : Option Addr} {sl49 : Array (Option Value)} {oc49 kV49 dc49 pm49 cd49 ct49 : Value}
    (a49 : PySem.W.nsIn K mainGlobals "_law_line" = some (some (.ref f49))) (l49 : K.lookup f49 = some ⟨oc49, od49, .func (PySem.W.fnOf "_law_line" "_law_line" (defArgs s_law_line) (defBody s_law_line) (defScope s_law_line) .none kV49 dc49 pm49 an49 cd49 ct49), sl49⟩) (c49 : PySem.W.codeIn K cd49 "_law_line" = true) (k49 : PySem.W.keepIn K (.ref f49) = true)
    {od50 an50 : Option Addr} {sl50 : Array (Option Value)} {oc50 kV50 dc50 pm50 cd50 ct50 : Value}
    (a50 : PySem.W.nsIn K mainGlobals "_law_alike" = some (some (.ref f50))) (l50 : K.lookup f50 = some ⟨oc50, od50, .func (PySem.W.fnOf "_law_alike" "_law_alike" (defArgs s_law_alike) (defBody s_law_alike) (defScope s_law_alike) .none kV50 dc50 pm50 an50 cd50 ct50), sl50⟩) (c50 : PySem.W.codeIn K cd50 "_law_alike" = true) (k50 : PySem.W.keepIn K (.ref f50) = true)
    {od51 an51 : Option Addr} {sl51 : Array (Option Value)} {oc51 kV51 dc51 pm51 cd51 ct51 : Value}
    (a51 : PySem.W.nsIn K mainGlobals "_law_capital" = some (some (.ref f51))) (l51 : K.lookup f51 = some ⟨oc51, od51, .func (PySem.W.fnOf "_law_capital" "_law_capital" (defArgs s_law_capital) (defBody s_law_capital) (defScope s_law_capital) .none kV51 dc51 pm51 an51 cd51 ct51), sl51⟩) (c51 : PySem.W.codeIn K cd51 "_law_capital" = true) (k51 : PySem.W.keepIn K (.ref f51) = true)
    {od52 an52 : Option Addr} {sl52 : Array (Option Value)} {oc52 kV52 dc52 pm52 cd52 ct52 : Value}
    (a52 : PySem.W.nsIn K mainGlobals "_law_names" = some (some (.ref f52))) (l52 : K.lookup f52 = some ⟨oc52, od52, .func (PySem.W.fnOf "_law_names" "_law_names" (defArgs s_law_names) (defBody s_law_names) (defScope s_law_names) .none kV52 dc52 pm52 an52 cd52 ct52), sl52⟩) (c52 : PySem.W.codeIn K cd52 "_law_names" = true) (k52 : PySem.W.keepIn K (.ref f52) = true)
    {od53 an53 : Option Addr} {sl53 : Array (Option Value)} {oc53 kV53 dc53 pm53 cd53 ct53 : Value}
    (a53 : PySem.W.nsIn K mainGlobals "_law_sum" = some (some (.ref f53))) (l53 : K.lookup f53 = some ⟨oc53, od53, .func (PySem.W.fnOf "_law_sum" "_law_sum" (defArgs s_law_sum) (defBody s_law_sum) (defScope s_law_sum) .none kV53 dc53 pm53 an53 cd53 ct53), sl53⟩) (c53 : PySem.W.codeIn K cd53 "_law_sum" = true) (k53 : PySem.W.keepIn K (.ref f53) = true)
    {od54 an54 : Option Addr} {sl54 : Array (Option Value)} {oc54 kV54 dc54 pm54 cd54 ct54 : Value}
    (a54 : PySem.W.nsIn K mainGlobals "_law_test" = some (some (.ref f54))) (l54 : K.lookup f54 = some ⟨oc54, od54, .func (PySem.W.fnOf "_law_test" "_law_test" (defArgs s_law_test) (defBody s_law_test) (defScope s_law_test) .none kV54 dc54 pm54 an54 cd54 ct54), sl54⟩) (c54 : PySem.W.codeIn K cd54 "_law_test" = true) (k54 : PySem.W.keepIn K (.ref f54) = true)
    {od55 an55 : Option Addr} {sl55 : Array (Option Value)} {oc55 kV55 dc55 pm55 cd55 ct55 : Value}
    (a55 : PySem.W.nsIn K mainGlobals "_law_together" = some (some (.ref f55))) (l55 : K.lookup f55 = some ⟨oc55, od55, .func (PySem.W.fnOf "_law_together" "_law_together" (defArgs s_law_together) (defBody s_law_together) (defScope s_law_together) .none kV55 dc55 pm55 an55 cd55 ct55), sl55⟩) (c55 : PySem.W.codeIn K cd55 "_law_together" = true) (k55 : PySem.W.keepIn K (.ref f55) = true)
    {od56 an56 : Option Addr} {sl56 : Array (Option Value)} {oc56 kV56 dc56 pm56 cd56 ct56 : Value}
    (a56 : PySem.W.nsIn K mainGlobals "_law_box" = some (some (.ref f56))) (l56 : K.lookup f56 = some ⟨oc56, od56, .func (PySem.W.fnOf "_law_box" "_law_box" (defArgs s_law_box) (defBody s_law_box) (defScope s_law_box) .none kV56 dc56 pm56 an56 cd56 ct56), sl56⟩) (c56 : PySem.W.codeIn K cd56 "_law_box" = true) (k56 : PySem.W.keepIn K (.ref f56) = true)
    {od57 an57 : Option Addr} {sl57 : Array (Option Value)} {oc57 kV57 dc57 pm57 cd57 ct57 : Value}
    (a57 : PySem.W.nsIn K mainGlobals "_law_asked" = some (some (.ref f57))) (l57 : K.lookup f57 = some ⟨oc57, od57, .func (PySem.W.fnOf "_law_asked" "_law_asked" (defArgs s_law_asked) (defBody s_law_asked) (defScope s_law_asked) .none kV57 dc57 pm57 an57 cd57 ct57), sl57⟩) (c57 : PySem.W.codeIn K cd57 "_law_asked" = true) (k57 : PySem.W.keepIn K (.ref f57) = true)
    {od58 an58 : Option Addr} {sl58 : Array (Option Value)} {oc58 kV58 dc58 pm58 cd58 ct58 : Value}
    (a58 : PySem.W.nsIn K mainGlobals "_law_goal" = some (some (.ref f58))) (l58 : K.lookup f58 = some ⟨oc58, od58, .func (PySem.W.fnOf "_law_goal" "_law_goal" (defArgs s_law_goal) (defBody s_law_goal) (defScope s_law_goal) .none kV58 dc58 pm58 an58 cd58 ct58), sl58⟩) (c58 : PySem.W.codeIn K cd58 "_law_goal" = true) (k58 : PySem.W.keepIn K (.ref f58) = true)
    {od59 an59 : Option Addr} {sl59 : Array (Option Value)} {oc59 kV59 dc59 pm59 cd59 ct59 : Value}
    (a59 : PySem.W.nsIn K mainGlobals "_law_keptless" = some (some (.ref f59))) (l59 : K.lookup f59 = some ⟨oc59, od59, .func (PySem.W.fnOf "_law_keptless" "_law_keptless" (defArgs s_law_keptless) (defBody s_law_keptless) (defScope s_law_keptless) .none kV59 dc59 pm59 an59 cd59 ct59), sl59⟩) (c59 : PySem.W.codeIn K cd59 "_law_keptless" = true) (k59 : PySem.W.keepIn K (.ref f59) = true)
    {od60 an60 : Option Addr} {sl60 : Array (Option Value)} {oc60 kV60 dc60 pm60 cd60 ct60 : Value}
    (a60 : PySem.W.nsIn K mainGlobals "_law_pair_ok" = some (some (.ref f60))) (l60 : K.lookup f60 = some ⟨oc60, od60, .func (PySem.W.fnOf "_law_pair_ok" "_law_pair_ok" (defArgs s_law_pair_ok) (defBody s_law_pair_ok) (defScope s_law_pair_ok) .none kV60 dc60 pm60 an60 cd60 ct60), sl60⟩) (c60 : PySem.W.codeIn K cd60 "_law_pair_ok" = true) (k60 : PySem.W.keepIn K (.ref f60) = true)
    {od61 an61 : Option Addr} {sl61 : Array (Option Value)} {oc61 kV61 dc61 pm61 cd61 ct61 : Value}
    (a61 : PySem.W.nsIn K mainGlobals "_law_sum_ok" = some (some (.ref f61))) (l61 : K.lookup f61 = some ⟨oc61, od61, .func (PySem.W.fnOf "_law_sum_ok" "_law_sum_ok" (defArgs s_law_sum_ok) (defBody s_law_sum_ok) (defScope s_law_sum_ok) .none kV61 dc61 pm61 an61 cd61 ct61), sl61⟩) (c61 : PySem.W.codeIn K cd61 "_law_sum_ok" = true) (k61 : PySem.W.keepIn K (.ref f61) = true)
    {od62 an62 : Option Addr} {sl62 : Array (Option Value)} {oc62 kV62 dc62 pm62 cd62 ct62 : Value}
    (a62 : PySem.W.nsIn K mainGlobals "_law_asked_ok" = some (some (.ref f62))) (l62 : K.lookup f62 = some ⟨oc62, od62, .func (PySem.W.fnOf "_law_asked_ok" "_law_asked_ok" (defArgs s_law_asked_ok) (defBody s_law_asked_ok) (defScope s_law_asked_ok) .none kV62 dc62 pm62 an62 cd62 ct62), sl62⟩) (c62 : PySem.W.codeIn K cd62 "_law_asked_ok" = true) (k62 : PySem.W.keepIn K (.ref f62) = true)
    {od63 an63 : Option Addr} {sl63 : Array (Option Value)} {oc63 kV63 dc63 pm63 cd63 ct63 : Value}
    (a63 : PySem.W.nsIn K mainGlobals "_law_parted" = some (some (.ref f63))) (l63 : K.lookup f63 = some ⟨oc63, od63, .func (PySem.W.fnOf "_law_parted" "_law_parted" (defArgs s_law_parted) (defBody s_law_parted) (defScope s_law_parted) .none kV63 dc63 pm63 an63 cd63 ct63), sl63⟩) (c63 : PySem.W.codeIn K cd63 "_law_parted" = true) (k63 : PySem.W.keepIn K (.ref f63) = true)
    {od64 an64 : Option Addr} {sl64 : Array (Option Value)} {oc64 kV64 dc64 pm64 cd64 ct64 : Value}
    (a64 : PySem.W.nsIn K mainGlobals "_law_range_ok" = some (some (.ref f64))) (l64 : K.lookup f64 = some ⟨oc64, od64, .func (PySem.W.fnOf "_law_range_ok" "_law_range_ok" (defArgs s_law_range_ok) (defBody s_law_range_ok) (defScope s_law_range_ok) .none kV64 dc64 pm64 an64 cd64 ct64), sl64⟩) (c64 : PySem.W.codeIn K cd64 "_law_range_ok" = true) (k64 : PySem.W.keepIn K (.ref f64) = true)
    {od65 an65 : Option Addr} {sl65 : Array (Option Value)} {oc65 kV65 dc65 pm65 cd65 ct65 : Value}
    (a65 : PySem.W.nsIn K mainGlobals "_law_box_ok" = some (some (.ref f65))) (l65 : K.lookup f65 = some ⟨oc65, od65, .func (PySem.W.fnOf "_law_box_ok" "_law_box_ok" (defArgs s_law_box_ok) (defBody s_law_box_ok) (defScope s_law_box_ok) .none kV65 dc65 pm65 an65 cd65 ct65), sl65⟩) (c65 : PySem.W.codeIn K cd65 "_law_box_ok" = true) (k65 : PySem.W.keepIn K (.ref f65) = true)
    {od66 an66 : Option Addr} {sl66 : Array (Option Value)} {oc66 kV66 dc66 pm66 cd66 ct66 : Value}
    (a66 : PySem.W.nsIn K mainGlobals "_law_goal_ok" = some (some (.ref f66))) (l66 : K.lookup f66 = some ⟨oc66, od66, .func (PySem.W.fnOf "_law_goal_ok" "_law_goal_ok" (defArgs s_law_goal_ok) (defBody s_law_goal_ok) (defScope s_law_goal_ok) .none kV66 dc66 pm66 an66 cd66 ct66), sl66⟩) (c66 : PySem.W.codeIn K cd66 "_law_goal_ok" = true) (k66 : PySem.W.keepIn K (.ref f66) = true)
    {od67 an67 : Option Addr} {sl67 : Array (Option Value)} {oc67 kV67 dc67 pm67 cd67 ct67 : Value}
    (a67 : PySem.W.nsIn K mainGlobals "_law_held" = some (some (.ref f67))) (l67 : K.lookup f67 = some ⟨oc67, od67, .func (PySem.W.fnOf "_law_held" "_law_held" (defArgs s_law_held) (defBody s_law_held) (defScope s_law_held) .none kV67 dc67 pm67 an67 cd67 ct67), sl67⟩) (c67 : PySem.W.codeIn K cd67 "_law_held" = true) (k67 : PySem.W.keepIn K (.ref f67) = true)
    {od68 an68 : Option Addr} {sl68 : Array (Option Value)} {oc68 kV68 dc68 pm68 cd68 ct68 : Value}
    (a68 : PySem.W.nsIn K mainGlobals "_law_wide" = some (some (.ref f68))) (l68 : K.lookup f68 = some ⟨oc68, od68, .func (PySem.W.fnOf "_law_wide" "_law_wide" (defArgs s_law_wide) (defBody s_law_wide) (defScope s_law_wide) .none kV68 dc68 pm68 an68 cd68 ct68), sl68⟩) (c68 : PySem.W.codeIn K cd68 "_law_wide" = true) (k68 : PySem.W.keepIn K (.ref f68) = true)
    {od69 an69 : Option Addr} {sl69 : Array (Option Value)} {oc69 kV69 dc69 pm69 cd69 ct69 : Value}
    (a69 : PySem.W.nsIn K mainGlobals "_law_other" = some (some (.ref f69))) (l69 : K.lookup f69 = some ⟨oc69, od69, .func (PySem.W.fnOf "_law_other" "_law_other" (defArgs s_law_other) (defBody s_law_other) (defScope s_law_other) .none kV69 dc69 pm69 an69 cd69 ct69), sl69⟩) (c69 : PySem.W.codeIn K cd69 "_law_other" = true) (k69 : PySem.W.keepIn K (.ref f69) = true)
    {od70 an70 : Option Addr} {sl70 : Array (Option Value)} {oc70 kV70 dc70 pm70 cd70 ct70 : Value}
    (a70 : PySem.W.nsIn K mainGlobals "_law_changed" = some (some (.ref f70))) (l70 : K.lookup f70 = some ⟨oc70, od70, .func (PySem.W.fnOf "_law_changed" "_law_changed" (defArgs s_law_changed) (defBody s_law_changed) (defScope s_law_changed) .none kV70 dc70 pm70 an70 cd70 ct70), sl70⟩) (c70 : PySem.W.codeIn K cd70 "_law_changed" = true) (k70 : PySem.W.keepIn K (.ref f70) = true)
    {od71 an71 : Option Addr} {sl71 : Array (Option Value)} {oc71 kV71 dc71 pm71 cd71 ct71 : Value}
    (a71 : PySem.W.nsIn K mainGlobals "_law_headed" = some (some (.ref f71))) (l71 : K.lookup f71 = some ⟨oc71, od71, .func (PySem.W.fnOf "_law_headed" "_law_headed" (defArgs s_law_headed) (defBody s_law_headed) (defScope s_law_headed) .none kV71 dc71 pm71 an71 cd71 ct71), sl71⟩) (c71 : PySem.W.codeIn K cd71 "_law_headed" = true) (k71 : PySem.W.keepIn K (.ref f71) = true)
    {od72 an72 : Option Addr} {sl72 : Array (Option Value)} {oc72 kV72 dc72 pm72 cd72 ct72 : Value}
    (a72 : PySem.W.nsIn K mainGlobals "_law_told" = some (some (.ref f72))) (l72 : K.lookup f72 = some ⟨oc72, od72, .func (PySem.W.fnOf "_law_told" "_law_told" (defArgs s_law_told) (defBody s_law_told) (defScope s_law_told) .none kV72 dc72 pm72 an72 cd72 ct72), sl72⟩) (c72 : PySem.W.codeIn K cd72 "_law_told" = true) (k72 : PySem.W.keepIn K (.ref f72) = true)
    {od73 an73 : Option Addr} {sl73 : Array (Option Value)} {oc73 kV73 dc73 pm73 cd73 ct73 : Value}
    (a73 : PySem.W.nsIn K mainGlobals "law" = some (some (.ref f73))) (l73 : K.lookup f73 = some ⟨oc73, od73, .func (PySem.W.fnOf "law" "law" (defArgs s_law) (defBody s_law) (defScope s_law) .none kV73 dc73 pm73 an73 cd73 ct73), sl73⟩) (c73 : PySem.W.codeIn K cd73 "law" = true) (k73 : PySem.W.keepIn K (.ref f73) = true)
    (z_all : PySem.W.nsIn K mainGlobals "all" = some none)
    (z_bool : PySem.W.nsIn K mainGlobals "bool" = some none)
    (z_int : PySem.W.nsIn K mainGlobals "int" = some none)
    (z_isinstance : PySem.W.nsIn K mainGlobals "isinstance" = some none)
    (z_len : PySem.W.nsIn K mainGlobals "len" = some none)
    (z_list : PySem.W.nsIn K mainGlobals "list" = some none)
    (z_max : PySem.W.nsIn K mainGlobals "max" = some none)
    (z_range : PySem.W.nsIn K mainGlobals "range" = some none)
    (z_set : PySem.W.nsIn K mainGlobals "set" = some none)
    (z_str : PySem.W.nsIn K mainGlobals "str" = some none)
    (z_sum : PySem.W.nsIn K mainGlobals "sum" = some none)
    (z_tuple : PySem.W.nsIn K mainGlobals "tuple" = some none)
    {t_BRACKETS : Tok} (g_BRACKETS : PySem.W.nsIn K mainGlobals "BRACKETS" = some (some (.int 12 t_BRACKETS)))
    {t_CAPITALS : Tok} (g_CAPITALS : PySem.W.nsIn K mainGlobals "CAPITALS" = some (some (.str "ABCDEFGHIJKLMNOPQRSTUVWXYZ" t_CAPITALS)))
    {t_DEEP : Tok} (g_DEEP : PySem.W.nsIn K mainGlobals "DEEP" = some (some (.int 12 t_DEEP)))
    {t_DIGITS : Tok} (g_DIGITS : PySem.W.nsIn K mainGlobals "DIGITS" = some (some (.str "0123456789" t_DIGITS)))
    {t_FIGURES : Tok} (g_FIGURES : PySem.W.nsIn K mainGlobals "FIGURES" = some (some (.int 60 t_FIGURES)))
    {p_KEPT : Addr} {t_KEPT_0 : Tok} {t_KEPT_1 : Tok} {t_KEPT_2 : Tok} {t_KEPT_3 : Tok} {t_KEPT_4 : Tok} {t_KEPT_5 : Tok} {t_KEPT_6 : Tok} {t_KEPT_7 : Tok} {t_KEPT_8 : Tok} {t_KEPT_9 : Tok} {t_KEPT_10 : Tok} {t_KEPT_11 : Tok} {t_KEPT_12 : Tok} {t_KEPT_13 : Tok} {t_KEPT_14 : Tok} {o_KEPT : Option Addr} {n_KEPT : Nat} {s_KEPT : Array (Option Value)} (l_KEPT : K.lookup p_KEPT = some ⟨.type "tuple", o_KEPT, .seq #[.str "op" t_KEPT_0, .str "mode" t_KEPT_1, .str "table" t_KEPT_2, .str "not" t_KEPT_3, .str "is" t_KEPT_4, .str "in" t_KEPT_5, .str "such" t_KEPT_6, .str "and" t_KEPT_7, .str "=" t_KEPT_8, .str "<" t_KEPT_9, .str "=<" t_KEPT_10, .str "==" t_KEPT_11, .str "=/=" t_KEPT_12, .str ".." t_KEPT_13, .str "<-" t_KEPT_14] n_KEPT, s_KEPT⟩) (g_KEPT : PySem.W.nsIn K mainGlobals "KEPT" = some (some (.ref p_KEPT)))
    {t_LEVELS : Tok} (g_LEVELS : PySem.W.nsIn K mainGlobals "LEVELS" = some (some (.int 9 t_LEVELS)))
    {t_MARKS : Tok} (g_MARKS : PySem.W.nsIn K mainGlobals "MARKS" = some (some (.str "+-*/<>=&!?^@#:|.$" t_MARKS)))
    {t_MARK_SIGNS : Tok} (g_MARK_SIGNS : PySem.W.nsIn K mainGlobals "MARK_SIGNS" = some (some (.int 3 t_MARK_SIGNS)))
    {p_OWN : Addr} {p_OWN_15 : Addr} {p_OWN_14 : Addr} {p_OWN_13 : Addr} {p_OWN_12 : Addr} {p_OWN_11 : Addr} {p_OWN_10 : Addr} {p_OWN_9 : Addr} {p_OWN_8 : Addr} {p_OWN_7 : Addr} {p_OWN_6 : Addr} {p_OWN_5 : Addr} {p_OWN_4 : Addr} {p_OWN_3 : Addr} {p_OWN_2 : Addr} {p_OWN_1 : Addr} {p_OWN_0 : Addr} {t_OWN_0_0 : Tok} {t_OWN_0_1 : Tok} {t_OWN_0_2 : Tok} {o_OWN_0 : Option Addr} {n_OWN_0 : Nat} {s_OWN_0 : Array (Option Value)} (l_OWN_0 : K.lookup p_OWN_0 = some ⟨.type "tuple", o_OWN_0, .seq #[.int 9 t_OWN_0_0, .str "none" t_OWN_0_1, .str "such" t_OWN_0_2] n_OWN_0, s_OWN_0⟩) {t_OWN_1_0 : Tok} {t_OWN_1_1 : Tok} {t_OWN_1_2 : Tok} {o_OWN_1 : Option Addr} {n_OWN_1 : Nat} {s_OWN_1 : Array (Option Value)} (l_OWN_1 : K.lookup p_OWN_1 = some ⟨.type "tuple", o_OWN_1, .seq #[.int 8 t_OWN_1_0, .str "right" t_OWN_1_1, .str "and" t_OWN_1_2] n_OWN_1, s_OWN_1⟩) {t_OWN_2_0 : Tok} {t_OWN_2_1 : Tok} {t_OWN_2_2 : Tok} {o_OWN_2 : Option Addr} {n_OWN_2 : Nat} {s_OWN_2 : Array (Option Value)} (l_OWN_2 : K.lookup p_OWN_2 = some ⟨.type "tuple", o_OWN_2, .seq #[.int 7 t_OWN_2_0, .str "none" t_OWN_2_1, .str "in" t_OWN_2_2] n_OWN_2, s_OWN_2⟩) {t_OWN_3_0 : Tok} {t_OWN_3_1 : Tok} {t_OWN_3_2 : Tok} {o_OWN_3 : Option Addr} {n_OWN_3 : Nat} {s_OWN_3 : Array (Option Value)} (l_OWN_3 : K.lookup p_OWN_3 = some ⟨.type "tuple", o_OWN_3, .seq #[.int 7 t_OWN_3_0, .str "ahead" t_OWN_3_1, .str "not" t_OWN_3_2] n_OWN_3, s_OWN_3⟩) {t_OWN_4_0 : Tok} {t_OWN_4_1 : Tok} {t_OWN_4_2 : Tok} {o_OWN_4 : Option Addr} {n_OWN_4 : Nat} {s_OWN_4 : Array (Option Value)} (l_OWN_4 : K.lookup p_OWN_4 = some ⟨.type "tuple", o_OWN_4, .seq #[.int 6 t_OWN_4_0, .str "none" t_OWN_4_1, .str "=" t_OWN_4_2] n_OWN_4, s_OWN_4⟩) {t_OWN_5_0 : Tok} {t_OWN_5_1 : Tok} {t_OWN_5_2 : Tok} {o_OWN_5 : Option Addr} {n_OWN_5 : Nat} {s_OWN_5 : Array (Option Value)} (l_OWN_5 : K.lookup p_OWN_5 = some ⟨.type "tuple", o_OWN_5, .seq #[.int 6 t_OWN_5_0, .str "none" t_OWN_5_1, .str "is" t_OWN_5_2] n_OWN_5, s_OWN_5⟩) {t_OWN_6_0 : Tok} {t_OWN_6_1 : Tok} {t_OWN_6_2 : Tok} {o_OWN_6 : Option Addr} {n_OWN_6 : Nat} {s_OWN_6 : Array (Option Value)} (l_OWN_6 : K.lookup p_OWN_6 = some ⟨.type "tuple", o_OWN_6, .seq #[.int 6 t_OWN_6_0, .str "none" t_OWN_6_1, .str "<" t_OWN_6_2] n_OWN_6, s_OWN_6⟩) {t_OWN_7_0 : Tok} {t_OWN_7_1 : Tok} {t_OWN_7_2 : Tok} {o_OWN_7 : Option Addr} {n_OWN_7 : Nat} {s_OWN_7 : Array (Option Value)} (l_OWN_7 : K.lookup p_OWN_7 = some ⟨.type "tuple", o_OWN_7, .seq #[.int 6 t_OWN_7_0, .str "none" t_OWN_7_1, .str "=<" t_OWN_7_2] n_OWN_7, s_OWN_7⟩) {t_OWN_8_0 : Tok} {t_OWN_8_1 : Tok} {t_OWN_8_2 : Tok} {o_OWN_8 : Option Addr} {n_OWN_8 : Nat} {s_OWN_8 : Array (Option Value)} (l_OWN_8 : K.lookup p_OWN_8 = some ⟨.type "tuple", o_OWN_8, .seq #[.int 6 t_OWN_8_0, .str "none" t_OWN_8_1, .str "==" t_OWN_8_2] n_OWN_8, s_OWN_8⟩) {t_OWN_9_0 : Tok} {t_OWN_9_1 : Tok} {t_OWN_9_2 : Tok} {o_OWN_9 : Option Addr} {n_OWN_9 : Nat} {s_OWN_9 : Array (Option Value)} (l_OWN_9 : K.lookup p_OWN_9 = some ⟨.type "tuple", o_OWN_9, .seq #[.int 6 t_OWN_9_0, .str "none" t_OWN_9_1, .str "=/=" t_OWN_9_2] n_OWN_9, s_OWN_9⟩) {t_OWN_10_0 : Tok} {t_OWN_10_1 : Tok} {t_OWN_10_2 : Tok} {o_OWN_10 : Option Addr} {n_OWN_10 : Nat} {s_OWN_10 : Array (Option Value)} (l_OWN_10 : K.lookup p_OWN_10 = some ⟨.type "tuple", o_OWN_10, .seq #[.int 6 t_OWN_10_0, .str "none" t_OWN_10_1, .str ".." t_OWN_10_2] n_OWN_10, s_OWN_10⟩) {t_OWN_11_0 : Tok} {t_OWN_11_1 : Tok} {t_OWN_11_2 : Tok} {o_OWN_11 : Option Addr} {n_OWN_11 : Nat} {s_OWN_11 : Array (Option Value)} (l_OWN_11 : K.lookup p_OWN_11 = some ⟨.type "tuple", o_OWN_11, .seq #[.int 4 t_OWN_11_0, .str "left" t_OWN_11_1, .str "+" t_OWN_11_2] n_OWN_11, s_OWN_11⟩) {t_OWN_12_0 : Tok} {t_OWN_12_1 : Tok} {t_OWN_12_2 : Tok} {o_OWN_12 : Option Addr} {n_OWN_12 : Nat} {s_OWN_12 : Array (Option Value)} (l_OWN_12 : K.lookup p_OWN_12 = some ⟨.type "tuple", o_OWN_12, .seq #[.int 4 t_OWN_12_0, .str "left" t_OWN_12_1, .str "-" t_OWN_12_2] n_OWN_12, s_OWN_12⟩) {t_OWN_13_0 : Tok} {t_OWN_13_1 : Tok} {t_OWN_13_2 : Tok} {o_OWN_13 : Option Addr} {n_OWN_13 : Nat} {s_OWN_13 : Array (Option Value)} (l_OWN_13 : K.lookup p_OWN_13 = some ⟨.type "tuple", o_OWN_13, .seq #[.int 3 t_OWN_13_0, .str "left" t_OWN_13_1, .str "*" t_OWN_13_2] n_OWN_13, s_OWN_13⟩) {t_OWN_14_0 : Tok} {t_OWN_14_1 : Tok} {t_OWN_14_2 : Tok} {o_OWN_14 : Option Addr} {n_OWN_14 : Nat} {s_OWN_14 : Array (Option Value)} (l_OWN_14 : K.lookup p_OWN_14 = some ⟨.type "tuple", o_OWN_14, .seq #[.int 3 t_OWN_14_0, .str "left" t_OWN_14_1, .str "//" t_OWN_14_2] n_OWN_14, s_OWN_14⟩) {t_OWN_15_0 : Tok} {t_OWN_15_1 : Tok} {t_OWN_15_2 : Tok} {o_OWN_15 : Option Addr} {n_OWN_15 : Nat} {s_OWN_15 : Array (Option Value)} (l_OWN_15 : K.lookup p_OWN_15 = some ⟨.type "tuple", o_OWN_15, .seq #[.int 3 t_OWN_15_0, .str "left" t_OWN_15_1, .str "mod" t_OWN_15_2] n_OWN_15, s_OWN_15⟩) {o_OWN : Option Addr} {n_OWN : Nat} {s_OWN : Array (Option Value)} (l_OWN : K.lookup p_OWN = some ⟨.type "tuple", o_OWN, .seq #[.ref p_OWN_0, .ref p_OWN_1, .ref p_OWN_2, .ref p_OWN_3, .ref p_OWN_4, .ref p_OWN_5, .ref p_OWN_6, .ref p_OWN_7, .ref p_OWN_8, .ref p_OWN_9, .ref p_OWN_10, .ref p_OWN_11, .ref p_OWN_12, .ref p_OWN_13, .ref p_OWN_14, .ref p_OWN_15] n_OWN, s_OWN⟩) (g_OWN : PySem.W.nsIn K mainGlobals "OWN" = some (some (.ref p_OWN)))
    {t_PARTS : Tok} (g_PARTS : PySem.W.nsIn K mainGlobals "PARTS" = some (some (.int 4 t_PARTS)))
    {t_PIECES : Tok} (g_PIECES : PySem.W.nsIn K mainGlobals "PIECES" = some (some (.int 200 t_PIECES)))
    {t_RANGES : Tok} (g_RANGES : PySem.W.nsIn K mainGlobals "RANGES" = some (some (.int 3 t_RANGES)))
    {t_SIZE : Tok} (g_SIZE : PySem.W.nsIn K mainGlobals "SIZE" = some (some (.int 60 t_SIZE)))
    {t_SMALLS : Tok} (g_SMALLS : PySem.W.nsIn K mainGlobals "SMALLS" = some (some (.str "abcdefghijklmnopqrstuvwxyz" t_SMALLS)))
    {p_SUM_SIGNS : Addr} {t_SUM_SIGNS_0 : Tok} {t_SUM_SIGNS_1 : Tok} {t_SUM_SIGNS_2 : Tok} {t_SUM_SIGNS_3 : Tok} {t_SUM_SIGNS_4 : Tok} {o_SUM_SIGNS : Option Addr} {n_SUM_SIGNS : Nat} {s_SUM_SIGNS : Array (Option Value)} (l_SUM_SIGNS : K.lookup p_SUM_SIGNS = some ⟨.type "tuple", o_SUM_SIGNS, .seq #[.str "+" t_SUM_SIGNS_0, .str "-" t_SUM_SIGNS_1, .str "*" t_SUM_SIGNS_2, .str "//" t_SUM_SIGNS_3, .str "mod" t_SUM_SIGNS_4] n_SUM_SIGNS, s_SUM_SIGNS⟩) (g_SUM_SIGNS : PySem.W.nsIn K mainGlobals "SUM_SIGNS" = some (some (.ref p_SUM_SIGNS)))
    {t_TESTS : Tok} (g_TESTS : PySem.W.nsIn K mainGlobals "TESTS" = some (some (.int 4 t_TESTS)))
    {p_TEST_SIGNS : Addr} {t_TEST_SIGNS_0 : Tok} {t_TEST_SIGNS_1 : Tok} {t_TEST_SIGNS_2 : Tok} {t_TEST_SIGNS_3 : Tok} {o_TEST_SIGNS : Option Addr} {n_TEST_SIGNS : Nat} {s_TEST_SIGNS : Array (Option Value)} (l_TEST_SIGNS : K.lookup p_TEST_SIGNS = some ⟨.type "tuple", o_TEST_SIGNS, .seq #[.str "<" t_TEST_SIGNS_0, .str "=<" t_TEST_SIGNS_1, .str "==" t_TEST_SIGNS_2, .str "=/=" t_TEST_SIGNS_3] n_TEST_SIGNS, s_TEST_SIGNS⟩) (g_TEST_SIGNS : PySem.W.nsIn K mainGlobals "TEST_SIGNS" = some (some (.ref p_TEST_SIGNS)))
    {t_WORD_SIGNS : Tok} (g_WORD_SIGNS : PySem.W.nsIn K mainGlobals "WORD_SIGNS" = some (some (.int 12 t_WORD_SIGNS)))
    {C_BadShape N_BadShape I_BadShape : Addr} {nm_BadShape q_BadShape : Str} {bs_BadShape : List Value} {sn_BadShape : List Str} {sub_BadShape : List Value} {ab_BadShape : Bool} {col_BadShape : Option Bool} {dd_BadShape : Option Addr} {k0_BadShape k1_BadShape k2_BadShape k3_BadShape k5_BadShape : Option Value}
    (m_BadShape : PySem.W.nsIn K mainGlobals "BadShape" = some (some (.ref C_BadShape)))
    (x_BadShape : K.lookup C_BadShape = some (excClassObj nm_BadShape q_BadShape C_BadShape N_BadShape bs_BadShape [.ref B_GoalError, .type "ValueError", .type "Exception", .type "BaseException", .type "object"] true sn_BadShape sub_BadShape ab_BadShape col_BadShape dd_BadShape k0_BadShape k1_BadShape k2_BadShape k3_BadShape k5_BadShape "ValueError.__new__"))
    (sa_BadShape : PySem.W.findIn K (.ref C_BadShape) "__setattr__" = some (some (.builtin "object.__setattr__"))) (ga_BadShape : PySem.W.findIn K (.ref C_BadShape) "__getattribute__" = some (some (.builtin "BaseException.__getattribute__"))) (gg_BadShape : PySem.W.findIn K (.ref C_BadShape) "__getattr__" = some none) (nf_BadShape : PySem.W.findIn K (.ref C_BadShape) "line" = some none)
    (ex_BadShape : PySem.W.subIn K (.ref C_BadShape) (.type "BaseException") = some true) (ty_BadShape : PySem.W.typeIn K (.ref C_BadShape) = some (.type "type")) (kc_BadShape : PySem.W.keepIn K (.ref C_BadShape) = true) (hd_BadShape : PySem.W.hasDictIn K C_BadShape = true) (ic_BadShape : PySem.W.isClsIn K C_BadShape = true) (ss_BadShape : PySem.W.subIn K (.ref C_BadShape) (.ref C_BadShape) = some true)
    (i_BadShape : PySem.W.findIn K (.ref C_BadShape) "__init__" = some (some (.ref I_BadShape))) (ti_BadShape : PySem.W.typeIn K (.ref I_BadShape) = some (.type "function"))
    {od_BadShape an_BadShape : Option Addr} {sl_BadShape : Array (Option Value)} {oc_BadShape kV_BadShape dc_BadShape pm_BadShape cd_BadShape ct_BadShape : Value}
    (l_BadShape : K.lookup I_BadShape = some ⟨oc_BadShape, od_BadShape, .func (PySem.W.fnOf "__init__" "BadShape.__init__" (defArgs s_BadShape) (defBody s_BadShape) (defScope s_BadShape) .none kV_BadShape dc_BadShape pm_BadShape an_BadShape cd_BadShape ct_BadShape), sl_BadShape⟩) (c_BadShape : PySem.W.codeIn K cd_BadShape "BadShape.__init__" = true) (k_BadShape : PySem.W.keepIn K (.ref I_BadShape) = true)
    {C_BadSize N_BadSize I_BadSize : Addr} {nm_BadSize q_BadSize : Str} {bs_BadSize : List Value} {sn_BadSize : List Str} {sub_BadSize : List Value} {ab_BadSize : Bool} {col_BadSize : Option Bool} {dd_BadSize : Option Addr} {k0_BadSize k1_BadSize k2_BadSize k3_BadSize k5_BadSize : Option Value}
    (m_BadSize : PySem.W.nsIn K mainGlobals "BadSize" = some (some (.ref C_BadSize)))
    (x_BadSize : K.lookup C_BadSize = some (excClassObj nm_BadSize q_BadSize C_BadSize N_BadSize bs_BadSize [.ref B_GoalError, .type "ValueError", .type "Exception", .type "BaseException", .type "object"] true sn_BadSize sub_BadSize ab_BadSize col_BadSize dd_BadSize k0_BadSize k1_BadSize k2_BadSize k3_BadSize k5_BadSize "ValueError.__new__"))
    (sa_BadSize : PySem.W.findIn K (.ref C_BadSize) "__setattr__" = some (some (.builtin "object.__setattr__"))) (ga_BadSize : PySem.W.findIn K (.ref C_BadSize) "__getattribute__" = some (some (.builtin "BaseException.__getattribute__"))) (gg_BadSize : PySem.W.findIn K (.ref C_BadSize) "__getattr__" = some none) (nf_BadSize : PySem.W.findIn K (.ref C_BadSize) "line" = some none)
    (ex_BadSize : PySem.W.subIn K (.ref C_BadSize) (.type "BaseException") = some true) (ty_BadSize : PySem.W.typeIn K (.ref C_BadSize) = some (.type "type")) (kc_BadSize : PySem.W.keepIn K (.ref C_BadSize) = true) (hd_BadSize : PySem.W.hasDictIn K C_BadSize = true) (ic_BadSize : PySem.W.isClsIn K C_BadSize = true) (ss_BadSize : PySem.W.subIn K (.ref C_BadSize) (.ref C_BadSize) = some true)
    (i_BadSize : PySem.W.findIn K (.ref C_BadSize) "__init__" = some (some (.ref I_BadSize))) (ti_BadSize : PySem.W.typeIn K (.ref I_BadSize) = some (.type "function"))
    {od_BadSize an_BadSize : Option Addr} {sl_BadSize : Array (Option Value)} {oc_BadSize kV_BadSize dc_BadSize pm_BadSize cd_BadSize ct_BadSize : Value}
    (l_BadSize : K.lookup I_BadSize = some ⟨oc_BadSize, od_BadSize, .func (PySem.W.fnOf "__init__" "BadSize.__init__" (defArgs s_BadSize) (defBody s_BadSize) (defScope s_BadSize) .none kV_BadSize dc_BadSize pm_BadSize an_BadSize cd_BadSize ct_BadSize), sl_BadSize⟩) (c_BadSize : PySem.W.codeIn K cd_BadSize "BadSize.__init__" = true) (k_BadSize : PySem.W.keepIn K (.ref I_BadSize) = true)
    {C_ : Addr} (m_C_ : PySem.W.nsIn K mainGlobals "OperatorTable" = some (some (.ref C_))) (t_pgC_ : PySem.W.plainGet K C_ Str.empty = true) (t_hdC_ : PySem.W.hasDictIn K C_ = true) (t_poC_ : PySem.W.plainOver K C_ = true) (t_saC_ : PySem.W.findIn K (.ref C_) "__setattr__" = some (some (.builtin "object.__setattr__"))) (t_mkC_ : PySem.W.makesIn K C_ = true) (t_kcC_ : PySem.W.keepIn K (.ref C_) = true) (t_n_betweenC_ : PySem.W.findIn K (.ref C_) "between" = some none) (t_n_aheadC_ : PySem.W.findIn K (.ref C_) "ahead" = some none)
    {g_C_init : Addr} {od_C_init an_C_init : Option Addr} {sl_C_init : Array (Option Value)} {oc_C_init kV_C_init dc_C_init pm_C_init cd_C_init ct_C_init : Value} (u_C_init : PySem.W.findIn K (.ref C_) "__init__" = some (some (.ref g_C_init))) (i_C_init : PySem.W.isFn K (.ref g_C_init) = true) (l_C_init : K.lookup g_C_init = some ⟨oc_C_init, od_C_init, .func (PySem.W.fnOf "__init__" "OperatorTable.__init__" (defArgs s_OperatorTable_init) (defBody s_OperatorTable_init) (defScope s_OperatorTable_init) .none kV_C_init dc_C_init pm_C_init an_C_init cd_C_init ct_C_init), sl_C_init⟩) (c_C_init : PySem.W.codeIn K cd_C_init "OperatorTable.__init__" = true) (k_C_init : PySem.W.keepIn K (.ref g_C_init) = true)
    {g_C_has : Addr} {od_C_has an_C_has : Option Addr} {sl_C_has : Array (Option Value)} {oc_C_has kV_C_has dc_C_has pm_C_has cd_C_has ct_C_has : Value} (u_C_has : PySem.W.findIn K (.ref C_) "has" = some (some (.ref g_C_has))) (i_C_has : PySem.W.isFn K (.ref g_C_has) = true) (l_C_has : K.lookup g_C_has = some ⟨oc_C_has, od_C_has, .func (PySem.W.fnOf "has" "OperatorTable.has" (defArgs s_OperatorTable_has) (defBody s_OperatorTable_has) (defScope s_OperatorTable_has) .none kV_C_has dc_C_has pm_C_has an_C_has cd_C_has ct_C_has), sl_C_has⟩) (c_C_has : PySem.W.codeIn K cd_C_has "OperatorTable.has" = true) (k_C_has : PySem.W.keepIn K (.ref g_C_has) = true)
    {g_C_left_bound : Addr} {od_C_left_bound an_C_left_bound : Option Addr} {sl_C_left_bound : Array (Option Value)} {oc_C_left_bound kV_C_left_bound dc_C_left_bound pm_C_left_bound cd_C_left_bound ct_C_left_bound : Value} (u_C_left_bound : PySem.W.findIn K (.ref C_) "left_bound" = some (some (.ref g_C_left_bound))) (i_C_left_bound : PySem.W.isFn K (.ref g_C_left_bound) = true) (l_C_left_bound : K.lookup g_C_left_bound = some ⟨oc_C_left_bound, od_C_left_bound, .func (PySem.W.fnOf "left_bound" "OperatorTable.left_bound" (defArgs s_OperatorTable_left_bound) (defBody s_OperatorTable_left_bound) (defScope s_OperatorTable_left_bound) .none kV_C_left_bound dc_C_left_bound pm_C_left_bound an_C_left_bound cd_C_left_bound ct_C_left_bound), sl_C_left_bound⟩) (c_C_left_bound : PySem.W.codeIn K cd_C_left_bound "OperatorTable.left_bound" = true) (k_C_left_bound : PySem.W.keepIn K (.ref g_C_left_bound) = true)
    {g_C_right_bound : Addr} {od_C_right_bound an_C_right_bound : Option Addr} {sl_C_right_bound : Array (Option Value)} {oc_C_right_bound kV_C_right_bound dc_C_right_bound pm_C_right_bound cd_C_right_bound ct_C_right_bound : Value} (u_C_right_bound : PySem.W.findIn K (.ref C_) "right_bound" = some (some (.ref g_C_right_bound))) (i_C_right_bound : PySem.W.isFn K (.ref g_C_right_bound) = true) (l_C_right_bound : K.lookup g_C_right_bound = some ⟨oc_C_right_bound, od_C_right_bound, .func (PySem.W.fnOf "right_bound" "OperatorTable.right_bound" (defArgs s_OperatorTable_right_bound) (defBody s_OperatorTable_right_bound) (defScope s_OperatorTable_right_bound) .none kV_C_right_bound dc_C_right_bound pm_C_right_bound an_C_right_bound cd_C_right_bound ct_C_right_bound), sl_C_right_bound⟩) (c_C_right_bound : PySem.W.codeIn K cd_C_right_bound "OperatorTable.right_bound" = true) (k_C_right_bound : PySem.W.keepIn K (.ref g_C_right_bound) = true)
    {g_C_ahead_bound : Addr} {od_C_ahead_bound an_C_ahead_bound : Option Addr} {sl_C_ahead_bound : Array (Option Value)} {oc_C_ahead_bound kV_C_ahead_bound dc_C_ahead_bound pm_C_ahead_bound cd_C_ahead_bound ct_C_ahead_bound : Value} (u_C_ahead_bound : PySem.W.findIn K (.ref C_) "ahead_bound" = some (some (.ref g_C_ahead_bound))) (i_C_ahead_bound : PySem.W.isFn K (.ref g_C_ahead_bound) = true) (l_C_ahead_bound : K.lookup g_C_ahead_bound = some ⟨oc_C_ahead_bound, od_C_ahead_bound, .func (PySem.W.fnOf "ahead_bound" "OperatorTable.ahead_bound" (defArgs s_OperatorTable_ahead_bound) (defBody s_OperatorTable_ahead_bound) (defScope s_OperatorTable_ahead_bound) .none kV_C_ahead_bound dc_C_ahead_bound pm_C_ahead_bound an_C_ahead_bound cd_C_ahead_bound ct_C_ahead_bound), sl_C_ahead_bound⟩) (c_C_ahead_bound : PySem.W.codeIn K cd_C_ahead_bound "OperatorTable.ahead_bound" = true) (k_C_ahead_bound : PySem.W.keepIn K (.ref g_C_ahead_bound) = true)
    {D_ : Addr} (m_D_ : PySem.W.nsIn K mainGlobals "Reading" = some (some (.ref D_))) (t_pgD_ : PySem.W.plainGet K D_ Str.empty = true) (t_hdD_ : PySem.W.hasDictIn K D_ = true) (t_poD_ : PySem.W.plainOver K D_ = true) (t_saD_ : PySem.W.findIn K (.ref D_) "__setattr__" = some (some (.builtin "object.__setattr__"))) (t_mkD_ : PySem.W.makesIn K D_ = true) (t_kcD_ : PySem.W.keepIn K (.ref D_) = true) (t_n_piecesD_ : PySem.W.findIn K (.ref D_) "pieces" = some none) (t_n_tableD_ : PySem.W.findIn K (.ref D_) "table" = some none) (t_n_atD_ : PySem.W.findIn K (.ref D_) "at" = some none)
    {g_D_init : Addr} {od_D_init an_D_init : Option Addr} {sl_D_init : Array (Option Value)} {oc_D_init kV_D_init dc_D_init pm_D_init cd_D_init ct_D_init : Value} (u_D_init : PySem.W.findIn K (.ref D_) "__init__" = some (some (.ref g_D_init))) (i_D_init : PySem.W.isFn K (.ref g_D_init) = true) (l_D_init : K.lookup g_D_init = some ⟨oc_D_init, od_D_init, .func (PySem.W.fnOf "__init__" "Reading.__init__" (defArgs s_Reading_init) (defBody s_Reading_init) (defScope s_Reading_init) .none kV_D_init dc_D_init pm_D_init an_D_init cd_D_init ct_D_init), sl_D_init⟩) (c_D_init : PySem.W.codeIn K cd_D_init "Reading.__init__" = true) (k_D_init : PySem.W.keepIn K (.ref g_D_init) = true)
    {g_D_whole : Addr} {od_D_whole an_D_whole : Option Addr} {sl_D_whole : Array (Option Value)} {oc_D_whole kV_D_whole dc_D_whole pm_D_whole cd_D_whole ct_D_whole : Value} (u_D_whole : PySem.W.findIn K (.ref D_) "whole" = some (some (.ref g_D_whole))) (i_D_whole : PySem.W.isFn K (.ref g_D_whole) = true) (l_D_whole : K.lookup g_D_whole = some ⟨oc_D_whole, od_D_whole, .func (PySem.W.fnOf "whole" "Reading.whole" (defArgs s_Reading_whole) (defBody s_Reading_whole) (defScope s_Reading_whole) .none kV_D_whole dc_D_whole pm_D_whole an_D_whole cd_D_whole ct_D_whole), sl_D_whole⟩) (c_D_whole : PySem.W.codeIn K cd_D_whole "Reading.whole" = true) (k_D_whole : PySem.W.keepIn K (.ref g_D_whole) = true)
    {g_D_part : Addr} {od_D_part an_D_part : Option Addr} {sl_D_part : Array (Option Value)} {oc_D_part kV_D_part dc_D_part pm_D_part cd_D_part ct_D_part : Value} (u_D_part : PySem.W.findIn K (.ref D_) "part" = some (some (.ref g_D_part))) (i_D_part : PySem.W.isFn K (.ref g_D_part) = true) (l_D_part : K.lookup g_D_part = some ⟨oc_D_part, od_D_part, .func (PySem.W.fnOf "part" "Reading.part" (defArgs s_Reading_part) (defBody s_Reading_part) (defScope s_Reading_part) .none kV_D_part dc_D_part pm_D_part an_D_part cd_D_part ct_D_part), sl_D_part⟩) (c_D_part : PySem.W.codeIn K cd_D_part "Reading.part" = true) (k_D_part : PySem.W.keepIn K (.ref g_D_part) = true)
    {g_D_goes_on : Addr} {od_D_goes_on an_D_goes_on : Option Addr} {sl_D_goes_on : Array (Option Value)} {oc_D_goes_on kV_D_goes_on dc_D_goes_on pm_D_goes_on cd_D_goes_on ct_D_goes_on : Value} (u_D_goes_on : PySem.W.findIn K (.ref D_) "goes_on" = some (some (.ref g_D_goes_on))) (i_D_goes_on : PySem.W.isFn K (.ref g_D_goes_on) = true) (l_D_goes_on : K.lookup g_D_goes_on = some ⟨oc_D_goes_on, od_D_goes_on, .func (PySem.W.fnOf "goes_on" "Reading.goes_on" (defArgs s_Reading_goes_on) (defBody s_Reading_goes_on) (defScope s_Reading_goes_on) .none kV_D_goes_on dc_D_goes_on pm_D_goes_on an_D_goes_on cd_D_goes_on ct_D_goes_on), sl_D_goes_on⟩) (c_D_goes_on : PySem.W.codeIn K cd_D_goes_on "Reading.goes_on" = true) (k_D_goes_on : PySem.W.keepIn K (.ref g_D_goes_on) = true)
    {g_D_first_part : Addr} {od_D_first_part an_D_first_part : Option Addr} {sl_D_first_part : Array (Option Value)} {oc_D_first_part kV_D_first_part dc_D_first_part pm_D_first_part cd_D_first_part ct_D_first_part : Value} (u_D_first_part : PySem.W.findIn K (.ref D_) "first_part" = some (some (.ref g_D_first_part))) (i_D_first_part : PySem.W.isFn K (.ref g_D_first_part) = true) (l_D_first_part : K.lookup g_D_first_part = some ⟨oc_D_first_part, od_D_first_part, .func (PySem.W.fnOf "first_part" "Reading.first_part" (defArgs s_Reading_first_part) (defBody s_Reading_first_part) (defScope s_Reading_first_part) .none kV_D_first_part dc_D_first_part pm_D_first_part an_D_first_part cd_D_first_part ct_D_first_part), sl_D_first_part⟩) (c_D_first_part : PySem.W.codeIn K cd_D_first_part "Reading.first_part" = true) (k_D_first_part : PySem.W.keepIn K (.ref g_D_first_part) = true)
    {g_D_plain_part : Addr} {od_D_plain_part an_D_plain_part : Option Addr} {sl_D_plain_part : Array (Option Value)} {oc_D_plain_part kV_D_plain_part dc_D_plain_part pm_D_plain_part cd_D_plain_part ct_D_plain_part : Value} (u_D_plain_part : PySem.W.findIn K (.ref D_) "plain_part" = some (some (.ref g_D_plain_part))) (i_D_plain_part : PySem.W.isFn K (.ref g_D_plain_part) = true) (l_D_plain_part : K.lookup g_D_plain_part = some ⟨oc_D_plain_part, od_D_plain_part, .func (PySem.W.fnOf "plain_part" "Reading.plain_part" (defArgs s_Reading_plain_part) (defBody s_Reading_plain_part) (defScope s_Reading_plain_part) .none kV_D_plain_part dc_D_plain_part pm_D_plain_part an_D_plain_part cd_D_plain_part ct_D_plain_part), sl_D_plain_part⟩) (c_D_plain_part : PySem.W.codeIn K cd_D_plain_part "Reading.plain_part" = true) (k_D_plain_part : PySem.W.keepIn K (.ref g_D_plain_part) = true)
    {g_D_parts_in_brackets : Addr} {od_D_parts_in_brackets an_D_parts_in_brackets : Option Addr} {sl_D_parts_in_brackets : Array (Option Value)} {oc_D_parts_in_brackets kV_D_parts_in_brackets dc_D_parts_in_brackets pm_D_parts_in_brackets cd_D_parts_in_brackets ct_D_parts_in_brackets : Value} (u_D_parts_in_brackets : PySem.W.findIn K (.ref D_) "parts_in_brackets" = some (some (.ref g_D_parts_in_brackets))) (i_D_parts_in_brackets : PySem.W.isFn K (.ref g_D_parts_in_brackets) = true) (l_D_parts_in_brackets : K.lookup g_D_parts_in_brackets = some ⟨oc_D_parts_in_brackets, od_D_parts_in_brackets, .func (PySem.W.fnOf "parts_in_brackets" "Reading.parts_in_brackets" (defArgs s_Reading_parts_in_brackets) (defBody s_Reading_parts_in_brackets) (defScope s_Reading_parts_in_brackets) .none kV_D_parts_in_brackets dc_D_parts_in_brackets pm_D_parts_in_brackets an_D_parts_in_brackets cd_D_parts_in_brackets ct_D_parts_in_brackets), sl_D_parts_in_brackets⟩) (c_D_parts_in_brackets : PySem.W.codeIn K cd_D_parts_in_brackets "Reading.parts_in_brackets" = true) (k_D_parts_in_brackets : PySem.W.keepIn K (.ref g_D_parts_in_brackets) = true)
    {g_D_is_next : Addr} {od_D_is_next an_D_is_next : Option Addr} {sl_D_is_next : Array (Option Value)} {oc_D_is_next kV_D_is_next dc_D_is_next pm_D_is_next cd_D_is_next ct_D_is_next : Value} (u_D_is_next : PySem.W.findIn K (.ref D_) "is_next" = some (some (.ref g_D_is_next))) (i_D_is_next : PySem.W.isFn K (.ref g_D_is_next) = true) (l_D_is_next : K.lookup g_D_is_next = some ⟨oc_D_is_next, od_D_is_next, .func (PySem.W.fnOf "is_next" "Reading.is_next" (defArgs s_Reading_is_next) (defBody s_Reading_is_next) (defScope s_Reading_is_next) .none kV_D_is_next dc_D_is_next pm_D_is_next an_D_is_next cd_D_is_next ct_D_is_next), sl_D_is_next⟩) (c_D_is_next : PySem.W.codeIn K cd_D_is_next "Reading.is_next" = true) (k_D_is_next : PySem.W.keepIn K (.ref g_D_is_next) = true)
    {g_D_take : Addr} {od_D_take an_D_take : Option Addr} {sl_D_take : Array (Option Value)} {oc_D_take kV_D_take dc_D_take pm_D_take cd_D_take ct_D_take : Value} (u_D_take : PySem.W.findIn K (.ref D_) "take" = some (some (.ref g_D_take))) (i_D_take : PySem.W.isFn K (.ref g_D_take) = true) (l_D_take : K.lookup g_D_take = some ⟨oc_D_take, od_D_take, .func (PySem.W.fnOf "take" "Reading.take" (defArgs s_Reading_take) (defBody s_Reading_take) (defScope s_Reading_take) .none kV_D_take dc_D_take pm_D_take an_D_take cd_D_take ct_D_take), sl_D_take⟩) (c_D_take : PySem.W.codeIn K cd_D_take "Reading.take" = true) (k_D_take : PySem.W.keepIn K (.ref g_D_take) = true)
    (n_hasD : PySem.W.findIn K (.ref D_) "has" = some none)
    (ss_ZS : PySem.W.subIn K (.ref C_BadSize) (.ref C_BadShape) = some false) :
    ∃ fd : FuncData, (∀ (s : Shared) (v : Value), BindsTo s fd ⟨[v], []⟩ [("script", v)]) ∧ ∀ base : Heap, K.In base → base.Ns mainGlobals mg → FnOk l.prog w K mg base CX0 175 fa fd ["script"] (spLaw K) := by
  have e := hfa.symm.trans (PySem.W.mg_of X G a73)
  cases e
  have T : Txt mg := ⟨PySem.W.mg_none_of X G z_all, PySem.W.mg_none_of X G z_bool, PySem.W.mg_none_of X G z_int, PySem.W.mg_none_of X G z_isinstance, PySem.W.mg_none_of X G z_len, PySem.W.mg_none_of X G z_list, PySem.W.mg_none_of X G z_max, PySem.W.mg_none_of X G z_range, PySem.W.mg_none_of X G z_set, PySem.W.mg_none_of X G z_str, PySem.W.mg_none_of X G z_sum, PySem.W.mg_none_of X G z_tuple, ⟨_, PySem.W.mg_of X G g_BRACKETS⟩, ⟨_, PySem.W.mg_of X G g_CAPITALS⟩, ⟨_, PySem.W.mg_of X G g_DEEP⟩, ⟨_, PySem.W.mg_of X G g_DIGITS⟩, ⟨_, PySem.W.mg_of X G g_FIGURES⟩, ⟨_, PySem.W.mg_of X G g_LEVELS⟩, ⟨_, PySem.W.mg_of X G g_MARKS⟩, ⟨_, PySem.W.mg_of X G g_MARK_SIGNS⟩, ⟨_, PySem.W.mg_of X G g_PARTS⟩, ⟨_, PySem.W.mg_of X G g_PIECES⟩, ⟨_, PySem.W.mg_of X G g_RANGES⟩, ⟨_, PySem.W.mg_of X G g_SIZE⟩, ⟨_, PySem.W.mg_of X G g_SMALLS⟩, ⟨_, PySem.W.mg_of X G g_TESTS⟩, ⟨_, PySem.W.mg_of X G g_WORD_SIGNS⟩⟩
  have TR : TxR K mg := by
    have V0 : ∀ H, SqT K H p_KEPT (keptL.map V.str) := fun H => .inr ⟨_, _, _, l_KEPT, rfl, rfl, sz (Nat.le_of_ble_eq_true rfl), by repeat (first | exact .nil | refine .cons ⟨_, rfl⟩ ?_)⟩
    refine ⟨⟨_, PySem.W.mg_of X G g_KEPT, V0⟩, ⟨_, [.ref p_OWN_0, .ref p_OWN_1, .ref p_OWN_2, .ref p_OWN_3, .ref p_OWN_4, .ref p_OWN_5, .ref p_OWN_6, .ref p_OWN_7, .ref p_OWN_8, .ref p_OWN_9, .ref p_OWN_10, .ref p_OWN_11, .ref p_OWN_12, .ref p_OWN_13, .ref p_OWN_14, .ref p_OWN_15], PySem.W.mg_of X G g_OWN, fun H => .inr ⟨_, _, _, l_OWN, rfl, rfl, sz (Nat.le_of_ble_eq_true rfl), by repeat (first | exact .nil | refine .cons rfl ?_)⟩, fun H => ?_⟩⟩
    exact .cons (.inr ⟨_, _, _, l_OWN_0, rfl, rfl, sz (Nat.le_of_ble_eq_true rfl), by repeat (first | exact .nil | refine .cons ⟨_, rfl⟩ ?_)⟩) <| .cons (.inr ⟨_, _, _, l_OWN_1, rfl, rfl, sz (Nat.le_of_ble_eq_true rfl), by repeat (first | exact .nil | refine .cons ⟨_, rfl⟩ ?_)⟩) <| .cons (.inr ⟨_, _, _, l_OWN_2, rfl, rfl, sz (Nat.le_of_ble_eq_true rfl), by repeat (first | exact .nil | refine .cons ⟨_, rfl⟩ ?_)⟩) <| .cons (.inr ⟨_, _, _, l_OWN_3, rfl, rfl, sz (Nat.le_of_ble_eq_true rfl), by repeat (first | exact .nil | refine .cons ⟨_, rfl⟩ ?_)⟩) <| .cons (.inr ⟨_, _, _, l_OWN_4, rfl, rfl, sz (Nat.le_of_ble_eq_true rfl), by repeat (first | exact .nil | refine .cons ⟨_, rfl⟩ ?_)⟩) <| .cons (.inr ⟨_, _, _, l_OWN_5, rfl, rfl, sz (Nat.le_of_ble_eq_true rfl), by repeat (first | exact .nil | refine .cons ⟨_, rfl⟩ ?_)⟩) <| .cons (.inr ⟨_, _, _, l_OWN_6, rfl, rfl, sz (Nat.le_of_ble_eq_true rfl), by repeat (first | exact .nil | refine .cons ⟨_, rfl⟩ ?_)⟩) <| .cons (.inr ⟨_, _, _, l_OWN_7, rfl, rfl, sz (Nat.le_of_ble_eq_true rfl), by repeat (first | exact .nil | refine .cons ⟨_, rfl⟩ ?_)⟩) <| .cons (.inr ⟨_, _, _, l_OWN_8, rfl, rfl, sz (Nat.le_of_ble_eq_true rfl), by repeat (first | exact .nil | refine .cons ⟨_, rfl⟩ ?_)⟩) <| .cons (.inr ⟨_, _, _, l_OWN_9, rfl, rfl, sz (Nat.le_of_ble_eq_true rfl), by repeat (first | exact .nil | refine .cons ⟨_, rfl⟩ ?_)⟩) <| .cons (.inr ⟨_, _, _, l_OWN_10, rfl, rfl, sz (Nat.le_of_ble_eq_true rfl), by repeat (first | exact .nil | refine .cons ⟨_, rfl⟩ ?_)⟩) <| .cons (.inr ⟨_, _, _, l_OWN_11, rfl, rfl, sz (Nat.le_of_ble_eq_true rfl), by repeat (first | exact .nil | refine .cons ⟨_, rfl⟩ ?_)⟩) <| .cons (.inr ⟨_, _, _, l_OWN_12, rfl, rfl, sz (Nat.le_of_ble_eq_true rfl), by repeat (first | exact .nil | refine .cons ⟨_, rfl⟩ ?_)⟩) <| .cons (.inr ⟨_, _, _, l_OWN_13, rfl, rfl, sz (Nat.le_of_ble_eq_true rfl), by repeat (first | exact .nil | refine .cons ⟨_, rfl⟩ ?_)⟩) <| .cons (.inr ⟨_, _, _, l_OWN_14, rfl, rfl, sz (Nat.le_of_ble_eq_true rfl), by repeat (first | exact .nil | refine .cons ⟨_, rfl⟩ ?_)⟩) <| .cons (.inr ⟨_, _, _, l_OWN_15, rfl, rfl, sz (Nat.le_of_ble_eq_true rfl), by repeat (first | exact .nil | refine .cons ⟨_, rfl⟩ ?_)⟩) <| .nil
  have TG : TxG K mg := ⟨⟨_, PySem.W.mg_of X G g_TEST_SIGNS, fun H => .inr ⟨_, _, _, l_TEST_SIGNS, rfl, rfl, sz (Nat.le_of_ble_eq_true rfl), by repeat (first | exact .nil | refine .cons ⟨_, rfl⟩ ?_)⟩⟩, ⟨_, PySem.W.mg_of X G g_SUM_SIGNS, fun H => .inr ⟨_, _, _, l_SUM_SIGNS, rfl, rfl, sz (Nat.le_of_ble_eq_true rfl), by repeat (first | exact .nil | refine .cons ⟨_, rfl⟩ ?_)⟩⟩⟩
  have F0 := fun_mk (st := s_is_word) l0 c0 k0
  have b0 := F0.binds (ps := ["part"]) fun _ _ _ _ _ _ us hl => match us, hl with | [_], _ => rfl
  have F1 := fun_mk (st := s_is_unknown) l1 c1 k1
  have b1 := F1.binds (ps := ["part"]) fun _ _ _ _ _ _ us hl => match us, hl with | [_], _ => rfl
  have F2 := fun_mk (st := s_is_kept) l2 c2 k2
  have b2 := F2.binds (ps := ["part"]) fun _ _ _ _ _ _ us hl => match us, hl with | [_], _ => rfl
  have F3 := fun_mk (st := s_own) l3 c3 k3
  have b3 := F3.binds (ps := []) fun _ _ _ _ _ _ us hl => match us, hl with | [], _ => rfl
  have F4 := fun_mk (st := s_run) l4 c4 k4
  have b4 := F4.binds (ps := ["line", "at", "signs"]) fun _ _ _ _ _ _ us hl => match us, hl with | [_, _, _], _ => rfl
  have F5 := fun_mk (st := s_end_of_piece) l5 c5 k5
  have b5 := F5.binds (ps := ["line", "at"]) fun _ _ _ _ _ _ us hl => match us, hl with | [_, _], _ => rfl
  have F6 := fun_mk (st := s_is_piece) l6 c6 k6
  have b6 := F6.binds (ps := ["text"]) fun _ _ _ _ _ _ us hl => match us, hl with | [_], _ => rfl
  have F7 := fun_mk (st := s_most_open) l7 c7 k7
  have b7 := F7.binds (ps := ["pieces"]) fun _ _ _ _ _ _ us hl => match us, hl with | [_], _ => rfl
  have F8 : FunD K "pieces_of" "pieces_of" (defArgs s_pieces_of) (defBody s_pieces_of) (defScope s_pieces_of) [] [("most", .int 200)] f8 _ := ⟨⟨_, _, _, _, _, _, _, _, _, _, rfl, l8, c8, .inl ⟨rfl, rfl⟩, .inr ⟨D8, rfl, fun q hq => by
    rw [List.mem_singleton.mp hq]
    exact ⟨uk8, q8, r8⟩⟩⟩, k8⟩
  have b8 := F8.binds0 (ps := ["line", "most"]) 1 (by simp) rfl fun D doc pm an cdv ct us ks h1 h2 => by
    match us, ks, h1, h2 with
    | [_], [_], _, _ => exact ⟨_, _, _, _, _, _, rfl, rfl, rfl⟩
  have B8 := FunD_kbindsN (ps := ["line", "most"]) F8 1 ["most"] fun kV doc pm an cdv ct us ws h1 h2 => by
    match us, ws, h1, h2 with
    | [_], [_], _, _ => rfl
  have F9 := fun_mk (st := s_read_pieces) l9 c9 k9
  have b9 := F9.binds (ps := ["pieces", "table"]) fun _ _ _ _ _ _ us hl => match us, hl with | [_, _], _ => rfl
  have F10 := fun_mk (st := s_size_of) l10 c10 k10
  have b10 := F10.binds (ps := ["pattern"]) fun _ _ _ _ _ _ us hl => match us, hl with | [_], _ => rfl
  have F11 := fun_mk (st := s_depth_of) l11 c11 k11
  have b11 := F11.binds (ps := ["pattern"]) fun _ _ _ _ _ _ us hl => match us, hl with | [_], _ => rfl
  have F12 := fun_mk (st := s_is_great) l12 c12 k12
  have b12 := F12.binds (ps := ["pattern"]) fun _ _ _ _ _ _ us hl => match us, hl with | [_], _ => rfl
  have F13 := fun_mk (st := s_is_pattern) l13 c13 k13
  have b13 := F13.binds (ps := ["reading"]) fun _ _ _ _ _ _ us hl => match us, hl with | [_], _ => rfl
  have F14 := fun_mk (st := s_unknowns_of) l14 c14 k14
  have b14 := F14.binds (ps := ["pattern"]) fun _ _ _ _ _ _ us hl => match us, hl with | [_], _ => rfl
  have F15 := fun_mk (st := s_is_named) l15 c15 k15
  have b15 := F15.binds (ps := ["reading", "names", "many"]) fun _ _ _ _ _ _ us hl => match us, hl with | [_, _, _], _ => rfl
  have F16 := fun_mk (st := s_is_sum) l16 c16 k16
  have b16 := F16.binds (ps := ["reading"]) fun _ _ _ _ _ _ us hl => match us, hl with | [_], _ => rfl
  have F17 := fun_mk (st := s_parted_by_and) l17 c17 k17
  have b17 := F17.binds (ps := ["reading"]) fun _ _ _ _ _ _ us hl => match us, hl with | [_], _ => rfl
  have F18 := fun_mk (st := s_is_relation) l18 c18 k18
  have b18 := F18.binds (ps := ["reading"]) fun _ _ _ _ _ _ us hl => match us, hl with | [_], _ => rfl
  have F19 := fun_mk (st := s_is_not) l19 c19 k19
  have b19 := F19.binds (ps := ["reading"]) fun _ _ _ _ _ _ us hl => match us, hl with | [_], _ => rfl
  have F20 := fun_mk (st := s_is_likeness) l20 c20 k20
  have b20 := F20.binds (ps := ["reading"]) fun _ _ _ _ _ _ us hl => match us, hl with | [_], _ => rfl
  have F21 := fun_mk (st := s_is_reckoning) l21 c21 k21
  have b21 := F21.binds (ps := ["reading"]) fun _ _ _ _ _ _ us hl => match us, hl with | [_], _ => rfl
  have F22 := fun_mk (st := s_is_test) l22 c22 k22
  have b22 := F22.binds (ps := ["reading"]) fun _ _ _ _ _ _ us hl => match us, hl with | [_], _ => rfl
  have F23 := fun_mk (st := s_is_range) l23 c23 k23
  have b23 := F23.binds (ps := ["reading"]) fun _ _ _ _ _ _ us hl => match us, hl with | [_], _ => rfl
  have F24 := fun_mk (st := s_are_tests) l24 c24 k24
  have b24 := F24.binds (ps := ["reading"]) fun _ _ _ _ _ _ us hl => match us, hl with | [_], _ => rfl
  have F25 := fun_mk (st := s_is_box) l25 c25 k25
  have b25 := F25.binds (ps := ["reading"]) fun _ _ _ _ _ _ us hl => match us, hl with | [_], _ => rfl
  have F26 := fun_mk (st := s_is_field) l26 c26 k26
  have b26 := F26.binds (ps := ["reading"]) fun _ _ _ _ _ _ us hl => match us, hl with | [_], _ => rfl
  have F27 := fun_mk (st := s_is_goal) l27 c27 k27
  have b27 := F27.binds (ps := ["reading"]) fun _ _ _ _ _ _ us hl => match us, hl with | [_], _ => rfl
  have F28 := fun_mk (st := s_table_of) l28 c28 k28
  have b28 := F28.binds (ps := ["operators"]) fun _ _ _ _ _ _ us hl => match us, hl with | [_], _ => rfl
  have F29 := fun_mk (st := s_measure) l29 c29 k29
  have b29 := F29.binds (ps := ["reading"]) fun _ _ _ _ _ _ us hl => match us, hl with | [_], _ => rfl
  have F30 := fun_mk (st := s_goal_of) l30 c30 k30
  have b30 := F30.binds (ps := ["pieces", "table"]) fun _ _ _ _ _ _ us hl => match us, hl with | [_, _], _ => rfl
  have F31 : FunD K "read_goal" "read_goal" (defArgs s_read_goal) (defBody s_read_goal) (defScope s_read_goal) [] [("most", .int 200)] f31 _ := ⟨⟨_, _, _, _, _, _, _, _, _, _, rfl, l31, c31, .inl ⟨rfl, rfl⟩, .inr ⟨D31, rfl, fun q hq => by
    rw [List.mem_singleton.mp hq]
    exact ⟨uk31, q31, r31⟩⟩⟩, k31⟩
  have b31 := F31.binds0 (ps := ["line", "operators", "most"]) 2 (by simp) rfl fun D doc pm an cdv ct us ks h1 h2 => by
    match us, ks, h1, h2 with
    | [_, _], [_], _, _ => exact ⟨_, _, _, _, _, _, rfl, rfl, rfl⟩
  have B31 := FunD_kbindsN (ps := ["line", "operators", "most"]) F31 2 ["most"] fun kV doc pm an cdv ct us ws h1 h2 => by
    match us, ws, h1, h2 with
    | [_, _], [_], _, _ => rfl
  have F32 := fun_mk (st := s_law_pool) l32 c32 k32
  have b32 := F32.binds (ps := ["script", "k"]) fun _ _ _ _ _ _ us hl => match us, hl with | [_, _], _ => rfl
  have F33 := fun_mk (st := s_law_mixed) l33 c33 k33
  have b33 := F33.binds (ps := ["pool", "turn"]) fun _ _ _ _ _ _ us hl => match us, hl with | [_, _], _ => rfl
  have F34 := fun_mk (st := s_law_take) l34 c34 k34
  have b34 := F34.binds (ps := ["pool", "many"]) fun _ _ _ _ _ _ us hl => match us, hl with | [_, _], _ => rfl
  have F35 := fun_mk (st := s_law_number) l35 c35 k35
  have b35 := F35.binds (ps := ["pool"]) fun _ _ _ _ _ _ us hl => match us, hl with | [_], _ => rfl
  have F36 := fun_mk (st := s_law_figure) l36 c36 k36
  have b36 := F36.binds (ps := ["thing"]) fun _ _ _ _ _ _ us hl => match us, hl with | [_], _ => rfl
  have F37 := fun_mk (st := s_law_name) l37 c37 k37
  have b37 := F37.binds (ps := ["pool", "way"]) fun _ _ _ _ _ _ us hl => match us, hl with | [_, _], _ => rfl
  have F38 := fun_mk (st := s_law_kept) l38 c38 k38
  have b38 := F38.binds (ps := []) fun _ _ _ _ _ _ us hl => match us, hl with | [], _ => rfl
  have F39 := fun_mk (st := s_law_own) l39 c39 k39
  have b39 := F39.binds (ps := []) fun _ _ _ _ _ _ us hl => match us, hl with | [], _ => rfl
  have F40 := fun_mk (st := s_law_row) l40 c40 k40
  have b40 := F40.binds (ps := ["name", "many", "ops"]) fun _ _ _ _ _ _ us hl => match us, hl with | [_, _, _], _ => rfl
  have F41 := fun_mk (st := s_law_ops) l41 c41 k41
  have b41 := F41.binds (ps := ["pool"]) fun _ _ _ _ _ _ us hl => match us, hl with | [_], _ => rfl
  have F42 := fun_mk (st := s_law_free) l42 c42 k42
  have b42 := F42.binds (ps := ["word", "ops"]) fun _ _ _ _ _ _ us hl => match us, hl with | [_, _], _ => rfl
  have F43 := fun_mk (st := s_law_weight) l43 c43 k43
  have b43 := F43.binds (ps := ["thing"]) fun _ _ _ _ _ _ us hl => match us, hl with | [_], _ => rfl
  have F44 := fun_mk (st := s_law_leaf) l44 c44 k44
  have b44 := F44.binds (ps := ["pool", "ops"]) fun _ _ _ _ _ _ us hl => match us, hl with | [_, _], _ => rfl
  have F45 := fun_mk (st := s_law_pattern) l45 c45 k45
  have b45 := F45.binds (ps := ["pool", "ops", "top", "deep"]) fun _ _ _ _ _ _ us hl => match us, hl with | [_, _, _, _], _ => rfl
  have F46 := fun_mk (st := s_law_spelt) l46 c46 k46
  have b46 := F46.binds (ps := ["thing", "top", "ops", "pool", "held"]) fun _ _ _ _ _ _ us hl => match us, hl with | [_, _, _, _, _], _ => rfl
  have F47 := fun_mk (st := s_law_kind) l47 c47 k47
  have b47 := F47.binds (ps := ["bit"]) fun _ _ _ _ _ _ us hl => match us, hl with | [_], _ => rfl
  have F48 := fun_mk (st := s_law_stuck) l48 c48 k48
  have b48 := F48.binds (ps := ["left", "right"]) fun _ _ _ _ _ _ us hl => match us, hl with | [_, _], _ => rfl
  have F49 := fun_mk (st := s_law_line) l49 c49 k49
  have b49 := F49.binds (ps := ["bits", "pool"]) fun _ _ _ _ _ _ us hl => match us, hl with | [_, _], _ => rfl
  have F50 := fun_mk (st := s_law_alike) l50 c50 k50
  have b50 := F50.binds (ps := ["found", "due"]) fun _ _ _ _ _ _ us hl => match us, hl with | [_, _], _ => rfl
  have F51 := fun_mk (st := s_law_capital) l51 c51 k51
  have b51 := F51.binds (ps := ["thing"]) fun _ _ _ _ _ _ us hl => match us, hl with | [_], _ => rfl
  have F52 := fun_mk (st := s_law_names) l52 c52 k52
  have b52 := F52.binds (ps := ["thing"]) fun _ _ _ _ _ _ us hl => match us, hl with | [_], _ => rfl
  have F53 := fun_mk (st := s_law_sum) l53 c53 k53
  have b53 := F53.binds (ps := ["pool"]) fun _ _ _ _ _ _ us hl => match us, hl with | [_], _ => rfl
  have F54 := fun_mk (st := s_law_test) l54 c54 k54
  have b54 := F54.binds (ps := ["pool"]) fun _ _ _ _ _ _ us hl => match us, hl with | [_], _ => rfl
  have F55 := fun_mk (st := s_law_together) l55 c55 k55
  have b55 := F55.binds (ps := ["things"]) fun _ _ _ _ _ _ us hl => match us, hl with | [_], _ => rfl
  have F56 := fun_mk (st := s_law_box) l56 c56 k56
  have b56 := F56.binds (ps := ["pool", "many"]) fun _ _ _ _ _ _ us hl => match us, hl with | [_, _], _ => rfl
  have F57 := fun_mk (st := s_law_asked) l57 c57 k57
  have b57 := F57.binds (ps := ["pool", "ops", "top"]) fun _ _ _ _ _ _ us hl => match us, hl with | [_, _, _], _ => rfl
  have F58 := fun_mk (st := s_law_goal) l58 c58 k58
  have b58 := F58.binds (ps := ["pool", "ops", "top"]) fun _ _ _ _ _ _ us hl => match us, hl with | [_, _, _], _ => rfl
  have F59 := fun_mk (st := s_law_keptless) l59 c59 k59
  have b59 := F59.binds (ps := ["thing"]) fun _ _ _ _ _ _ us hl => match us, hl with | [_], _ => rfl
  have F60 := fun_mk (st := s_law_pair_ok) l60 c60 k60
  have b60 := F60.binds (ps := ["thing", "signs"]) fun _ _ _ _ _ _ us hl => match us, hl with | [_, _], _ => rfl
  have F61 := fun_mk (st := s_law_sum_ok) l61 c61 k61
  have b61 := F61.binds (ps := ["thing"]) fun _ _ _ _ _ _ us hl => match us, hl with | [_], _ => rfl
  have F62 := fun_mk (st := s_law_asked_ok) l62 c62 k62
  have b62 := F62.binds (ps := ["thing"]) fun _ _ _ _ _ _ us hl => match us, hl with | [_], _ => rfl
  have F63 := fun_mk (st := s_law_parted) l63 c63 k63
  have b63 := F63.binds (ps := ["thing"]) fun _ _ _ _ _ _ us hl => match us, hl with | [_], _ => rfl
  have F64 := fun_mk (st := s_law_range_ok) l64 c64 k64
  have b64 := F64.binds (ps := ["thing"]) fun _ _ _ _ _ _ us hl => match us, hl with | [_], _ => rfl
  have F65 := fun_mk (st := s_law_box_ok) l65 c65 k65
  have b65 := F65.binds (ps := ["thing"]) fun _ _ _ _ _ _ us hl => match us, hl with | [_], _ => rfl
  have F66 := fun_mk (st := s_law_goal_ok) l66 c66 k66
  have b66 := F66.binds (ps := ["thing"]) fun _ _ _ _ _ _ us hl => match us, hl with | [_], _ => rfl
  have F67 := fun_mk (st := s_law_held) l67 c67 k67
  have b67 := F67.binds (ps := ["bits"]) fun _ _ _ _ _ _ us hl => match us, hl with | [_], _ => rfl
  have F68 := fun_mk (st := s_law_wide) l68 c68 k68
  have b68 := F68.binds (ps := ["pool", "ops"]) fun _ _ _ _ _ _ us hl => match us, hl with | [_, _], _ => rfl
  have F69 := fun_mk (st := s_law_other) l69 c69 k69
  have b69 := F69.binds (ps := ["pool", "ops", "thing"]) fun _ _ _ _ _ _ us hl => match us, hl with | [_, _, _], _ => rfl
  have F70 := fun_mk (st := s_law_changed) l70 c70 k70
  have b70 := F70.binds (ps := ["pool", "thing", "other"]) fun _ _ _ _ _ _ us hl => match us, hl with | [_, _, _], _ => rfl
  have F71 := fun_mk (st := s_law_headed) l71 c71 k71
  have b71 := F71.binds (ps := ["pool"]) fun _ _ _ _ _ _ us hl => match us, hl with | [_], _ => rfl
  have F72 := fun_mk (st := s_law_told) l72 c72 k72
  have b72 := F72.binds (ps := ["line", "ops"]) fun _ _ _ _ _ _ us hl => match us, hl with | [_, _], _ => rfl
  have F73 := fun_mk (st := s_law) l73 c73 k73
  refine ⟨PySem.W.fnOf "law" "law" (defArgs s_law) (defBody s_law) (defScope s_law) .none kV73 dc73 pm73 an73 cd73 ct73, fun s v => .of_eq rfl, fun base _ _ => ?_⟩
  have TB : BaseC K mg B_GoalError := ⟨PySem.W.mg_of X G m_GoalError, sp_GoalError, rd_GoalError, fc_GoalError⟩
  have OE_BadShape : OexC K C_BadShape := ⟨⟨nm_BadShape, q_BadShape, N_BadShape, bs_BadShape, _, sn_BadShape, sub_BadShape, ab_BadShape, col_BadShape, dd_BadShape, k0_BadShape, k1_BadShape, k2_BadShape, k3_BadShape, k5_BadShape, x_BadShape, rfl⟩, sa_BadShape, ex_BadShape, ty_BadShape, kc_BadShape⟩
  have FI_BadShape := fun_mk (st := s_BadShape) l_BadShape c_BadShape k_BadShape
  have bi_BadShape := FI_BadShape.binds (ps := ["self", "line"]) fun _ _ _ _ _ _ us hl => match us, hl with | [_, _], _ => rfl
  have E_BadShape : HasErr l.prog w K mg base "BadShape" "line" C_BadShape := ⟨OE_BadShape, PySem.W.mg_of X G m_BadShape, ⟨ga_BadShape, gg_BadShape, ex_BadShape, hd_BadShape⟩, nf_BadShape, exm_own ex_BadShape ic_BadShape ty_BadShape ss_BadShape, I_BadShape, _, i_BadShape, ti_BadShape, ok_init_BadShape FI_BadShape TB OE_BadShape nf_BadShape, bi_BadShape⟩
  have OE_BadSize : OexC K C_BadSize := ⟨⟨nm_BadSize, q_BadSize, N_BadSize, bs_BadSize, _, sn_BadSize, sub_BadSize, ab_BadSize, col_BadSize, dd_BadSize, k0_BadSize, k1_BadSize, k2_BadSize, k3_BadSize, k5_BadSize, x_BadSize, rfl⟩, sa_BadSize, ex_BadSize, ty_BadSize, kc_BadSize⟩
  have FI_BadSize := fun_mk (st := s_BadSize) l_BadSize c_BadSize k_BadSize
  have bi_BadSize := FI_BadSize.binds (ps := ["self", "line"]) fun _ _ _ _ _ _ us hl => match us, hl with | [_, _], _ => rfl
  have E_BadSize : HasErr l.prog w K mg base "BadSize" "line" C_BadSize := ⟨OE_BadSize, PySem.W.mg_of X G m_BadSize, ⟨ga_BadSize, gg_BadSize, ex_BadSize, hd_BadSize⟩, nf_BadSize, exm_own ex_BadSize ic_BadSize ty_BadSize ss_BadSize, I_BadSize, _, i_BadSize, ti_BadSize, ok_init_BadSize FI_BadSize TB OE_BadSize nf_BadSize, bi_BadSize⟩
  have TC : TabC K C_ := ⟨⟨t_pgC_, t_hdC_, t_poC_, t_saC_⟩, t_n_betweenC_, t_n_aheadC_⟩
  have RC : ReC K D_ := ⟨⟨t_pgD_, t_hdD_, t_poD_, t_saD_⟩, t_n_piecesD_, t_n_tableD_, t_n_atD_⟩
  have FM_C_init := fun_mk (st := s_OperatorTable_init) l_C_init c_C_init k_C_init
  have BM_C_init := FM_C_init.binds (ps := ["self", "operators"]) fun _ _ _ _ _ _ us hl => match us, hl with | [_, _], _ => rfl
  have FM_C_has := fun_mk (st := s_OperatorTable_has) l_C_has c_C_has k_C_has
  have BM_C_has := FM_C_has.binds (ps := ["self", "name"]) fun _ _ _ _ _ _ us hl => match us, hl with | [_, _], _ => rfl
  have FM_C_left_bound := fun_mk (st := s_OperatorTable_left_bound) l_C_left_bound c_C_left_bound k_C_left_bound
  have BM_C_left_bound := FM_C_left_bound.binds (ps := ["self", "name"]) fun _ _ _ _ _ _ us hl => match us, hl with | [_, _], _ => rfl
  have FM_C_right_bound := fun_mk (st := s_OperatorTable_right_bound) l_C_right_bound c_C_right_bound k_C_right_bound
  have BM_C_right_bound := FM_C_right_bound.binds (ps := ["self", "name"]) fun _ _ _ _ _ _ us hl => match us, hl with | [_, _], _ => rfl
  have FM_C_ahead_bound := fun_mk (st := s_OperatorTable_ahead_bound) l_C_ahead_bound c_C_ahead_bound k_C_ahead_bound
  have BM_C_ahead_bound := FM_C_ahead_bound.binds (ps := ["self", "name"]) fun _ _ _ _ _ _ us hl => match us, hl with | [_, _], _ => rfl
  have FM_D_init := fun_mk (st := s_Reading_init) l_D_init c_D_init k_D_init
  have BM_D_init := FM_D_init.binds (ps := ["self", "pieces", "table"]) fun _ _ _ _ _ _ us hl => match us, hl with | [_, _, _], _ => rfl
  have FM_D_whole := fun_mk (st := s_Reading_whole) l_D_whole c_D_whole k_D_whole
  have BM_D_whole := FM_D_whole.binds (ps := ["self"]) fun _ _ _ _ _ _ us hl => match us, hl with | [_], _ => rfl
  have FM_D_part := fun_mk (st := s_Reading_part) l_D_part c_D_part k_D_part
  have BM_D_part := FM_D_part.binds (ps := ["self", "most"]) fun _ _ _ _ _ _ us hl => match us, hl with | [_, _], _ => rfl
  have FM_D_goes_on := fun_mk (st := s_Reading_goes_on) l_D_goes_on c_D_goes_on k_D_goes_on
  have BM_D_goes_on := FM_D_goes_on.binds (ps := ["self", "level", "most"]) fun _ _ _ _ _ _ us hl => match us, hl with | [_, _, _], _ => rfl
  have FM_D_first_part := fun_mk (st := s_Reading_first_part) l_D_first_part c_D_first_part k_D_first_part
  have BM_D_first_part := FM_D_first_part.binds (ps := ["self", "most"]) fun _ _ _ _ _ _ us hl => match us, hl with | [_, _], _ => rfl
  have FM_D_plain_part := fun_mk (st := s_Reading_plain_part) l_D_plain_part c_D_plain_part k_D_plain_part
  have BM_D_plain_part := FM_D_plain_part.binds (ps := ["self", "piece"]) fun _ _ _ _ _ _ us hl => match us, hl with | [_, _], _ => rfl
  have FM_D_parts_in_brackets := fun_mk (st := s_Reading_parts_in_brackets) l_D_parts_in_brackets c_D_parts_in_brackets k_D_parts_in_brackets
  have BM_D_parts_in_brackets := FM_D_parts_in_brackets.binds (ps := ["self"]) fun _ _ _ _ _ _ us hl => match us, hl with | [_], _ => rfl
  have FM_D_is_next := fun_mk (st := s_Reading_is_next) l_D_is_next c_D_is_next k_D_is_next
  have BM_D_is_next := FM_D_is_next.binds (ps := ["self", "pieces"]) fun _ _ _ _ _ _ us hl => match us, hl with | [_, _], _ => rfl
  have FM_D_take := fun_mk (st := s_Reading_take) l_D_take c_D_take k_D_take
  have BM_D_take := FM_D_take.binds (ps := ["self"]) fun _ _ _ _ _ _ us hl => match us, hl with | [_], _ => rfl
  have M_OperatorTable_left_bound : HasLB C_ l.prog w K mg base := ⟨g_C_left_bound, _, _, [], TC.cl, ⟨u_C_left_bound, i_C_left_bound, k_C_left_bound⟩, ok_left_bound FM_C_left_bound T TC, BM_C_left_bound, .nil⟩
  have M_OperatorTable_right_bound : HasRB C_ l.prog w K mg base := ⟨g_C_right_bound, _, _, [], TC.cl, ⟨u_C_right_bound, i_C_right_bound, k_C_right_bound⟩, ok_right_bound FM_C_right_bound T TC, BM_C_right_bound, .nil⟩
  have M_OperatorTable_ahead_bound : HasAB C_ l.prog w K mg base := ⟨g_C_ahead_bound, _, _, [], TC.cl, ⟨u_C_ahead_bound, i_C_ahead_bound, k_C_ahead_bound⟩, ok_ahead_bound FM_C_ahead_bound T TC, BM_C_ahead_bound, .nil⟩
  have M_OperatorTable_has : HasHas C_ l.prog w K mg base := ⟨g_C_has, _, _, [], TC.cl, ⟨u_C_has, i_C_has, k_C_has⟩, ok_has FM_C_has TC, BM_C_has, .nil⟩
  have MK_OperatorTable : HasTab C_ l.prog w K mg base := ⟨g_C_init, _, _, [], ⟨t_mkC_, u_C_init, i_C_init, t_kcC_⟩, ok_tab_init FM_C_init T TC, PySem.W.mg_of X G m_C_, BM_C_init, .nil⟩
  have hCD : C_ ≠ D_ := fun e => by
    have h1 := u_C_has
    rw [e, n_hasD] at h1
    cases h1
  have M_Reading_take : HasTakeE D_ C_ C_BadShape l.prog w K mg base := ⟨g_D_take, _, _, RC.cl, ⟨u_D_take, i_D_take, k_D_take⟩, ok_takeE FM_D_take T RC hCD E_BadShape, BM_D_take⟩
  have M_Reading_is_next : HasNextR D_ C_ l.prog w K mg base := ⟨g_D_is_next, _, _, [], RC.cl, ⟨u_D_is_next, i_D_is_next, k_D_is_next⟩, ok_is_next FM_D_is_next T RC, BM_D_is_next, .nil⟩
  have M_Reading_goes_on : HasGoes D_ C_ l.prog w K mg base := ⟨g_D_goes_on, _, _, [], RC.cl, ⟨u_D_goes_on, i_D_goes_on, k_D_goes_on⟩, ok_goes_on FM_D_goes_on T RC TC M_Reading_is_next M_OperatorTable_left_bound, BM_D_goes_on, .nil⟩
  have MK_Reading : HasRdInit D_ C_ l.prog w K mg base := ⟨g_D_init, _, _, [], ⟨t_mkD_, u_D_init, i_D_init, t_kcD_⟩, ok_rd_init FM_D_init RC hCD, PySem.W.mg_of X G m_D_, BM_D_init, .nil⟩
  have hZS : PySem.W.exmOne K (.ref C_BadSize) (.ref C_BadShape) = some false := exm_off ex_BadShape ic_BadShape ty_BadShape ss_ZS
  have C_is_word : HasIsWord l.prog w K mg base := ⟨f0, _, ok_is_word F0 T, b0, k0, PySem.W.mg_of X G a0⟩
  have C_is_unknown : HasUnknown l.prog w K mg base := ⟨f1, _, ok_is_unknown F1 T, b1, k1, PySem.W.mg_of X G a1⟩
  have C_is_kept : HasIsKept l.prog w K mg base := ⟨f2, _, ok_is_kept F2 TR, b2, k2, PySem.W.mg_of X G a2⟩
  have C_own : HasOwn l.prog w K mg base := ⟨f3, _, ok_own F3 T TR, b3, k3, PySem.W.mg_of X G a3⟩
  have C_run : HasRun l.prog w K mg base := ⟨f4, _, ok_run F4 T, b4, k4, PySem.W.mg_of X G a4⟩
  have C_end_of_piece : HasEnd l.prog w K mg base := ⟨f5, _, ok_end F5 T C_run, b5, k5, PySem.W.mg_of X G a5⟩
  have C_is_piece : HasIsPiece l.prog w K mg base := ⟨f6, _, ok_is_piece F6 T, b6, k6, PySem.W.mg_of X G a6⟩
  have C_most_open : HasMostOpen l.prog w K mg base := ⟨f7, _, ok_most_open F7 T, b7, k7, PySem.W.mg_of X G a7⟩
  have C_pieces_of : HasPiecesE C_BadSize l.prog w K mg base := ⟨f8, _, ok_pieces_ofE F8 T C_run C_end_of_piece C_is_piece C_most_open E_BadSize, b8, B8, k8, PySem.W.mg_of X G a8⟩
  have C_read_pieces : HasReadPE C_ C_BadShape 40 l.prog w K mg base := ⟨f9, _, ok_read_piecesE F9 (⟨g_D_whole, _, _, RC.cl, ⟨u_D_whole, i_D_whole, k_D_whole⟩, ok_wholeE FM_D_whole T RC E_BadShape (parts_allE T RC TC E_BadShape M_Reading_take M_Reading_is_next M_Reading_goes_on M_OperatorTable_right_bound M_OperatorTable_ahead_bound M_OperatorTable_has C_is_unknown C_is_word C_is_kept FM_D_part ⟨u_D_part, i_D_part, k_D_part⟩ BM_D_part FM_D_first_part ⟨u_D_first_part, i_D_first_part, k_D_first_part⟩ BM_D_first_part FM_D_plain_part ⟨u_D_plain_part, i_D_plain_part, k_D_plain_part⟩ BM_D_plain_part FM_D_parts_in_brackets ⟨u_D_parts_in_brackets, i_D_parts_in_brackets, k_D_parts_in_brackets⟩ BM_D_parts_in_brackets 40), BM_D_whole⟩ : HasWholeE D_ C_ C_BadShape 40 l.prog w K mg base) MK_Reading, b9, k9, PySem.W.mg_of X G a9⟩
  have C_size_of : HasSize l.prog w K mg base := ⟨f10, _, ok_size_of F10 T, b10, k10, PySem.W.mg_of X G a10⟩
  have C_depth_of : HasDepthOf l.prog w K mg base := ⟨f11, _, ok_depth_of F11 T, b11, k11, PySem.W.mg_of X G a11⟩
  have C_is_great : HasGreat l.prog w K mg base := ⟨f12, _, ok_is_great F12 T C_size_of C_depth_of, b12, k12, PySem.W.mg_of X G a12⟩
  have C_is_pattern : HasIsPat l.prog w K mg base := ⟨f13, _, ok_is_pattern F13 T C_is_kept, b13, k13, PySem.W.mg_of X G a13⟩
  have C_unknowns_of : (fun P w K mg base => Has P w K mg base 2 "unknowns_of" ["pattern"] (spUnknowns K)) l.prog w K mg base := ⟨f14, _, ok_unknowns_of F14 T C_is_unknown, b14, k14, PySem.W.mg_of X G a14⟩
  have C_is_named : HasNamedG l.prog w K mg base := ⟨f15, _, ok_is_namedG F15 T, b15, k15, PySem.W.mg_of X G a15⟩
  have C_is_sum : HasSumG 20 l.prog w K mg base := ⟨f16, _, ok_is_sumG F16 T TG C_is_named C_is_unknown b16 k16 (PySem.W.mg_of X G a16) 20, b16, k16, PySem.W.mg_of X G a16⟩
  have C_parted_by_and : HasPartsA l.prog w K mg base := ⟨f17, _, ok_partsA F17 T C_is_named, b17, k17, PySem.W.mg_of X G a17⟩
  have C_is_relation : HasLook 3 "is_relation" 20 relP l.prog w K mg base := ⟨f18, _, ok_is_relationG F18 T C_is_pattern (show HasWordG 20 l.prog w K mg base from ⟨f0, _, ok_is_wordG F0 T, b0, k0, PySem.W.mg_of X G a0⟩), b18, k18, PySem.W.mg_of X G a18⟩
  have C_is_not : HasLook 4 "is_not" 20 notP l.prog w K mg base := ⟨f19, _, ok_is_notG F19 T C_is_named C_is_relation, b19, k19, PySem.W.mg_of X G a19⟩
  have C_is_likeness : HasLook 3 "is_likeness" 20 likeP l.prog w K mg base := ⟨f20, _, ok_is_likeG F20 T C_is_named C_is_pattern, b20, k20, PySem.W.mg_of X G a20⟩
  have C_is_reckoning : HasLook 23 "is_reckoning" 20 reckP l.prog w K mg base := ⟨f21, _, ok_is_reckG F21 T C_is_named C_is_pattern C_is_sum, b21, k21, PySem.W.mg_of X G a21⟩
  have C_is_test : HasLook 23 "is_test" 20 testP l.prog w K mg base := ⟨f22, _, ok_is_testG F22 T TG C_is_named C_is_sum, b22, k22, PySem.W.mg_of X G a22⟩
  have C_is_range : HasLook 23 "_is_range" 20 rangeP l.prog w K mg base := ⟨f23, _, ok_is_rangeG F23 T C_is_named C_is_unknown C_is_sum, b23, k23, PySem.W.mg_of X G a23⟩
  have C_are_tests : HasLook 24 "_are_tests" 20 testsP l.prog w K mg base := ⟨f24, _, ok_are_testsG F24 T C_parted_by_and C_is_test, b24, k24, PySem.W.mg_of X G a24⟩
  have C_is_box : HasLook 24 "_is_box" 20 boxP l.prog w K mg base := ⟨f25, _, ok_is_boxG F25 T C_parted_by_and C_is_range C_unknowns_of, b25, k25, PySem.W.mg_of X G a25⟩
  have C_is_field : HasLook 25 "is_field" 20 fieldQ l.prog w K mg base := ⟨f26, _, ok_is_fieldG F26 T C_is_named C_is_box C_are_tests, b26, k26, PySem.W.mg_of X G a26⟩
  have C_is_goal : HasLook 26 "is_goal" 20 goalP l.prog w K mg base := ⟨f27, _, ok_is_goalG F27 T C_is_relation C_is_not C_is_likeness C_is_reckoning C_is_test C_is_field, b27, k27, PySem.W.mg_of X G a27⟩
  have C_table_of : HasTable C_ l.prog w K mg base := ⟨f28, _, ok_table_of F28 T C_own MK_OperatorTable, b28, k28, PySem.W.mg_of X G a28⟩
  have C_measure : HasMeasE C_BadSize l.prog w K mg base := ⟨f29, _, ok_measE F29 C_is_great E_BadSize, b29, k29, PySem.W.mg_of X G a29⟩
  have C_goal_of : HasGoalOfE C_ C_BadShape 40 20 l.prog w K mg base := ⟨f30, _, ok_goal_ofE F30 T E_BadShape C_read_pieces C_is_goal, b30, k30, PySem.W.mg_of X G a30⟩
  have C_read_goal : HasReadGS C_BadShape C_BadSize 40 20 l.prog w K mg base := ⟨f31, _, ok_read_goalS F31 T C_pieces_of C_goal_of C_table_of C_measure, b31, B31, k31, PySem.W.mg_of X G a31⟩
  have C_law_pool : HasPool l.prog w K mg base := ⟨f32, _, ok_law_pool F32 T, b32, k32, PySem.W.mg_of X G a32⟩
  have C_law_mixed : HasMixed l.prog w K mg base := ⟨f33, _, ok_law_mixed F33 , b33, k33, PySem.W.mg_of X G a33⟩
  have C_law_take : HasTake l.prog w K mg base := ⟨f34, _, ok_law_take F34 T C_law_mixed, b34, k34, PySem.W.mg_of X G a34⟩
  have C_law_number : HasNum12 l.prog w K mg base := ⟨f35, _, ok_law_number F35 T C_law_take, b35, k35, PySem.W.mg_of X G a35⟩
  have C_law_figure : HasFig l.prog w K mg base := ⟨f36, _, ok_law_figure20 F36 T, b36, k36, PySem.W.mg_of X G a36⟩
  have C_law_name : HasName l.prog w K mg base := ⟨f37, _, ok_law_name F37 T C_law_take, b37, k37, PySem.W.mg_of X G a37⟩
  have C_law_kept : HasKept l.prog w K mg base := ⟨f38, _, ok_law_kept F38 , b38, k38, PySem.W.mg_of X G a38⟩
  have C_law_own : HasLOwn l.prog w K mg base := ⟨f39, _, ok_law_own F39 , b39, k39, PySem.W.mg_of X G a39⟩
  have C_law_row : HasRow l.prog w K mg base := ⟨f40, _, ok_law_row F40 T C_law_own, b40, k40, PySem.W.mg_of X G a40⟩
  have C_law_ops : HasOps l.prog w K mg base := ⟨f41, _, ok_law_ops F41 T C_law_take C_law_name C_law_kept C_law_own C_law_row, b41, k41, PySem.W.mg_of X G a41⟩
  have C_law_free : HasFree l.prog w K mg base := ⟨f42, _, ok_law_free F42 T C_law_kept, b42, k42, PySem.W.mg_of X G a42⟩
  have C_law_weight : HasWt 13 l.prog w K mg base := ⟨f43, _, ok_law_weight F43 T b43 k43 (PySem.W.mg_of X G a43) 13, b43, k43, PySem.W.mg_of X G a43⟩
  have C_law_leaf : HasLeaf12 l.prog w K mg base := ⟨f44, _, ok_law_leaf F44 T C_law_take C_law_number C_law_name C_law_free, b44, k44, PySem.W.mg_of X G a44⟩
  have C_law_pattern : HasPattern l.prog w K mg base := ⟨f45, _, ok_law_pattern F45 T C_law_take C_law_own C_law_kept C_law_name C_law_free C_law_leaf C_law_weight, b45, k45, PySem.W.mg_of X G a45⟩
  have C_law_spelt : HasSpelt 20 l.prog w K mg base := ⟨f46, _, ok_law_spelt F46 T C_law_take C_law_figure C_law_row (show HasWt 21 l.prog w K mg base from ⟨f43, _, ok_law_weight F43 T b43 k43 (PySem.W.mg_of X G a43) 21, b43, k43, PySem.W.mg_of X G a43⟩) b46 k46 (PySem.W.mg_of X G a46) 20, b46, k46, PySem.W.mg_of X G a46⟩
  have C_law_kind : HasKind l.prog w K mg base := ⟨f47, _, ok_law_kind F47 T, b47, k47, PySem.W.mg_of X G a47⟩
  have C_law_stuck : HasStuck l.prog w K mg base := ⟨f48, _, ok_law_stuck F48 T C_law_kind, b48, k48, PySem.W.mg_of X G a48⟩
  have C_law_line : HasLine l.prog w K mg base := ⟨f49, _, ok_law_line F49 T C_law_take C_law_stuck, b49, k49, PySem.W.mg_of X G a49⟩
  have C_law_alike : HasLAlike20 12 l.prog w K mg base := ⟨f50, _, ok_law_alike20 F50 T b50 k50 (PySem.W.mg_of X G a50) 12, b50, k50, PySem.W.mg_of X G a50⟩
  have C_law_capital : HasCap l.prog w K mg base := ⟨f51, _, ok_law_capital F51 T, b51, k51, PySem.W.mg_of X G a51⟩
  have C_law_names : HasNames15 12 l.prog w K mg base := ⟨f52, _, ok_law_names F52 T C_law_capital b52 k52 (PySem.W.mg_of X G a52) 12, b52, k52, PySem.W.mg_of X G a52⟩
  have C_law_sum : HasSum15 l.prog w K mg base := ⟨f53, _, ok_law_sum F53 T C_law_take C_law_number C_law_name C_law_weight, b53, k53, PySem.W.mg_of X G a53⟩
  have C_law_test : HasTest15 l.prog w K mg base := ⟨f54, _, ok_law_test F54 T C_law_take C_law_sum, b54, k54, PySem.W.mg_of X G a54⟩
  have C_law_together : HasTogether l.prog w K mg base := ⟨f55, _, ok_law_together F55 T, b55, k55, PySem.W.mg_of X G a55⟩
  have C_law_box : HasBox15 l.prog w K mg base := ⟨f56, _, ok_law_box F56 T C_law_sum C_law_names C_law_name C_law_together, b56, k56, PySem.W.mg_of X G a56⟩
  have C_law_asked : HasAsked15 l.prog w K mg base := ⟨f57, _, ok_law_asked F57 T C_law_pattern C_law_capital C_law_free C_law_name, b57, k57, PySem.W.mg_of X G a57⟩
  have C_law_goal : HasGoal15 l.prog w K mg base := ⟨f58, _, ok_law_goal F58 T C_law_take C_law_pattern C_law_asked C_law_sum C_law_test C_law_box C_law_together C_law_weight, b58, k58, PySem.W.mg_of X G a58⟩
  have C_law_keptless : HasL 22 "_law_keptless" 20 (fun p => !hasK p) l.prog w K mg base := ⟨f59, _, ok_law_keptless F59 T C_law_kept b59 k59 (PySem.W.mg_of X G a59) 20, b59, k59, PySem.W.mg_of X G a59⟩
  have C_law_pair_ok : HasPairQ 20 l.prog w K mg base := ⟨f60, _, ok_law_pair_ok F60 T ((sum_all F60 T b60 k60 (PySem.W.mg_of X G a60) F61 b61 k61 (PySem.W.mg_of X G a61) C_law_capital 19).2), b60, k60, PySem.W.mg_of X G a60⟩
  have C_law_sum_ok : HasL 43 "_law_sum_ok" 20 sumP l.prog w K mg base := ⟨f61, _, ok_law_sum_ok F61 T C_law_pair_ok C_law_capital, b61, k61, PySem.W.mg_of X G a61⟩
  have C_law_asked_ok : HasL 23 "_law_asked_ok" 20 relP l.prog w K mg base := ⟨f62, _, ok_law_asked_ok F62 T C_law_keptless C_law_capital, b62, k62, PySem.W.mg_of X G a62⟩
  have C_law_parted : HasParted 20 l.prog w K mg base := ⟨f63, _, ok_law_parted F63 T, b63, k63, PySem.W.mg_of X G a63⟩
  have C_law_range_ok : HasL 43 "_law_range_ok" 20 rangeP l.prog w K mg base := ⟨f64, _, ok_law_range_ok F64 T C_law_capital C_law_pair_ok, b64, k64, PySem.W.mg_of X G a64⟩
  have C_law_box_ok : HasL 44 "_law_box_ok" 20 boxP l.prog w K mg base := ⟨f65, _, ok_law_box_ok F65 T C_law_parted C_law_range_ok (show HasNames15 21 l.prog w K mg base from ⟨f52, _, ok_law_names F52 T C_law_capital b52 k52 (PySem.W.mg_of X G a52) 21, b52, k52, PySem.W.mg_of X G a52⟩), b65, k65, PySem.W.mg_of X G a65⟩
  have C_law_goal_ok : HasL 45 "_law_goal_ok" 20 goalP l.prog w K mg base := ⟨f66, _, ok_law_goal_ok F66 T C_law_keptless C_law_sum_ok C_law_pair_ok C_law_asked_ok C_law_parted C_law_box_ok, b66, k66, PySem.W.mg_of X G a66⟩
  have C_law_held : HasHeld l.prog w K mg base := ⟨f67, _, ok_law_held F67 T, b67, k67, PySem.W.mg_of X G a67⟩
  have C_law_wide : HasWide l.prog w K mg base := ⟨f68, _, ok_law_wide F68 T C_law_take C_law_goal C_law_box C_law_test C_law_together, b68, k68, PySem.W.mg_of X G a68⟩
  have C_law_other : HasOther l.prog w K mg base := ⟨f69, _, ok_law_other F69 T C_law_take C_law_names C_law_number C_law_sum C_law_test C_law_box C_law_pattern, b69, k69, PySem.W.mg_of X G a69⟩
  have C_law_changed : HasChanged 12 l.prog w K mg base := ⟨f70, _, ok_law_changed F70 T C_law_take b70 k70 (PySem.W.mg_of X G a70) 12, b70, k70, PySem.W.mg_of X G a70⟩
  have C_law_headed : HasHeaded l.prog w K mg base := ⟨f71, _, ok_law_headed F71 T C_law_take C_law_sum C_law_box (show HasParted 12 l.prog w K mg base from ⟨f63, _, ok_law_parted F63 T, b63, k63, PySem.W.mg_of X G a63⟩), b71, k71, PySem.W.mg_of X G a71⟩
  have C_law_told : HasTold14 40 20 l.prog w K mg base := ⟨f72, _, ok_law_told14 F72 E_BadShape E_BadSize hZS C_read_goal, b72, k72, PySem.W.mg_of X G a72⟩
  exact ok_law F73 T C_law_pool C_law_ops C_law_wide C_law_take C_law_headed C_law_changed C_law_other C_law_spelt C_law_line C_law_told (show HasWt 21 l.prog w K mg base from ⟨f43, _, ok_law_weight F43 T b43 k43 (PySem.W.mg_of X G a43) 21, b43, k43, PySem.W.mg_of X G a43⟩) C_law_goal_ok C_law_held C_law_alike
end Gs
open PySem PySem.W PyProof.Rows
set_option maxRecDepth 100000 in
set_option maxHeartbeats 0 in
theorem PySem.Challenge.cw_goalstead_k14_goals_by_their_shapes_holds : PySem.Challenge.rw_goalstead_k14_goals_by_their_shapes.Holds := by
  refine HdK.hd ?_
  k_fill
  refine L2.walk_of (l := PySem.Challenge.rw_goalstead_k14_goals_by_their_shapes) (n := 63) (k := 175) (x := "script") (CX := fun _ => L2.CX0) (sp := fun w => Gs.spLaw _) rfl (by decide) rfl ⟨rfl, by decide, by decide⟩ (fun w h Y => PySem.W.kIn_of Y) ?F (fun _ _ a ns hl _ hS => ⟨a, ns, rfl, hS, hl, fun _ => rfl⟩) (fun _ _ _ _ _ h => h)
  case F =>
    intro w mg fa h KX G hmg
    refine' Gs.all_mk KX G hmg (m_GoalError := ?m_GoalError) (sp_GoalError := ?sp_GoalError) (rd_GoalError := ?rd_GoalError) (fc_GoalError := ?fc_GoalError) (a0 := ?a0) (l0 := ?l0) (c0 := ?c0) (k0 := ?k0) (a1 := ?a1) (l1 := ?l1) (c1 := ?c1) (k1 := ?k1) (a2 := ?a2) (l2 := ?l2) (c2 := ?c2) (k2 := ?k2) (a3 := ?a3) (l3 := ?l3) (c3 := ?c3) (k3 := ?k3) (a4 := ?a4) (l4 := ?l4) (c4 := ?c4) (k4 := ?k4) (a5 := ?a5) (l5 := ?l5) (c5 := ?c5) (k5 := ?k5) (a6 := ?a6) (l6 := ?l6) (c6 := ?c6) (k6 := ?k6) (a7 := ?a7) (l7 := ?l7) (c7 := ?c7) (k7 := ?k7) (a8 := ?a8) (l8 := ?l8) (c8 := ?c8) (k8 := ?k8) (q8 := ?q8) (r8 := ?r8) (a9 := ?a9) (l9 := ?l9) (c9 := ?c9) (k9 := ?k9) (a10 := ?a10) (l10 := ?l10) (c10 := ?c10) (k10 := ?k10) (a11 := ?a11) (l11 := ?l11) (c11 := ?c11) (k11 := ?k11) (a12 := ?a12) (l12 := ?l12) (c12 := ?c12) (k12 := ?k12) (a13 := ?a13) (l13 := ?l13) (c13 := ?c13) (k13 := ?k13) (a14 := ?a14) (l14 := ?l14) (c14 := ?c14) (k14 := ?k14) (a15 := ?a15) (l15 := ?l15) (c15 := ?c15) (k15 := ?k15) (a16 := ?a16) (l16 := ?l16) (c16 := ?c16) (k16 := ?k16) (a17 := ?a17) (l17 := ?l17) (c17 := ?c17) (k17 := ?k17) (a18 := ?a18) (l18 := ?l18) (c18 := ?c18) (k18 := ?k18) (a19 := ?a19) (l19 := ?l19) (c19 := ?c19) (k19 := ?k19) (a20 := ?a20) (l20 := ?l20) (c20 := ?c20) (k20 := ?k20) (a21 := ?a21) (l21 := ?l21) (c21 := ?c21) (k21 := ?k21) (a22 := ?a22) (l22 := ?l22) (c22 := ?c22) (k22 := ?k22) (a23 := ?a23) (l23 := ?l23) (c23 := ?c23) (k23 := ?k23) (a24 := ?a24) (l24 := ?l24) (c24 := ?c24) (k24 := ?k24) (a25 := ?a25) (l25 := ?l25) (c25 := ?c25) (k25 := ?k25) (a26 := ?a26) (l26 := ?l26) (c26 := ?c26) (k26 := ?k26) (a27 := ?a27) (l27 := ?l27) (c27 := ?c27) (k27 := ?k27) (a28 := ?a28) (l28 := ?l28) (c28 := ?c28) (k28 := ?k28) (a29 := ?a29) (l29 := ?l29) (c29 := ?c29) (k29 := ?k29) (a30 := ?a30) (l30 := ?l30) (c30 := ?c30) (k30 := ?k30) (a31 := ?a31) (l31 := ?l31) (c31 := ?c31) (k31 := ?k31) (q31 := ?q31) (r31 := ?r31) (a32 := ?a32) (l32 := ?l32) (c32 := ?c32) (k32 := ?k32) (a33 := ?a33) (l33 := ?l33) (c33 := ?c33) (k33 := ?k33) (a34 := ?a34) (l34 := ?l34) (c34 := ?c34) (k34 := ?k34) (a35 := ?a35) (l35 := ?l35) (c35 := ?c35) (k35 := ?k35) (a36 := ?a36) (l36 := ?l36) (c36 := ?c36) (k36 := ?k36) (a37 := ?a37) (l37 := ?l37) (c37 := ?c37) (k37 := ?k37) (a38 := ?a38) (l38 := ?l38) (c38 := ?c38) (k38 := ?k38) (a39 := ?a39) (l39 := ?l39) (c39 := ?c39) (k39 := ?k39) (a40 := ?a40) (l40 := ?l40) (c40 := ?c40) (k40 := ?k40) (a41 := ?a41) (l41 := ?l41) (c41 := ?c41) (k41 := ?k41) (a42 := ?a42) (l42 := ?l42) (c42 := ?c42) (k42 := ?k42) (a43 := ?a43) (l43 := ?l43) (c43 := ?c43) (k43 := ?k43) (a44 := ?a44) (l44 := ?l44) (c44 := ?c44) (k44 := ?k44) (a45 := ?a45) (l45 := ?l45) (c45 := ?c45) (k45 := ?k45) (a46 := ?a46) (l46 := ?l46) (c46 := ?c46) (k46 := ?k46) (a47 := ?a47) (l47 := ?l47) (c47 := ?c47) (k47 := ?k47) (a48 := ?a48) (l48 := ?l48) (c48 := ?c48) (k48 := ?k48) (a49 := ?a49) (l49 := ?l49) (c49 := ?c49) (k49 := ?k49) (a50 := ?a50) (l50 := ?l50) (c50 := ?c50) (k50 := ?k50) (a51 := ?a51) (l51 := ?l51) (c51 := ?c51) (k51 := ?k51) (a52 := ?a52) (l52 := ?l52) (c52 := ?c52) (k52 := ?k52) (a53 := ?a53) (l53 := ?l53) (c53 := ?c53) (k53 := ?k53) (a54 := ?a54) (l54 := ?l54) (c54 := ?c54) (k54 := ?k54) (a55 := ?a55) (l55 := ?l55) (c55 := ?c55) (k55 := ?k55) (a56 := ?a56) (l56 := ?l56) (c56 := ?c56) (k56 := ?k56) (a57 := ?a57) (l57 := ?l57) (c57 := ?c57) (k57 := ?k57) (a58 := ?a58) (l58 := ?l58) (c58 := ?c58) (k58 := ?k58) (a59 := ?a59) (l59 := ?l59) (c59 := ?c59) (k59 := ?k59) (a60 := ?a60) (l60 := ?l60) (c60 := ?c60) (k60 := ?k60) (a61 := ?a61) (l61 := ?l61) (c61 := ?c61) (k61 := ?k61) (a62 := ?a62) (l62 := ?l62) (c62 := ?c62) (k62 := ?k62) (a63 := ?a63) (l63 := ?l63) (c63 := ?c63) (k63 := ?k63) (a64 := ?a64) (l64 := ?l64) (c64 := ?c64) (k64 := ?k64) (a65 := ?a65) (l65 := ?l65) (c65 := ?c65) (k65 := ?k65) (a66 := ?a66) (l66 := ?l66) (c66 := ?c66) (k66 := ?k66) (a67 := ?a67) (l67 := ?l67) (c67 := ?c67) (k67 := ?k67) (a68 := ?a68) (l68 := ?l68) (c68 := ?c68) (k68 := ?k68) (a69 := ?a69) (l69 := ?l69) (c69 := ?c69) (k69 := ?k69) (a70 := ?a70) (l70 := ?l70) (c70 := ?c70) (k70 := ?k70) (a71 := ?a71) (l71 := ?l71) (c71 := ?c71) (k71 := ?k71) (a72 := ?a72) (l72 := ?l72) (c72 := ?c72) (k72 := ?k72) (a73 := ?a73) (l73 := ?l73) (c73 := ?c73) (k73 := ?k73) (z_all := ?z_all) (z_bool := ?z_bool) (z_int := ?z_int) (z_isinstance := ?z_isinstance) (z_len := ?z_len) (z_list := ?z_list) (z_max := ?z_max) (z_range := ?z_range) (z_set := ?z_set) (z_str := ?z_str) (z_sum := ?z_sum) (z_tuple := ?z_tuple) (g_BRACKETS := ?g_BRACKETS) (g_CAPITALS := ?g_CAPITALS) (g_DEEP := ?g_DEEP) (g_DIGITS := ?g_DIGITS) (g_FIGURES := ?g_FIGURES) (g_KEPT := ?g_KEPT) (l_KEPT := ?l_KEPT) (g_LEVELS := ?g_LEVELS) (g_MARKS := ?g_MARKS) (g_MARK_SIGNS := ?g_MARK_SIGNS) (g_OWN := ?g_OWN) (l_OWN := ?l_OWN) (l_OWN_15 := ?l_OWN_15) (l_OWN_14 := ?l_OWN_14) (l_OWN_13 := ?l_OWN_13) (l_OWN_12 := ?l_OWN_12) (l_OWN_11 := ?l_OWN_11) (l_OWN_10 := ?l_OWN_10) (l_OWN_9 := ?l_OWN_9) (l_OWN_8 := ?l_OWN_8) (l_OWN_7 := ?l_OWN_7) (l_OWN_6 := ?l_OWN_6) (l_OWN_5 := ?l_OWN_5) (l_OWN_4 := ?l_OWN_4) (l_OWN_3 := ?l_OWN_3) (l_OWN_2 := ?l_OWN_2) (l_OWN_1 := ?l_OWN_1) (l_OWN_0 := ?l_OWN_0) (g_PARTS := ?g_PARTS) (g_PIECES := ?g_PIECES) (g_RANGES := ?g_RANGES) (g_SIZE := ?g_SIZE) (g_SMALLS := ?g_SMALLS) (g_SUM_SIGNS := ?g_SUM_SIGNS) (l_SUM_SIGNS := ?l_SUM_SIGNS) (g_TESTS := ?g_TESTS) (g_TEST_SIGNS := ?g_TEST_SIGNS) (l_TEST_SIGNS := ?l_TEST_SIGNS) (g_WORD_SIGNS := ?g_WORD_SIGNS) (m_BadShape := ?m_BadShape) (x_BadShape := ?x_BadShape) (sa_BadShape := ?sa_BadShape) (ga_BadShape := ?ga_BadShape) (gg_BadShape := ?gg_BadShape) (nf_BadShape := ?nf_BadShape) (ex_BadShape := ?ex_BadShape) (ty_BadShape := ?ty_BadShape) (kc_BadShape := ?kc_BadShape) (hd_BadShape := ?hd_BadShape) (ic_BadShape := ?ic_BadShape) (ss_BadShape := ?ss_BadShape) (i_BadShape := ?i_BadShape) (ti_BadShape := ?ti_BadShape) (l_BadShape := ?l_BadShape) (c_BadShape := ?c_BadShape) (k_BadShape := ?k_BadShape) (m_BadSize := ?m_BadSize) (x_BadSize := ?x_BadSize) (sa_BadSize := ?sa_BadSize) (ga_BadSize := ?ga_BadSize) (gg_BadSize := ?gg_BadSize) (nf_BadSize := ?nf_BadSize) (ex_BadSize := ?ex_BadSize) (ty_BadSize := ?ty_BadSize) (kc_BadSize := ?kc_BadSize) (hd_BadSize := ?hd_BadSize) (ic_BadSize := ?ic_BadSize) (ss_BadSize := ?ss_BadSize) (i_BadSize := ?i_BadSize) (ti_BadSize := ?ti_BadSize) (l_BadSize := ?l_BadSize) (c_BadSize := ?c_BadSize) (k_BadSize := ?k_BadSize) (m_C_ := ?m_C_) (t_pgC_ := ?t_pgC_) (t_hdC_ := ?t_hdC_) (t_poC_ := ?t_poC_) (t_saC_ := ?t_saC_) (t_mkC_ := ?t_mkC_) (t_kcC_ := ?t_kcC_) (t_n_betweenC_ := ?t_n_betweenC_) (t_n_aheadC_ := ?t_n_aheadC_) (u_C_init := ?u_C_init) (i_C_init := ?i_C_init) (l_C_init := ?l_C_init) (c_C_init := ?c_C_init) (k_C_init := ?k_C_init) (u_C_has := ?u_C_has) (i_C_has := ?i_C_has) (l_C_has := ?l_C_has) (c_C_has := ?c_C_has) (k_C_has := ?k_C_has) (u_C_left_bound := ?u_C_left_bound) (i_C_left_bound := ?i_C_left_bound) (l_C_left_bound := ?l_C_left_bound) (c_C_left_bound := ?c_C_left_bound) (k_C_left_bound := ?k_C_left_bound) (u_C_right_bound := ?u_C_right_bound) (i_C_right_bound := ?i_C_right_bound) (l_C_right_bound := ?l_C_right_bound) (c_C_right_bound := ?c_C_right_bound) (k_C_right_bound := ?k_C_right_bound) (u_C_ahead_bound := ?u_C_ahead_bound) (i_C_ahead_bound := ?i_C_ahead_bound) (l_C_ahead_bound := ?l_C_ahead_bound) (c_C_ahead_bound := ?c_C_ahead_bound) (k_C_ahead_bound := ?k_C_ahead_bound) (m_D_ := ?m_D_) (t_pgD_ := ?t_pgD_) (t_hdD_ := ?t_hdD_) (t_poD_ := ?t_poD_) (t_saD_ := ?t_saD_) (t_mkD_ := ?t_mkD_) (t_kcD_ := ?t_kcD_) (t_n_piecesD_ := ?t_n_piecesD_) (t_n_tableD_ := ?t_n_tableD_) (t_n_atD_ := ?t_n_atD_) (u_D_init := ?u_D_init) (i_D_init := ?i_D_init) (l_D_init := ?l_D_init) (c_D_init := ?c_D_init) (k_D_init := ?k_D_init) (u_D_whole := ?u_D_whole) (i_D_whole := ?i_D_whole) (l_D_whole := ?l_D_whole) (c_D_whole := ?c_D_whole) (k_D_whole := ?k_D_whole) (u_D_part := ?u_D_part) (i_D_part := ?i_D_part) (l_D_part := ?l_D_part) (c_D_part := ?c_D_part) (k_D_part := ?k_D_part) (u_D_goes_on := ?u_D_goes_on) (i_D_goes_on := ?i_D_goes_on) (l_D_goes_on := ?l_D_goes_on) (c_D_goes_on := ?c_D_goes_on) (k_D_goes_on := ?k_D_goes_on) (u_D_first_part := ?u_D_first_part) (i_D_first_part := ?i_D_first_part) (l_D_first_part := ?l_D_first_part) (c_D_first_part := ?c_D_first_part) (k_D_first_part := ?k_D_first_part) (u_D_plain_part := ?u_D_plain_part) (i_D_plain_part := ?i_D_plain_part) (l_D_plain_part := ?l_D_plain_part) (c_D_plain_part := ?c_D_plain_part) (k_D_plain_part := ?k_D_plain_part) (u_D_parts_in_brackets := ?u_D_parts_in_brackets) (i_D_parts_in_brackets := ?i_D_parts_in_brackets) (l_D_parts_in_brackets := ?l_D_parts_in_brackets) (c_D_parts_in_brackets := ?c_D_parts_in_brackets) (k_D_parts_in_brackets := ?k_D_parts_in_brackets) (u_D_is_next := ?u_D_is_next) (i_D_is_next := ?i_D_is_next) (l_D_is_next := ?l_D_is_next) (c_D_is_next := ?c_D_is_next) (k_D_is_next := ?k_D_is_next) (u_D_take := ?u_D_take) (i_D_take := ?i_D_take) (l_D_take := ?l_D_take) (c_D_take := ?c_D_take) (k_D_take := ?k_D_take) (n_hasD := ?n_hasD) (ss_ZS := ?ss_ZS)
    (case m_GoalError => k_is)
    (case sp_GoalError => k_is)
    (case rd_GoalError => k_is)
    (case fc_GoalError => k_is)
    (case a0 => k_is)
    (case l0 => k_is)
    (case c0 => k_is)
    (case k0 => k_is)
    (case a1 => k_is)
    (case l1 => k_is)
    (case c1 => k_is)
    (case k1 => k_is)
    (case a2 => k_is)
    (case l2 => k_is)
    (case c2 => k_is)
    (case k2 => k_is)
    (case a3 => k_is)
    (case l3 => k_is)
    (case c3 => k_is)
    (case k3 => k_is)
    (case a4 => k_is)
    (case l4 => k_is)
    (case c4 => k_is)
    (case k4 => k_is)
    (case a5 => k_is)
    (case l5 => k_is)
    (case c5 => k_is)
    (case k5 => k_is)
    (case a6 => k_is)
    (case l6 => k_is)
    (case c6 => k_is)
    (case k6 => k_is)
    (case a7 => k_is)
    (case l7 => k_is)
    (case c7 => k_is)
    (case k7 => k_is)
    (case a8 => k_is)
    (case l8 => k_is)
    (case c8 => k_is)
    (case k8 => k_is)
    (case q8 => k_is)
    (case r8 => exact ⟨_, rfl⟩)
    (case a9 => k_is)
    (case l9 => k_is)
    (case c9 => k_is)
    (case k9 => k_is)
    (case a10 => k_is)
    (case l10 => k_is)
    (case c10 => k_is)
    (case k10 => k_is)
    (case a11 => k_is)
    (case l11 => k_is)
    (case c11 => k_is)
    (case k11 => k_is)
    (case a12 => k_is)
    (case l12 => k_is)
    (case c12 => k_is)
    (case k12 => k_is)
    (case a13 => k_is)
    (case l13 => k_is)
    (case c13 => k_is)
    (case k13 => k_is)
    (case a14 => k_is)
    (case l14 => k_is)
    (case c14 => k_is)
    (case k14 => k_is)
    (case a15 => k_is)
    (case l15 => k_is)
    (case c15 => k_is)
    (case k15 => k_is)
    (case a16 => k_is)
    (case l16 => k_is)
    (case c16 => k_is)
    (case k16 => k_is)
    (case a17 => k_is)
    (case l17 => k_is)
    (case c17 => k_is)
    (case k17 => k_is)
    (case a18 => k_is)
    (case l18 => k_is)
    (case c18 => k_is)
    (case k18 => k_is)
    (case a19 => k_is)
    (case l19 => k_is)
    (case c19 => k_is)
    (case k19 => k_is)
    (case a20 => k_is)
    (case l20 => k_is)
    (case c20 => k_is)
    (case k20 => k_is)
    (case a21 => k_is)
    (case l21 => k_is)
    (case c21 => k_is)
    (case k21 => k_is)
    (case a22 => k_is)
    (case l22 => k_is)
    (case c22 => k_is)
    (case k22 => k_is)
    (case a23 => k_is)
    (case l23 => k_is)
    (case c23 => k_is)
    (case k23 => k_is)
    (case a24 => k_is)
    (case l24 => k_is)
    (case c24 => k_is)
    (case k24 => k_is)
    (case a25 => k_is)
    (case l25 => k_is)
    (case c25 => k_is)
    (case k25 => k_is)
    (case a26 => k_is)
    (case l26 => k_is)
    (case c26 => k_is)
    (case k26 => k_is)
    (case a27 => k_is)
    (case l27 => k_is)
    (case c27 => k_is)
    (case k27 => k_is)
    (case a28 => k_is)
    (case l28 => k_is)
    (case c28 => k_is)
    (case k28 => k_is)
    (case a29 => k_is)
    (case l29 => k_is)
    (case c29 => k_is)
    (case k29 => k_is)
    (case a30 => k_is)
    (case l30 => k_is)
    (case c30 => k_is)
    (case k30 => k_is)
    (case a31 => k_is)
    (case l31 => k_is)
    (case c31 => k_is)
    (case k31 => k_is)
    (case q31 => k_is)
    (case r31 => exact ⟨_, rfl⟩)
    (case a32 => k_is)
    (case l32 => k_is)
    (case c32 => k_is)
    (case k32 => k_is)
    (case a33 => k_is)
    (case l33 => k_is)
    (case c33 => k_is)
    (case k33 => k_is)
    (case a34 => k_is)
    (case l34 => k_is)
    (case c34 => k_is)
    (case k34 => k_is)
    (case a35 => k_is)
    (case l35 => k_is)
    (case c35 => k_is)
    (case k35 => k_is)
    (case a36 => k_is)
    (case l36 => k_is)
    (case c36 => k_is)
    (case k36 => k_is)
    (case a37 => k_is)
    (case l37 => k_is)
    (case c37 => k_is)
    (case k37 => k_is)
    (case a38 => k_is)
    (case l38 => k_is)
    (case c38 => k_is)
    (case k38 => k_is)
    (case a39 => k_is)
    (case l39 => k_is)
    (case c39 => k_is)
    (case k39 => k_is)
    (case a40 => k_is)
    (case l40 => k_is)
    (case c40 => k_is)
    (case k40 => k_is)
    (case a41 => k_is)
    (case l41 => k_is)
    (case c41 => k_is)
    (case k41 => k_is)
    (case a42 => k_is)
    (case l42 => k_is)
    (case c42 => k_is)
    (case k42 => k_is)
    (case a43 => k_is)
    (case l43 => k_is)
    (case c43 => k_is)
    (case k43 => k_is)
    (case a44 => k_is)
    (case l44 => k_is)
    (case c44 => k_is)
    (case k44 => k_is)
    (case a45 => k_is)
    (case l45 => k_is)
    (case c45 => k_is)
    (case k45 => k_is)
    (case a46 => k_is)
    (case l46 => k_is)
    (case c46 => k_is)
    (case k46 => k_is)
    (case a47 => k_is)
    (case l47 => k_is)
    (case c47 => k_is)
    (case k47 => k_is)
    (case a48 => k_is)
    (case l48 => k_is)
    (case c48 => k_is)
    (case k48 => k_is)
    (case a49 => k_is)
    (case l49 => k_is)
    (case c49 => k_is)
    (case k49 => k_is)
    (case a50 => k_is)
    (case l50 => k_is)
    (case c50 => k_is)
    (case k50 => k_is)
    (case a51 => k_is)
    (case l51 => k_is)
    (case c51 => k_is)
    (case k51 => k_is)
    (case a52 => k_is)
    (case l52 => k_is)
    (case c52 => k_is)
    (case k52 => k_is)
    (case a53 => k_is)
    (case l53 => k_is)
    (case c53 => k_is)
    (case k53 => k_is)
    (case a54 => k_is)
    (case l54 => k_is)
    (case c54 => k_is)
    (case k54 => k_is)
    (case a55 => k_is)
    (case l55 => k_is)
    (case c55 => k_is)
    (case k55 => k_is)
    (case a56 => k_is)
    (case l56 => k_is)
    (case c56 => k_is)
    (case k56 => k_is)
    (case a57 => k_is)
    (case l57 => k_is)
    (case c57 => k_is)
    (case k57 => k_is)
    (case a58 => k_is)
    (case l58 => k_is)
    (case c58 => k_is)
    (case k58 => k_is)
    (case a59 => k_is)
    (case l59 => k_is)
    (case c59 => k_is)
    (case k59 => k_is)
    (case a60 => k_is)
    (case l60 => k_is)
    (case c60 => k_is)
    (case k60 => k_is)
    (case a61 => k_is)
    (case l61 => k_is)
    (case c61 => k_is)
    (case k61 => k_is)
    (case a62 => k_is)
    (case l62 => k_is)
    (case c62 => k_is)
    (case k62 => k_is)
    (case a63 => k_is)
    (case l63 => k_is)
    (case c63 => k_is)
    (case k63 => k_is)
    (case a64 => k_is)
    (case l64 => k_is)
    (case c64 => k_is)
    (case k64 => k_is)
    (case a65 => k_is)
    (case l65 => k_is)
    (case c65 => k_is)
    (case k65 => k_is)
    (case a66 => k_is)
    (case l66 => k_is)
    (case c66 => k_is)
    (case k66 => k_is)
    (case a67 => k_is)
    (case l67 => k_is)
    (case c67 => k_is)
    (case k67 => k_is)
    (case a68 => k_is)
    (case l68 => k_is)
    (case c68 => k_is)
    (case k68 => k_is)
    (case a69 => k_is)
    (case l69 => k_is)
    (case c69 => k_is)
    (case k69 => k_is)
    (case a70 => k_is)
    (case l70 => k_is)
    (case c70 => k_is)
    (case k70 => k_is)
    (case a71 => k_is)
    (case l71 => k_is)
    (case c71 => k_is)
    (case k71 => k_is)
    (case a72 => k_is)
    (case l72 => k_is)
    (case c72 => k_is)
    (case k72 => k_is)
    (case a73 => k_is)
    (case l73 => k_is)
    (case c73 => k_is)
    (case k73 => k_is)
    (case z_all => k_is)
    (case z_bool => k_is)
    (case z_int => k_is)
    (case z_isinstance => k_is)
    (case z_len => k_is)
    (case z_list => k_is)
    (case z_max => k_is)
    (case z_range => k_is)
    (case z_set => k_is)
    (case z_str => k_is)
    (case z_sum => k_is)
    (case z_tuple => k_is)
    (case g_BRACKETS => k_is)
    (case g_CAPITALS => k_is)
    (case g_DEEP => k_is)
    (case g_DIGITS => k_is)
    (case g_FIGURES => k_is)
    (case g_KEPT => k_is)
    (case l_KEPT => k_is)
    (case g_LEVELS => k_is)
    (case g_MARKS => k_is)
    (case g_MARK_SIGNS => k_is)
    (case g_OWN => k_is)
    (case l_OWN => k_is)
    (case l_OWN_15 => k_is)
    (case l_OWN_14 => k_is)
    (case l_OWN_13 => k_is)
    (case l_OWN_12 => k_is)
    (case l_OWN_11 => k_is)
    (case l_OWN_10 => k_is)
    (case l_OWN_9 => k_is)
    (case l_OWN_8 => k_is)
    (case l_OWN_7 => k_is)
    (case l_OWN_6 => k_is)
    (case l_OWN_5 => k_is)
    (case l_OWN_4 => k_is)
    (case l_OWN_3 => k_is)
    (case l_OWN_2 => k_is)
    (case l_OWN_1 => k_is)
    (case l_OWN_0 => k_is)
    (case g_PARTS => k_is)
    (case g_PIECES => k_is)
    (case g_RANGES => k_is)
    (case g_SIZE => k_is)
    (case g_SMALLS => k_is)
    (case g_SUM_SIGNS => k_is)
    (case l_SUM_SIGNS => k_is)
    (case g_TESTS => k_is)
    (case g_TEST_SIGNS => k_is)
    (case l_TEST_SIGNS => k_is)
    (case g_WORD_SIGNS => k_is)
    (case m_BadShape => k_is)
    (case x_BadShape => k_is)
    (case sa_BadShape => k_is)
    (case ga_BadShape => k_is)
    (case gg_BadShape => k_is)
    (case nf_BadShape => k_is)
    (case ex_BadShape => k_is)
    (case ty_BadShape => k_is)
    (case kc_BadShape => k_is)
    (case hd_BadShape => k_is)
    (case ic_BadShape => k_is)
    (case ss_BadShape => first | rfl | k_is)
    (case i_BadShape => k_is)
    (case ti_BadShape => k_is)
    (case l_BadShape => k_is)
    (case c_BadShape => k_is)
    (case k_BadShape => k_is)
    (case m_BadSize => k_is)
    (case x_BadSize => k_is)
    (case sa_BadSize => k_is)
    (case ga_BadSize => k_is)
    (case gg_BadSize => k_is)
    (case nf_BadSize => k_is)
    (case ex_BadSize => k_is)
    (case ty_BadSize => k_is)
    (case kc_BadSize => k_is)
    (case hd_BadSize => k_is)
    (case ic_BadSize => k_is)
    (case ss_BadSize => first | rfl | k_is)
    (case i_BadSize => k_is)
    (case ti_BadSize => k_is)
    (case l_BadSize => k_is)
    (case c_BadSize => k_is)
    (case k_BadSize => k_is)
    (case m_C_ => k_is)
    (case t_pgC_ => k_is)
    (case t_hdC_ => k_is)
    (case t_poC_ => k_is)
    (case t_saC_ => k_is)
    (case t_mkC_ => k_is)
    (case t_kcC_ => k_is)
    (case t_n_betweenC_ => k_is)
    (case t_n_aheadC_ => k_is)
    (case u_C_init => k_is)
    (case i_C_init => k_is)
    (case l_C_init => k_is)
    (case c_C_init => k_is)
    (case k_C_init => k_is)
    (case u_C_has => k_is)
    (case i_C_has => k_is)
    (case l_C_has => k_is)
    (case c_C_has => k_is)
    (case k_C_has => k_is)
    (case u_C_left_bound => k_is)
    (case i_C_left_bound => k_is)
    (case l_C_left_bound => k_is)
    (case c_C_left_bound => k_is)
    (case k_C_left_bound => k_is)
    (case u_C_right_bound => k_is)
    (case i_C_right_bound => k_is)
    (case l_C_right_bound => k_is)
    (case c_C_right_bound => k_is)
    (case k_C_right_bound => k_is)
    (case u_C_ahead_bound => k_is)
    (case i_C_ahead_bound => k_is)
    (case l_C_ahead_bound => k_is)
    (case c_C_ahead_bound => k_is)
    (case k_C_ahead_bound => k_is)
    (case m_D_ => k_is)
    (case t_pgD_ => k_is)
    (case t_hdD_ => k_is)
    (case t_poD_ => k_is)
    (case t_saD_ => k_is)
    (case t_mkD_ => k_is)
    (case t_kcD_ => k_is)
    (case t_n_piecesD_ => k_is)
    (case t_n_tableD_ => k_is)
    (case t_n_atD_ => k_is)
    (case u_D_init => k_is)
    (case i_D_init => k_is)
    (case l_D_init => k_is)
    (case c_D_init => k_is)
    (case k_D_init => k_is)
    (case u_D_whole => k_is)
    (case i_D_whole => k_is)
    (case l_D_whole => k_is)
    (case c_D_whole => k_is)
    (case k_D_whole => k_is)
    (case u_D_part => k_is)
    (case i_D_part => k_is)
    (case l_D_part => k_is)
    (case c_D_part => k_is)
    (case k_D_part => k_is)
    (case u_D_goes_on => k_is)
    (case i_D_goes_on => k_is)
    (case l_D_goes_on => k_is)
    (case c_D_goes_on => k_is)
    (case k_D_goes_on => k_is)
    (case u_D_first_part => k_is)
    (case i_D_first_part => k_is)
    (case l_D_first_part => k_is)
    (case c_D_first_part => k_is)
    (case k_D_first_part => k_is)
    (case u_D_plain_part => k_is)
    (case i_D_plain_part => k_is)
    (case l_D_plain_part => k_is)
    (case c_D_plain_part => k_is)
    (case k_D_plain_part => k_is)
    (case u_D_parts_in_brackets => k_is)
    (case i_D_parts_in_brackets => k_is)
    (case l_D_parts_in_brackets => k_is)
    (case c_D_parts_in_brackets => k_is)
    (case k_D_parts_in_brackets => k_is)
    (case u_D_is_next => k_is)
    (case i_D_is_next => k_is)
    (case l_D_is_next => k_is)
    (case c_D_is_next => k_is)
    (case k_D_is_next => k_is)
    (case u_D_take => k_is)
    (case i_D_take => k_is)
    (case l_D_take => k_is)
    (case c_D_take => k_is)
    (case k_D_take => k_is)
    (case n_hasD => k_is)
    (case ss_ZS => first | rfl | k_is)
