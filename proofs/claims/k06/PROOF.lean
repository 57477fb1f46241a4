import PyProof.Rows.All
import Wide.All
import OpenK.AllK
import Wide.FinOn
import HandS.ForMost
import HandS.Wide
import HandS.IsInst
import HandS.Zip
import HandS.Walk
import HandS.Flow
import HandS.Evl
import HandS.Defaults
import HandS.NoneIn
import HandS.Exc
import HandS.ExcCtx
import HandS.ExcInitHot
import HandS.ExcInit
import HandS.ExcField
import HandS.HotCalls
import HandS.WordsExc
import HandS.Lambda
import HandS.EndTab
import KE.KTryMore
import HandS.Hot
import HandS.EndOwn
import KE.KNestM
import PySem.Challenge.RW_evenpace_k06_sums_of_floors
set_option Elab.async false
set_option linter.all false
set_option maxRecDepth 100000
set_option autoImplicit false
namespace EP
open PySem PySem.Spec PyProof.Rows L2
/-! ### wide floor division by a divisor of either sign -/
def CDivZ (_ j : Int) : Prop := j ≠ 0 ∧ j.natAbs.log2 < 9000
theorem op_fdivZ {X : Cx} : OpR X (binaryOp .FloorDiv) (rI CDivZ fun i j => .int (i.fdiv j)) := opI fun _ _ _ _ _ _ _ hc q => floordiv_int hc.1 q (.inl (PyProof.noPylong_of_log2 hc.2))
/-! ### heaps -/
def Gw (r : Addr) (H H' : Hp) : Prop := ∀ a o, a ≠ r → H a = some o → H' a = some o
def RngL (L : Addr) (H : Hp) (r : Addr) : Prop := ∃ (ns : List Int) (i c s : Int), H r = some (.lst [.ref L, .int i, .int c, .int s]) ∧ H L = some (.lst (ns.map V.int)) ∧ L ≠ r ∧ 0 ≤ i ∧ ns.length < 100 ∧ 0 ≤ c ∧ 0 ≤ s ∧ s < 2147483563
def Rng (H : Hp) (r : Addr) : Prop := ∃ L, RngL L H r
/-- from H to H' only the generator at r changed; new things may have come -/
structure Mo (r : Addr) (H H' : Hp) : Prop where
  g : Gw r H H'
  a : Rng H r
  l : ∀ L, RngL L H r → RngL L H' r
theorem Mo.b {r : Addr} {H H' : Hp} (m : Mo r H H') : Rng H' r := by
  obtain ⟨L, h⟩ := m.a
  exact ⟨L, m.l L h⟩
theorem RngL.same {L : Addr} {H H' : Hp} {r : Addr} (h : RngL L H r) (s : Same H H') : RngL L H' r := by
  obtain ⟨ns, i, c, sd, h1, h2, h3⟩ := h
  exact ⟨ns, i, c, sd, s _ _ h1, s _ _ h2, h3⟩
theorem Rng.same {H H' : Hp} {r : Addr} (h : Rng H r) (s : Same H H') : Rng H' r := by
  obtain ⟨L, h⟩ := h
  exact ⟨L, h.same s⟩
theorem Mo.same {H H' : Hp} {r : Addr} (h : Rng H r) (s : Same H H') : Mo r H H' := ⟨fun a o _ e => s a o e, h, fun _ h => h.same s⟩
theorem Mo.refl {H : Hp} {r : Addr} (h : Rng H r) : Mo r H H := ⟨fun a o _ e => e, h, fun _ h => h⟩
theorem Mo.trans {H H1 H2 : Hp} {r : Addr} (x : Mo r H H1) (y : Mo r H1 H2) : Mo r H H2 := ⟨fun a o n e => y.g a o n (x.g a o n e), x.a, fun L h => y.l L (x.l L h)⟩
/-- what is new since H may change -/
theorem Mo.mut {r D : Addr} {H H' : Hp} {o : HO} (m : Mo r H H') (n : H D = none) : Mo r H (upd H' D o) := by
  refine ⟨fun a u ha e => ?_, m.a, fun L h => ?_⟩
  · rw [upd_ne (ne_of_none e n)]; exact m.g a u ha e
  · obtain ⟨_, _, _, _, e1, e2, _⟩ := id h
    obtain ⟨ns, i, c, sd, h1, h2, h3⟩ := m.l L h
    refine ⟨ns, i, c, sd, ?_, ?_, h3⟩
    · rw [upd_ne (ne_of_none e1 n)]; exact h1
    · rw [upd_ne (ne_of_none e2 n)]; exact h2
theorem same_upd {H : Hp} {p : Addr} {o : HO} (h : H p = none) : Same H (upd H p o) := fun b x e => by
  rw [upd_ne (ne_of_none e h)]
  exact e
theorem Mo.new {H : Hp} {r p : Addr} {o : HO} (h : Rng H r) (n : H p = none) : Mo r H (upd H p o) := .same h (same_upd n)
theorem sqt_mo {K : PySem.W.Frag} {H H' : Hp} {r a : Addr} {xs : List V} (m : Mo r H H') (h : SqT K H a xs) : SqT K H' a xs := by
  rcases h with h | h
  · left
    obtain ⟨L, ns, i, c, sd, h1, _⟩ := m.a
    rcases h with h | ⟨o, h⟩
    · refine .inl (m.g a _ (fun e => ?_) h)
      subst e; rw [h1] at h; cases h
    · refine .inr ⟨o, m.g a _ (fun e => ?_) h⟩
      subst e; rw [h1] at h; cases h
  · exact .inr h
theorem sql_mo {K : PySem.W.Frag} {H H' : Hp} {r a : Addr} {xs : List V} (m : Mo r H H') (n : a ≠ r) (h : SqL K H a xs) : SqL K H' a xs := by
  rcases h with h | h
  · left
    rcases h with h | ⟨o, h⟩
    · exact .inl (m.g a _ n h)
    · exact .inr ⟨o, m.g a _ n h⟩
  · exact .inr h
/-! ### fractions -/
def Fr (K : PySem.W.Frag) (H : Hp) (v : V) (a b : Int) : Prop := ∃ p, v = .ref p ∧ SqT K H p [.int a, .int b]
theorem Fr.mo {K : PySem.W.Frag} {H H' : Hp} {r : Addr} {v : V} {a b : Int} (h : Fr K H v a b) (m : Mo r H H') : Fr K H' v a b := by
  obtain ⟨p, e, h⟩ := h
  exact ⟨p, e, sqt_mo m h⟩
theorem Fr.same {K : PySem.W.Frag} {H H' : Hp} {v : V} {a b : Int} (h : Fr K H v a b) (m : Same H H') : Fr K H' v a b := by
  obtain ⟨p, e, h⟩ := h
  exact ⟨p, e, Evl.ex_t m h⟩
theorem sizeLine2 {n : Nat} (h : n ≤ 1000) : n ≤ sizeLine := Nat.le_trans h (by decide)
end EP
namespace EP
open PySem PySem.Spec PyProof.Rows L2
/-! ### tests -/
theorem brI {p A B : Prop} [Decidable p] (h1 : p → A) (h2 : ¬ p → B) : if decide p = true then A else B := by
  by_cases h : p
  · rw [if_pos (decide_eq_true h)]; exact h1 h
  · rw [if_neg (by simpa using h)]; exact h2 h
theorem brEq {i j : Int} {A B : Prop} (h1 : i = j → A) (h2 : i ≠ j → B) : if decide (V.int i = V.int j) = true then A else B :=
  brI (fun h => h1 (V.int.inj h)) (fun h => h2 fun e => h (by rw [e]))
theorem brNe {i j : Int} {A B : Prop} (h1 : i ≠ j → A) (h2 : i = j → B) : if (!decide (V.int i = V.int j)) = true then A else B := by
  by_cases h : i = j
  · subst h; rw [if_neg (by simp)]; exact h2 rfl
  · rw [if_pos (by simpa using h)]; exact h1 h
/-! ### items -/
theorem ix0 {x : V} {xs : List V} : atI (x :: xs) 0 = some x := atI_nat (j := 0) rfl
theorem ix1 {x y : V} {xs : List V} : atI (x :: y :: xs) 1 = some y := atI_nat (j := 1) rfl
theorem ix2 {x y z : V} {xs : List V} : atI (x :: y :: z :: xs) 2 = some z := atI_nat (j := 2) rfl
theorem ix3 {x y z u : V} {xs : List V} : atI (x :: y :: z :: u :: xs) 3 = some u := atI_nat (j := 3) rfl
/-! ### sizes -/
def B (n : Nat) (x : Int) : Prop := x.natAbs < 2 ^ n
theorem B.one : B 1 1 := by unfold B; decide
theorem B.mono {n m : Nat} {x : Int} (h : B n x) (l : n ≤ m := by decide) : B m x := Nat.lt_of_lt_of_le h (Nat.pow_le_pow_right (by decide) l)
theorem B.mul {n m : Nat} {x y : Int} (h : B n x) (k : B m y) : B (n + m) (x * y) := wide_lt h k
theorem B.add {n : Nat} {x y : Int} (h : B n x) (k : B n y) : B (n + 1) (x + y) := by
  unfold B at *
  rw [Nat.pow_succ]; omega
theorem B.sub {n : Nat} {x y : Int} (h : B n x) (k : B n y) : B (n + 1) (x - y) := by
  unfold B at *
  rw [Nat.pow_succ]; omega
theorem B.neg {n : Nat} {x : Int} (h : B n x) : B n (-x) := by unfold B at *; omega
theorem B.le {n : Nat} {x y : Int} (h : B n y) (k : x.natAbs ≤ y.natAbs) : B n x := Nat.lt_of_le_of_lt k h
theorem B.log {n : Nat} {x : Int} (h : B n x) (h0 : 0 < n := by decide) : x.natAbs.log2 < n := PySem.Flt.log2_lt_of h0 h
theorem cm {n m : Nat} {x y : Int} (h : B n x) (k : B m y) (h0 : 0 < n := by decide) (h1 : 0 < m := by decide) (l : n + m ≤ 1000000 := by decide) : CMulW x y := wide_mul h k h0 h1 l
theorem cdW {x y : Int} {n : Nat} (h : 0 < y) (k : B n y) (h0 : 0 < n := by decide) (l : n ≤ 9000 := by decide) : CDivW x y := wide_div h k h0 l
end EP

namespace EP
/-! ### the mathematics of fractions in lowest terms -/
def rn (n d : Int) : Int := (if d < 0 then -n else n) / (Int.gcd n d : Int)
def rd (n d : Int) : Int := (d.natAbs : Int) / (Int.gcd n d : Int)
theorem gcd_pos {n d : Int} (h : d ≠ 0) : 0 < Int.gcd n d := Int.gcd_pos_of_ne_zero_right n h
theorem rn_mul {n d : Int} : rn n d * (Int.gcd n d : Int) = if d < 0 then -n else n := by
  unfold rn
  refine Int.ediv_mul_cancel ?_
  split
  · exact Int.dvd_neg.mpr (Int.gcd_dvd_left ..)
  · exact Int.gcd_dvd_left ..
theorem rd_mul {n d : Int} : rd n d * (Int.gcd n d : Int) = (d.natAbs : Int) := by
  unfold rd
  exact Int.ediv_mul_cancel (Int.natCast_dvd_natCast.mpr (Nat.gcd_dvd_right ..))
theorem rd_pos {n d : Int} (h : d ≠ 0) : 0 < rd n d := by
  have h1 := rd_mul (n := n) (d := d)
  have h2 : 0 < (Int.gcd n d : Int) := by have := gcd_pos (n := n) h; omega
  have h3 : 0 < rd n d * (Int.gcd n d : Int) := by rw [h1]; omega
  exact Int.pos_of_mul_pos_left h3 h2
/-- the value is kept -/
theorem rn_rd {n d : Int} (h : d ≠ 0) : rn n d * d = n * rd n d := by
  have h1 := rn_mul (n := n) (d := d)
  have h2 := rd_mul (n := n) (d := d)
  have h3 : (Int.gcd n d : Int) ≠ 0 := by have := gcd_pos (n := n) h; omega
  refine Int.eq_of_mul_eq_mul_right h3 ?_
  rw [Int.mul_right_comm, h1, Int.mul_assoc, h2]
  split
  · rw [show (d.natAbs : Int) = -d by omega]; rw [Int.mul_neg, Int.neg_mul]
  · rw [show (d.natAbs : Int) = d by omega]
theorem gcd_le {n d : Int} (h : d ≠ 0) : (Int.gcd n d : Int).natAbs ≤ d.natAbs := by
  rw [Int.natAbs_natCast]
  exact Nat.le_of_dvd (by omega) (Nat.gcd_dvd_right ..)
theorem rn_abs {n d : Int} (h : d ≠ 0) : (rn n d).natAbs ≤ n.natAbs := by
  have h1 := congrArg Int.natAbs (rn_mul (n := n) (d := d))
  rw [Int.natAbs_mul, Int.natAbs_natCast] at h1
  have h2 := gcd_pos (n := n) h
  have h3 : (if d < 0 then -n else n).natAbs = n.natAbs := by split <;> omega
  rw [h3] at h1; rw [← h1]
  exact Nat.le_mul_of_pos_right _ h2
theorem rd_abs {n d : Int} (h : d ≠ 0) : (rd n d).natAbs ≤ d.natAbs := by
  have h1 := congrArg Int.natAbs (rd_mul (n := n) (d := d))
  rw [Int.natAbs_mul, Int.natAbs_natCast, Int.natAbs_natCast] at h1
  have h2 := gcd_pos (n := n) h
  rw [← h1]
  exact Nat.le_mul_of_pos_right _ h2
theorem B.rn {k : Nat} {n d : Int} (h : d ≠ 0) (b : B k n) : B k (rn n d) := b.le (rn_abs h)
theorem B.rd {k : Nat} {n d : Int} (h : d ≠ 0) (b : B k d) : B k (rd n d) := b.le (rd_abs h)
theorem fdiv_neg_exact {n g : Int} (hg : g ≠ 0) (h : g ∣ n) : n.fdiv (-g) = -n / g := by
  obtain ⟨c, rfl⟩ := h
  rw [show g * c = (-g) * (-c) by rw [Int.neg_mul_neg], Int.mul_fdiv_cancel_left _ (by omega), Int.neg_mul, Int.neg_neg, Int.mul_ediv_cancel_left _ hg]
theorem fdiv_exact {n g : Int} (hg : g ≠ 0) (h : g ∣ n) : n.fdiv g = n / g := by
  obtain ⟨c, rfl⟩ := h
  rw [Int.mul_fdiv_cancel_left _ hg, Int.mul_ediv_cancel_left _ hg]
end EP
namespace EP
open PySem PySem.Spec PyProof.Rows L2
theorem abs_nat (a : Int) : (if a < 0 then -a else a) = (a.natAbs : Int) := by split <;> omega
theorem gcd_step {x y : Int} (hx : 0 ≤ x) (hy : 0 < y) : Int.gcd y (x % y) = Int.gcd x y := by
  obtain ⟨a, rfl⟩ := Int.eq_ofNat_of_zero_le hx
  obtain ⟨b, rfl⟩ := Int.eq_ofNat_of_zero_le (Int.le_of_lt hy)
  show Nat.gcd (Int.natAbs (b : Int)) (Int.natAbs ((a : Int) % (b : Int))) = Nat.gcd (Int.natAbs (a : Int)) (Int.natAbs (b : Int))
  rw [← Int.natCast_emod]
  simp only [Int.natAbs_natCast]
  rw [Nat.gcd_comm a b, Nat.gcd_rec b a, Nat.gcd_comm]
theorem div_abs {x y : Int} (h : 0 < y) : (x / y).natAbs ≤ x.natAbs := by
  by_cases h0 : 0 ≤ x
  · have h1 := Int.ediv_nonneg h0 (Int.le_of_lt h)
    have h2 := Int.ediv_le_self y h0
    omega
  · have h1 : x ≤ x / y := by
      refine Int.le_ediv_of_mul_le h ?_
      have := Int.mul_le_mul_of_nonpos_left (a := x) (b := y) (c := 1) (by omega) (by omega)
      omega
    have h5 : x / y < 0 := Int.ediv_neg_of_neg_of_pos (by omega) h
    omega
/-! ### promises -/
def spGcd : Sp := fun vs H Q _ => ∃ a b : Int, vs = [.int a, .int b] ∧ Q (.int (Int.gcd a b)) H
def spRed (K : PySem.W.Frag) : Sp := fun vs H Q _ => ∃ n d : Int, vs = [.int n, .int d] ∧ d ≠ 0 ∧ B 8000 n ∧ B 8000 d ∧ ∀ v H', Same H H' → Fr K H' v (rn n d) (rd n d) → Q v H'
def spFF (K : PySem.W.Frag) (g : Int → Int → Int → Int → Int × Int) : Sp := fun vs H Q _ => ∃ (x y : V) (a b c d : Int), vs = [x, y] ∧ Fr K H x a b ∧ Fr K H y c d ∧ b ≠ 0 ∧ d ≠ 0 ∧ B 2000 a ∧ B 2000 b ∧ B 2000 c ∧ B 2000 d ∧ ∀ v H', Same H H' → Fr K H' v (g a b c d).1 (g a b c d).2 → Q v H'
def spFD (K : PySem.W.Frag) (g : Int → Int → Int → Int → Int × Int) : Sp := fun vs H Q _ => ∃ (x y : V) (a b c d : Int), vs = [x, y] ∧ Fr K H x a b ∧ Fr K H y c d ∧ b ≠ 0 ∧ c ≠ 0 ∧ B 2000 a ∧ B 2000 b ∧ B 2000 c ∧ B 2000 d ∧ ∀ v H', Same H H' → Fr K H' v (g a b c d).1 (g a b c d).2 → Q v H'
def spLess (K : PySem.W.Frag) : Sp := fun vs H Q _ => ∃ (x y : V) (a b c d : Int), vs = [x, y] ∧ Fr K H x a b ∧ Fr K H y c d ∧ B 2000 a ∧ B 2000 b ∧ B 2000 c ∧ B 2000 d ∧ Q (.bl (decide (a * d < c * b))) H
def spFloor (K : PySem.W.Frag) : Sp := fun vs H Q _ => ∃ (x : V) (a b : Int), vs = [x] ∧ Fr K H x a b ∧ 0 < b ∧ B 4000 b ∧ Q (.int (a / b)) H
def spCeil (K : PySem.W.Frag) : Sp := fun vs H Q _ => ∃ (x : V) (a b : Int), vs = [x] ∧ Fr K H x a b ∧ 0 < b ∧ B 4000 b ∧ Q (.int (-(-a / b))) H
def spTimes (K : PySem.W.Frag) : Sp := fun vs H Q _ => ∃ (n : Int) (x : V) (a b : Int), vs = [.int n, x] ∧ Fr K H x a b ∧ b ≠ 0 ∧ B 2000 n ∧ B 2000 a ∧ B 2000 b ∧ ∀ v H', Same H H' → Fr K H' v (rn (n * a) b) (rd (n * a) b) → Q v H'
/-- one minus the floor of one / period times the period -/
def remN (a b c d : Int) : Int × Int :=
  let t := rn (a * d) (b * c) / rd (a * d) (b * c)
  let n := rn (t * c) d
  let m := rd (t * c) d
  (rn (a * m - n * b) (b * m), rd (a * m - n * b) (b * m))
def spRem (K : PySem.W.Frag) : Sp := fun vs H Q _ => ∃ (x y : V) (a b c d : Int), vs = [x, y] ∧ Fr K H x a b ∧ Fr K H y c d ∧ 0 < b ∧ 0 < c ∧ 0 < d ∧ B 500 a ∧ B 500 b ∧ B 500 c ∧ B 500 d ∧ ∀ v H', Same H H' → Fr K H' v (remN a b c d).1 (remN a b c d).2 → Q v H'
end EP
namespace EP
open PySem PySem.Spec PyProof.Rows L2
def spSource (K : PySem.W.Frag) : Sp := fun vs H Q _ => ∃ (a : Addr) (ns : List Int), vs = [.ref a] ∧ SqL K H a (ns.map V.int) ∧ ns.length ≤ 63 ∧ ∀ r H', Same H H' → Rng H' r → Q (.ref r) H'
def spDraw : Sp := fun vs H Q _ => ∃ (r : Addr) (m : Int), vs = [.ref r, .int m] ∧ 0 < m ∧ B 2000 m ∧ Rng H r ∧ ∀ x H', 0 ≤ x → x < m → Mo r H H' → Q (.int x) H'
def spChoice (K : PySem.W.Frag) : Sp := fun vs H Q _ => ∃ (r l : Addr) (xs : List V), vs = [.ref r, .ref l] ∧ SqL K H l xs ∧ l ≠ r ∧ 0 < xs.length ∧ xs.length < 1000 ∧ Rng H r ∧ ∀ x H', x ∈ xs → Mo r H H' → Q x H'
end EP
namespace EP
open PySem PySem.Spec PyProof.Rows L2
theorem seq_by {t u : TS} {D : Ends} {σ : L2.St} {H : Hp} (C : L2.St → Hp → Prop) (h2 : ∀ σ' H', C σ' H' → u D σ' H') (h1 : (∀ σ' H', C σ' H' → u D σ' H') → t { D with nx := u D } σ H) : tSeq t u D σ H := h1 h2
end EP
namespace EP
open PySem PySem.Spec PyProof.Rows L2
mutual
def dep : PyData → Nat
  | .list xs => deps xs + 1
  | .tuple xs => deps xs + 1
  | _ => 0
def deps : List PyData → Nat
  | [] => 0
  | x :: xs => max (dep x) (deps xs)
end
mutual
def wd : PyData → Nat
  | .list xs => max xs.length (wds xs)
  | .tuple xs => max xs.length (wds xs)
  | _ => 0
def wds : List PyData → Nat
  | [] => 0
  | x :: xs => max (wd x) (wds xs)
end
theorem wds_get : ∀ {ds : List PyData} {i : Nat} {d : PyData}, ds[i]? = some d → wd d ≤ wds ds
  | [], i, _, e => by simp at e
  | x :: xs, 0, _, e => by cases Option.some.inj e; unfold wds; omega
  | x :: xs, i + 1, d, e => by have := wds_get (ds := xs) (i := i) e; unfold wds; omega
def spEqual (K : PySem.W.Frag) (n : Nat) : Sp := fun vs H Q _ => ∃ (x y : V) (d : PyData), vs = [x, y] ∧ Dp K H x d ∧ Dp K H y d ∧ dep d < n ∧ wd d < 1000000 ∧ ∀ H', Same H H' → Q (.bl true) H'
end EP
namespace EP
open PySem PySem.Spec PyProof.Rows L2
theorem kt_bool_bool {K : PySem.W.Frag} : PySem.W.kitOne K (.type "bool") (.type "bool") = some true := kit_ty (by decide +kernel)
theorem kt_bool_int {K : PySem.W.Frag} : PySem.W.kitOne K (.type "bool") (.type "int") = some true := kit_ty (by decide +kernel)
theorem kt_bool_str {K : PySem.W.Frag} : PySem.W.kitOne K (.type "bool") (.type "str") = some false := kit_ty (by decide +kernel)
theorem kt_bool_list {K : PySem.W.Frag} : PySem.W.kitOne K (.type "bool") (.type "list") = some false := kit_ty (by decide +kernel)
theorem kt_bool_tuple {K : PySem.W.Frag} : PySem.W.kitOne K (.type "bool") (.type "tuple") = some false := kit_ty (by decide +kernel)
theorem kt_int_bool {K : PySem.W.Frag} : PySem.W.kitOne K (.type "int") (.type "bool") = some false := kit_ty (by decide +kernel)
theorem kt_int_int {K : PySem.W.Frag} : PySem.W.kitOne K (.type "int") (.type "int") = some true := kit_ty (by decide +kernel)
theorem kt_int_str {K : PySem.W.Frag} : PySem.W.kitOne K (.type "int") (.type "str") = some false := kit_ty (by decide +kernel)
theorem kt_int_list {K : PySem.W.Frag} : PySem.W.kitOne K (.type "int") (.type "list") = some false := kit_ty (by decide +kernel)
theorem kt_int_tuple {K : PySem.W.Frag} : PySem.W.kitOne K (.type "int") (.type "tuple") = some false := kit_ty (by decide +kernel)
theorem kt_str_bool {K : PySem.W.Frag} : PySem.W.kitOne K (.type "str") (.type "bool") = some false := kit_ty (by decide +kernel)
theorem kt_str_int {K : PySem.W.Frag} : PySem.W.kitOne K (.type "str") (.type "int") = some false := kit_ty (by decide +kernel)
theorem kt_str_str {K : PySem.W.Frag} : PySem.W.kitOne K (.type "str") (.type "str") = some true := kit_ty (by decide +kernel)
theorem kt_str_list {K : PySem.W.Frag} : PySem.W.kitOne K (.type "str") (.type "list") = some false := kit_ty (by decide +kernel)
theorem kt_str_tuple {K : PySem.W.Frag} : PySem.W.kitOne K (.type "str") (.type "tuple") = some false := kit_ty (by decide +kernel)
theorem kt_list_bool {K : PySem.W.Frag} : PySem.W.kitOne K (.type "list") (.type "bool") = some false := kit_ty (by decide +kernel)
theorem kt_list_int {K : PySem.W.Frag} : PySem.W.kitOne K (.type "list") (.type "int") = some false := kit_ty (by decide +kernel)
theorem kt_list_str {K : PySem.W.Frag} : PySem.W.kitOne K (.type "list") (.type "str") = some false := kit_ty (by decide +kernel)
theorem kt_list_list {K : PySem.W.Frag} : PySem.W.kitOne K (.type "list") (.type "list") = some true := kit_ty (by decide +kernel)
theorem kt_list_tuple {K : PySem.W.Frag} : PySem.W.kitOne K (.type "list") (.type "tuple") = some false := kit_ty (by decide +kernel)
theorem kt_tuple_bool {K : PySem.W.Frag} : PySem.W.kitOne K (.type "tuple") (.type "bool") = some false := kit_ty (by decide +kernel)
theorem kt_tuple_int {K : PySem.W.Frag} : PySem.W.kitOne K (.type "tuple") (.type "int") = some false := kit_ty (by decide +kernel)
theorem kt_tuple_str {K : PySem.W.Frag} : PySem.W.kitOne K (.type "tuple") (.type "str") = some false := kit_ty (by decide +kernel)
theorem kt_tuple_list {K : PySem.W.Frag} : PySem.W.kitOne K (.type "tuple") (.type "list") = some false := kit_ty (by decide +kernel)
theorem kt_tuple_tuple {K : PySem.W.Frag} : PySem.W.kitOne K (.type "tuple") (.type "tuple") = some true := kit_ty (by decide +kernel)
theorem kt_NoneType_bool {K : PySem.W.Frag} : PySem.W.kitOne K (.type "NoneType") (.type "bool") = some false := kit_ty (by decide +kernel)
theorem kt_NoneType_int {K : PySem.W.Frag} : PySem.W.kitOne K (.type "NoneType") (.type "int") = some false := kit_ty (by decide +kernel)
theorem kt_NoneType_str {K : PySem.W.Frag} : PySem.W.kitOne K (.type "NoneType") (.type "str") = some false := kit_ty (by decide +kernel)
theorem kt_NoneType_list {K : PySem.W.Frag} : PySem.W.kitOne K (.type "NoneType") (.type "list") = some false := kit_ty (by decide +kernel)
theorem kt_NoneType_tuple {K : PySem.W.Frag} : PySem.W.kitOne K (.type "NoneType") (.type "tuple") = some false := kit_ty (by decide +kernel)
end EP
namespace EP
open PySem PySem.Spec PyProof.Rows L2
mutual
theorem Dp_same {K : PySem.W.Frag} {H H' : Hp} (s : Same H H') : ∀ {v : V} {d : PyData}, Dp K H v d → Dp K H' v d
  | _, _, .non => .non
  | _, _, .bl b => .bl b
  | _, _, .int i => .int i
  | _, _, .str x => .str x
  | _, _, .lst h a => .lst (Evl.ex_l s h) (DpAll_same s a)
  | _, _, .tup h a => .tup (Evl.ex_t s h) (DpAll_same s a)
theorem DpAll_same {K : PySem.W.Frag} {H H' : Hp} (s : Same H H') : ∀ {v : List V} {d : List PyData}, DpAll K H v d → DpAll K H' v d
  | _, _, .nil => .nil
  | _, _, .cons h a => .cons (Dp_same s h) (DpAll_same s a)
end
theorem DpAll_len {K : PySem.W.Frag} {H : Hp} : ∀ {v : List V} {d : List PyData}, DpAll K H v d → v.length = d.length
  | _, _, .nil => rfl
  | _, _, .cons _ a => congrArg Nat.succ (DpAll_len a)
theorem DpAll_get {K : PySem.W.Frag} {H : Hp} : ∀ {v : List V} {ds : List PyData} {i : Nat} {x : V}, DpAll K H v ds → v[i]? = some x → ∃ d, ds[i]? = some d ∧ Dp K H x d
  | _, _, i, _, .nil, e => by simp at e
  | _, _, 0, _, .cons h a, e => ⟨_, rfl, by cases Option.some.inj e; exact h⟩
  | _, _, i + 1, _, .cons h a, e => DpAll_get (i := i) a e
theorem deps_get : ∀ {ds : List PyData} {i : Nat} {d : PyData}, ds[i]? = some d → dep d ≤ deps ds
  | [], i, _, e => by simp at e
  | x :: xs, 0, _, e => by cases Option.some.inj e; unfold deps; omega
  | x :: xs, i + 1, d, e => by have := deps_get (ds := xs) (i := i) e; unfold deps; omega
theorem all_true (n : Nat) : (List.replicate n true).all id = true := by
  induction n with
  | zero => rfl
  | succ n ih => rw [List.replicate_succ, List.all_cons, ih]; rfl
theorem walk_zipT {K : PySem.W.Frag} {a b : Addr} {xs ys : List V} {n : Nat} (hn : n = min xs.length ys.length) : Walk (RZ.ItzT K a b) n (fun H => SqT K H a xs ∧ SqT K H b ys) (YPair (fun i => xs[i]?) (fun i => ys[i]?)) := by
  subst hn
  refine ⟨fun i _ hi q => ?_, fun _ q => ⟨xs, ys, q.1, q.2, by omega⟩, fun i H v H' _ q y => ?_⟩
  · have h1 : i < xs.length := by omega
    have h2 : i < ys.length := by omega
    exact ⟨xs, ys, xs[i], ys[i], q.1, q.2, by simp [h1], by simp [h2]⟩
  · obtain ⟨T, x, z, h1, h2, h3, h4, h5⟩ := y
    exact ⟨T, x, z, h1, h2, h3, h4 xs q.1, h5 ys q.2⟩
end EP
namespace EP
open PySem PySem.Spec PyProof.Rows L2
theorem ty_list {K : PySem.W.Frag} {H : Hp} {a : Addr} {xs : List V} (h : SqL K H a xs) : TyX K H (.ref a) (.type "list") := by
  rcases h with (h | ⟨o, h⟩) | ⟨o, its, n, h1, h2, _⟩
  · exact .base (.lst h)
  · exact .base (.frz h)
  · exact .kList h1 h2
theorem ty_tuple {K : PySem.W.Frag} {H : Hp} {a : Addr} {xs : List V} (h : SqT K H a xs) : TyX K H (.ref a) (.type "tuple") := by
  rcases h with (h | ⟨o, h⟩) | ⟨o, its, n, h1, h2, _⟩
  · exact .base (.tup h)
  · exact .fTuple h
  · exact .kTuple h1 h2
end EP
namespace EP
open PySem PySem.Spec PyProof.Rows L2
theorem gcd_red {n d : Int} (h : d ≠ 0) : Int.gcd (rn n d) (rd n d) = 1 := by
  have hg := gcd_pos (n := n) h
  have h1 := congrArg Int.natAbs (rn_mul (n := n) (d := d))
  have h2 := congrArg Int.natAbs (rd_mul (n := n) (d := d))
  rw [Int.natAbs_mul, Int.natAbs_natCast] at h1 h2
  have h3 : (if d < 0 then -n else n).natAbs = n.natAbs := by split <;> omega
  rw [h3] at h1
  rw [Int.natAbs_natCast] at h2
  have h4 : Nat.gcd (rn n d).natAbs (rd n d).natAbs * Int.gcd n d = Int.gcd n d := by
    rw [← Nat.gcd_mul_right, h1, h2]; rfl
  have h5 : Nat.gcd (rn n d).natAbs (rd n d).natAbs * Int.gcd n d = 1 * Int.gcd n d := by rw [h4, Nat.one_mul]
  exact Nat.eq_of_mul_eq_mul_right hg h5
/-- a fraction in lowest terms, below 2 ^ n -/
structure Fq (K : PySem.W.Frag) (H : Hp) (n : Nat) (v : V) (a b : Int) : Prop where
  f : Fr K H v a b
  p : 0 < b
  ba : B n a
  bb : B n b
  g : Int.gcd a b = 1
theorem Fq.mo {K : PySem.W.Frag} {H H' : Hp} {r : Addr} {v : V} {a b : Int} {n : Nat} (h : Fq K H n v a b) (m : Mo r H H') : Fq K H' n v a b := ⟨h.f.mo m, h.p, h.ba, h.bb, h.g⟩
theorem Fq.same {K : PySem.W.Frag} {H H' : Hp} {v : V} {a b : Int} {n : Nat} (h : Fq K H n v a b) (m : Same H H') : Fq K H' n v a b := ⟨h.f.same m, h.p, h.ba, h.bb, h.g⟩
theorem Fq.mono {K : PySem.W.Frag} {H : Hp} {v : V} {a b : Int} {n m : Nat} (h : Fq K H n v a b) (l : n ≤ m := by decide) : Fq K H m v a b := ⟨h.f, h.p, h.ba.mono l, h.bb.mono l, h.g⟩
theorem Fq.red {K : PySem.W.Frag} {H : Hp} {v : V} {n d : Int} {k : Nat} (h : d ≠ 0) (f : Fr K H v (rn n d) (rd n d)) (bn : B k n) (bd : B k d) : Fq K H k v (rn n d) (rd n d) := ⟨f, rd_pos h, bn.rn h, bd.rd h, gcd_red h⟩
theorem Fq.lit {K : PySem.W.Frag} {H : Hp} {p : Addr} {a b : Int} {k : Nat} (h : H p = some (.tup [.int a, .int b])) (hb : 0 < b) (ba : B k a) (bb : B k b) (g : Int.gcd a b = 1) : Fq K H k (.ref p) a b := ⟨⟨p, rfl, .inl (.inl h)⟩, hb, ba, bb, g⟩
/-- a drawn fraction -/
def spDrawn (K : PySem.W.Frag) (n : Nat) : Sp := fun vs H Q _ => ∃ (r : Addr), vs = [.ref r] ∧ Rng H r ∧ ∀ v a b H', Mo r H H' → Fq K H' n v a b → Q v H'
/-- the same, positive -/
def spDrawnP (K : PySem.W.Frag) (n : Nat) : Sp := fun vs H Q _ => ∃ (r : Addr), vs = [.ref r] ∧ Rng H r ∧ ∀ v a b H', Mo r H H' → Fq K H' n v a b → 0 < a → Q v H'
theorem Rng.ne {H : Hp} {r l : Addr} (h : Rng H r) (n : H l = none) : l ≠ r := fun e => by
  obtain ⟨L, ns, i, c, s, h1, _⟩ := h
  subst e; rw [n] at h1; cases h1
theorem B.of {x : Int} {n : Nat} (h : x.natAbs < 2 ^ n) : B n x := h
end EP
namespace EP
theorem rn_pos {n d : Int} (hn : 0 < n) (hd : 0 < d) : 0 < rn n d := by
  have h1 := rn_rd (n := n) (d := d) (by omega)
  have h2 := rd_pos (n := n) (d := d) (by omega)
  have h3 : 0 < rn n d * d := by rw [h1]; exact Int.mul_pos hn h2
  exact Int.pos_of_mul_pos_left h3 hd
end EP
namespace EP
open PySem PySem.Spec PyProof.Rows L2
/-- fractions, one behind another -/
inductive Frs (K : PySem.W.Frag) (H : Hp) : List V → List (Int × Int) → Prop
  | nil : Frs K H [] []
  | cons {v : V} {a b : Int} {vs : List V} {qs : List (Int × Int)} : Fr K H v a b → 0 < b → Frs K H vs qs → Frs K H (v :: vs) ((a, b) :: qs)
theorem Frs.same {K : PySem.W.Frag} {H H' : Hp} (s : Same H H') : ∀ {vs : List V} {qs : List (Int × Int)}, Frs K H vs qs → Frs K H' vs qs
  | _, _, .nil => .nil
  | _, _, .cons f p r => .cons (f.same s) p (r.same s)
theorem Frs.mo {K : PySem.W.Frag} {H H' : Hp} {g : Addr} (s : Mo g H H') : ∀ {vs : List V} {qs : List (Int × Int)}, Frs K H vs qs → Frs K H' vs qs
  | _, _, .nil => .nil
  | _, _, .cons f p r => .cons (f.mo s) p (r.mo s)
theorem Frs.len {K : PySem.W.Frag} {H : Hp} : ∀ {vs : List V} {qs : List (Int × Int)}, Frs K H vs qs → vs.length = qs.length
  | _, _, .nil => rfl
  | _, _, .cons _ _ r => congrArg Nat.succ r.len
theorem Frs.pos {K : PySem.W.Frag} {H : Hp} : ∀ {vs : List V} {qs : List (Int × Int)}, Frs K H vs qs → ∀ q ∈ qs, 0 < q.2
  | _, _, .cons _ p r, q, h => by
    rcases List.mem_cons.mp h with e | e
    · rw [e]; exact p
    · exact r.pos q e
theorem Frs.get {K : PySem.W.Frag} {H : Hp} : ∀ {vs : List V} {qs : List (Int × Int)} {i : Nat} {v : V}, Frs K H vs qs → vs[i]? = some v → ∃ a b, qs[i]? = some (a, b) ∧ Fr K H v a b ∧ 0 < b
  | _, _, _, _, .nil, e => by simp at e
  | _, _, 0, _, .cons f p _, e => ⟨_, _, rfl, by cases Option.some.inj e; exact f, p⟩
  | _, _, i + 1, _, .cons _ _ r, e => Frs.get (i := i) r e
end EP
namespace EP
open PySem PySem.Spec PyProof.Rows L2
theorem sqt_mut {K : PySem.W.Frag} {H : Hp} {D a : Addr} {o : HO} {xs ys : List V} (hD : H D = some (.lst ys)) (h : SqT K H a xs) : SqT K (upd H D o) a xs := by
  rcases h with (h | ⟨u, h⟩) | h
  · refine .inl (.inl ?_)
    rw [upd_ne (fun e => by subst e; rw [hD] at h; cases h)]; exact h
  · refine .inl (.inr ⟨u, ?_⟩)
    rw [upd_ne (fun e => by subst e; rw [hD] at h; cases h)]; exact h
  · exact .inr h
theorem Fr.mut {K : PySem.W.Frag} {H : Hp} {D : Addr} {o : HO} {v : V} {a b : Int} {ys : List V} (h : Fr K H v a b) (hD : H D = some (.lst ys)) : Fr K (upd H D o) v a b := by
  obtain ⟨p, e, h⟩ := h
  exact ⟨p, e, sqt_mut hD h⟩
theorem Fq.mut {K : PySem.W.Frag} {H : Hp} {D : Addr} {o : HO} {v : V} {a b : Int} {n : Nat} {ys : List V} (h : Fq K H n v a b) (hD : H D = some (.lst ys)) : Fq K (upd H D o) n v a b := ⟨h.f.mut hD, h.p, h.ba, h.bb, h.g⟩
/-- drawn fractions, one behind another -/
inductive Fqs (K : PySem.W.Frag) (H : Hp) (n : Nat) : List V → List (Int × Int) → Prop
  | nil : Fqs K H n [] []
  | snoc {v : V} {a b : Int} {vs : List V} {qs : List (Int × Int)} : Fqs K H n vs qs → Fq K H n v a b → Fqs K H n (vs ++ [v]) (qs ++ [(a, b)])
theorem Fqs.mo {K : PySem.W.Frag} {H H' : Hp} {g : Addr} {n : Nat} (s : Mo g H H') : ∀ {vs : List V} {qs : List (Int × Int)}, Fqs K H n vs qs → Fqs K H' n vs qs
  | _, _, .nil => .nil
  | _, _, .snoc r f => .snoc (r.mo s) (f.mo s)
theorem Fqs.same {K : PySem.W.Frag} {H H' : Hp} {n : Nat} (s : Same H H') : ∀ {vs : List V} {qs : List (Int × Int)}, Fqs K H n vs qs → Fqs K H' n vs qs
  | _, _, .nil => .nil
  | _, _, .snoc r f => .snoc (r.same s) (f.same s)
theorem Fqs.mut {K : PySem.W.Frag} {H : Hp} {D : Addr} {o : HO} {n : Nat} {ys : List V} (hD : H D = some (.lst ys)) : ∀ {vs : List V} {qs : List (Int × Int)}, Fqs K H n vs qs → Fqs K (upd H D o) n vs qs
  | _, _, .nil => .nil
  | _, _, .snoc r f => .snoc (r.mut hD) (f.mut hD)
theorem Fqs.len {K : PySem.W.Frag} {H : Hp} {n : Nat} : ∀ {vs : List V} {qs : List (Int × Int)}, Fqs K H n vs qs → vs.length = qs.length
  | _, _, .nil => rfl
  | _, _, .snoc r _ => by rw [List.length_append, List.length_append, r.len]; rfl
theorem Frs.app {K : PySem.W.Frag} {H : Hp} {v : V} {a b : Int} (f : Fr K H v a b) (p : 0 < b) : ∀ {vs : List V} {qs : List (Int × Int)}, Frs K H vs qs → Frs K H (vs ++ [v]) (qs ++ [(a, b)])
  | _, _, .nil => .cons f p .nil
  | _, _, .cons g q r => .cons g q (r.app f p)
theorem Fqs.frs {K : PySem.W.Frag} {H : Hp} {n : Nat} : ∀ {vs : List V} {qs : List (Int × Int)}, Fqs K H n vs qs → Frs K H vs qs
  | _, _, .nil => .nil
  | _, _, .snoc r f => r.frs.app f.f f.p
theorem Fqs.bd {K : PySem.W.Frag} {H : Hp} {n : Nat} : ∀ {vs : List V} {qs : List (Int × Int)}, Fqs K H n vs qs → ∀ q ∈ qs, B n q.1 ∧ B n q.2 ∧ Int.gcd q.1 q.2 = 1
  | _, _, .nil, q, h => by cases h
  | _, _, .snoc r f, q, h => by
    rcases List.mem_append.mp h with e | e
    · exact r.bd q e
    · rw [List.mem_singleton.mp e]; exact ⟨f.ba, f.bb, f.g⟩
theorem Fqs.two {K : PySem.W.Frag} {H : Hp} {n : Nat} {vs : List V} {qs : List (Int × Int)} (h : Fqs K H n vs qs) (e : vs.length = 2) : ∃ v1 v2 a1 b1 a2 b2, vs = [v1, v2] ∧ Fq K H n v1 a1 b1 ∧ Fq K H n v2 a2 b2 := by
  cases h with
  | nil => cases e
  | @snoc v a b vs1 qs1 r f =>
    cases r with
    | nil => cases e
    | @snoc v' a' b' vs2 qs2 r2 f2 =>
      have : vs2 = [] := by cases vs2 with
        | nil => rfl
        | cons x xs => simp at e
      subst this
      exact ⟨v', v, a', b', a, b, rfl, f2, f⟩
end EP
namespace EP
theorem rd_one {n m : Int} (hm : m ≠ 0) (h : m ∣ n) : rd n m = 1 := by
  unfold rd
  have : Int.gcd n m = m.natAbs := by
    unfold Int.gcd
    exact Nat.gcd_eq_right (Int.natAbs_dvd_natAbs.mpr h)
  rw [this]
  exact Int.ediv_self (by omega)
end EP
namespace EP
/-! ### sums over the numbers below n -/
def Sm (f : Nat → Int) : Nat → Int
  | 0 => 0
  | n + 1 => Sm f n + f n
theorem Sm_congr {f g : Nat → Int} : ∀ {n : Nat}, (∀ k, k < n → f k = g k) → Sm f n = Sm g n
  | 0, _ => rfl
  | n + 1, h => by unfold Sm; rw [Sm_congr (n := n) fun k hk => h k (by omega), h n (by omega)]
theorem Sm_add {f g : Nat → Int} : ∀ n : Nat, Sm (fun k => f k + g k) n = Sm f n + Sm g n
  | 0 => rfl
  | n + 1 => by unfold Sm; rw [Sm_add n]; omega
theorem Sm_zero : ∀ n : Nat, Sm (fun _ => 0) n = 0
  | 0 => rfl
  | n + 1 => by unfold Sm; rw [Sm_zero n]; rfl
theorem Sm_split {f : Nat → Int} (n : Nat) : ∀ m : Nat, Sm f (n + m) = Sm f n + Sm (fun k => f (n + k)) m
  | 0 => by show Sm f n = Sm f n + 0; omega
  | m + 1 => by show Sm f (n + m) + f (n + m) = _; rw [Sm_split n m]; show _ = Sm f n + (Sm (fun k => f (n + k)) m + f (n + m)); omega
theorem Sm_first {f : Nat → Int} (n : Nat) : Sm f (n + 1) = f 0 + Sm (fun k => f (k + 1)) n := by
  rw [Nat.add_comm, Sm_split 1 n]
  have e : Sm (fun k => f (1 + k)) n = Sm (fun k => f (k + 1)) n := Sm_congr fun k _ => by rw [Nat.add_comm]
  rw [e]
  show 0 + f 0 + _ = _
  omega
theorem Sm_rev : ∀ (n : Nat) (f : Nat → Int), Sm (fun k => f (n - 1 - k)) n = Sm f n
  | 0, _ => rfl
  | n + 1, f => by
    rw [Sm_first]
    have e : Sm (fun k => f (n + 1 - 1 - (k + 1))) n = Sm (fun k => f (n - 1 - k)) n := Sm_congr fun k _ => by
      rw [show n + 1 - 1 - (k + 1) = n - 1 - k by omega]
    rw [e, Sm_rev n f]
    show f (n + 1 - 1 - 0) + Sm f n = Sm f n + f n
    rw [show n + 1 - 1 - 0 = n by omega]; omega
theorem Sm_swap (f : Nat → Nat → Int) (n : Nat) : ∀ m : Nat, Sm (fun k => Sm (fun j => f k j) m) n = Sm (fun j => Sm (fun k => f k j) n) m
  | 0 => Sm_zero n
  | m + 1 => by
    show Sm (fun k => Sm (fun j => f k j) m + f k m) n = Sm (fun j => Sm (fun k => f k j) n) m + Sm (fun k => f k m) n
    rw [Sm_add n, Sm_swap f n m]
/-! ### the sum of floors -/
def FS (n : Nat) (r b m : Int) : Int := Sm (fun k => (r * k + b) / m) n
theorem floor_congr {a b c d : Int} (hb : 0 < b) (hd : 0 < d) (h : a * d = c * b) : a / b = c / d := by
  have e1 : a / b = (a * d) / (b * d) := (Int.mul_ediv_mul_of_pos_left a b hd).symm
  have e2 : c / d = (c * b) / (d * b) := (Int.mul_ediv_mul_of_pos_left c d hb).symm
  rw [e1, e2, h, Int.mul_comm b d]
theorem FS_congr {n : Nat} {r b m r' b' m' : Int} (hm : 0 < m) (hm' : 0 < m') (h1 : r * m' = r' * m) (h2 : b * m' = b' * m) : FS n r b m = FS n r' b' m' :=
  Sm_congr fun k _ => floor_congr hm hm' (by rw [Int.add_mul, Int.add_mul, ← h2, Int.mul_right_comm, h1, Int.mul_right_comm])
theorem FS_split {n1 n2 : Nat} {r b m : Int} : FS (n1 + n2) r b m = FS n1 r b m + FS n2 r (b + n1 * r) m := by
  unfold FS
  rw [Sm_split]
  congr 1
  refine Sm_congr fun k _ => ?_
  congr 1
  have : ((n1 + k : Nat) : Int) = n1 + k := by omega
  rw [this]; grind
theorem FS_neg {n : Nat} {r b m : Int} (hm : 0 < m) : FS n (-r) (m - 1 - b) m + FS n r b m = 0 := by
  unfold FS
  rw [← Sm_add, ← Sm_zero n]
  refine Sm_congr fun k _ => ?_
  have e : -r * (k : Int) + (m - 1 - b) = -(r * k + b) + (m - 1) := by grind
  rw [e]
  generalize r * (k : Int) + b = x
  have h1 := Int.mul_ediv_add_emod x m
  have h2 := Int.emod_lt_of_pos x hm
  have h3 := Int.emod_nonneg x (show m ≠ 0 by omega)
  have h4 : (-x + (m - 1)) / m = -(x / m) := by
    have : -x + (m - 1) = (m - 1 - x % m) + m * (-(x / m)) := by rw [Int.mul_neg]; omega
    rw [this, Int.add_mul_ediv_left _ _ (show m ≠ 0 by omega), Int.ediv_eq_zero_of_lt (by omega) (by omega)]; omega
  omega
theorem FS_rev {n : Nat} {r b m : Int} : FS n (-r) (b + (n - 1) * r) m = FS n r b m := by
  unfold FS
  rw [← Sm_rev n]
  refine Sm_congr fun k hk => ?_
  congr 1
  have : ((n - 1 - k : Nat) : Int) = n - 1 - k := by omega
  rw [this]; grind
theorem tri {n : Nat} : (n : Int) * (n - 1) % 2 = 0 := by
  have : ∀ n : Nat, ∃ c : Int, (n : Int) * (n - 1) = 2 * c := by
    intro n
    induction n with
    | zero => exact ⟨0, rfl⟩
    | succ n ih =>
      obtain ⟨c, hc⟩ := ih
      refine ⟨c + n, ?_⟩
      have : ((n + 1 : Nat) : Int) = n + 1 := by omega
      rw [this]; grind
  obtain ⟨c, hc⟩ := this n
  rw [hc]; omega
theorem tri_succ {n : Nat} : ((n + 1 : Nat) : Int) * (((n + 1 : Nat) : Int) - 1) / 2 = (n : Int) * (n - 1) / 2 + n := by
  have h1 := tri (n := n)
  have e : ((n + 1 : Nat) : Int) = n + 1 := by omega
  have : ((n + 1 : Nat) : Int) * (((n + 1 : Nat) : Int) - 1) = n * (n - 1) + 2 * n := by rw [e]; grind
  rw [this]; omega
/-- whole numbers more in the slope and the offset -/
theorem FS_more {r b m : Int} {x y : Int} (hm : 0 < m) : ∀ n : Nat, FS n (r + x * m) (b + y * m) m = FS n r b m + x * ((n : Int) * (n - 1) / 2) + y * n
  | 0 => by
    show (0 : Int) = 0 + x * (((0 : Nat) : Int) * (((0 : Nat) : Int) - 1) / 2) + y * ((0 : Nat) : Int)
    simp
  | n + 1 => by
    have ih := FS_more (r := r) (b := b) (m := m) (x := x) (y := y) hm n
    unfold FS at *
    show Sm _ n + ((r + x * m) * (n : Int) + (b + y * m)) / m = Sm _ n + (r * (n : Int) + b) / m + _ + _
    rw [ih, tri_succ]
    have e : (r + x * m) * (n : Int) + (b + y * m) = (r * n + b) + m * (x * n + y) := by grind
    rw [e, Int.add_mul_ediv_left _ _ (show m ≠ 0 by omega)]
    have : ((n + 1 : Nat) : Int) = n + 1 := by omega
    rw [this]
    generalize (n : Int) * (n - 1) / 2 = t
    grind
/-! ### counting by rows instead of by columns -/
theorem cnt_le {m x : Int} (hm : 0 < m) (hx : 0 ≤ x) : ∀ y : Nat, Sm (fun i => if m * ((i : Int) + 1) ≤ x then 1 else 0) y = if x / m ≤ y then x / m else y
  | 0 => by
    have := Int.ediv_nonneg hx (Int.le_of_lt hm)
    show (0 : Int) = _
    split <;> omega
  | y + 1 => by
    show Sm _ y + (if m * ((y : Int) + 1) ≤ x then 1 else 0) = _
    rw [cnt_le hm hx y]
    have key : m * ((y : Int) + 1) ≤ x ↔ (y : Int) + 1 ≤ x / m := by
      rw [Int.le_ediv_iff_mul_le hm, Int.mul_comm]
    have : ((y + 1 : Nat) : Int) = y + 1 := by omega
    rw [this]
    by_cases h : m * ((y : Int) + 1) ≤ x
    · rw [if_pos h]; have := key.mp h
      rw [if_neg (by omega)]; split <;> omega
    · rw [if_neg h]; have : ¬ _ := fun z => h (key.mpr z)
      rw [if_pos (by omega), if_pos (by omega)]; omega
theorem cnt_ge {r c : Int} (hr : 0 < r) (hc : 0 < c) : ∀ n : Nat, Sm (fun k => if c ≤ r * (k : Int) then 1 else 0) n = if 0 ≤ (r * n - c) / r then (r * n - c) / r else 0
  | 0 => by
    have : (r * ((0 : Nat) : Int) - c) / r < 0 := Int.ediv_neg_of_neg_of_pos (by simp; omega) hr
    rw [if_neg (by omega)]; rfl
  | n + 1 => by
    show Sm _ n + (if c ≤ r * (n : Int) then 1 else 0) = _
    rw [cnt_ge hr hc n]
    have e : ((n + 1 : Nat) : Int) = n + 1 := by omega
    have e2 : (r * ((n + 1 : Nat) : Int) - c) / r = (r * n - c) / r + 1 := by
      rw [e, show r * ((n : Int) + 1) - c = (r * n - c) + r * 1 by grind, Int.add_mul_ediv_left _ _ (show r ≠ 0 by omega)]
    rw [e2]
    by_cases h : c ≤ r * (n : Int)
    · have := Int.ediv_nonneg (show 0 ≤ r * (n : Int) - c by omega) (Int.le_of_lt hr)
      rw [if_pos h, if_pos this, if_pos (by omega)]
    · have h1 : (r * (n : Int) - c) / r < 0 := Int.ediv_neg_of_neg_of_pos (by omega) hr
      rw [if_neg h, if_neg (by omega)]
      split <;> omega
theorem FS_flip {n : Nat} {r b m : Int} (hr : 0 < r) (hrm : r < m) (hb : 0 ≤ b) (hbm : b < m) :
    FS n r b m = FS ((r * n + b) / m).toNat m ((r * n + b) % m) r := by
  have hm : 0 < m := by omega
  have htop : 0 ≤ r * (n : Int) + b := by have := Int.mul_nonneg (Int.le_of_lt hr) (Int.natCast_nonneg n); omega
  have hy0 := Int.ediv_nonneg htop (Int.le_of_lt hm)
  obtain ⟨y, hy⟩ := Int.eq_ofNat_of_zero_le hy0
  have hdm := Int.mul_ediv_add_emod (r * (n : Int) + b) m
  have ht0 := Int.emod_nonneg (r * (n : Int) + b) (show m ≠ 0 by omega)
  rw [hy] at hdm ⊢
  generalize (r * (n : Int) + b) % m = t at *
  unfold FS
  have e1 : Sm (fun k => (r * (k : Int) + b) / m) n = Sm (fun k => Sm (fun i => if m * ((i : Int) + 1) ≤ r * k + b then 1 else 0) y) n := by
    refine Sm_congr fun k hk => ?_
    have h0 : 0 ≤ r * (k : Int) + b := by have := Int.mul_nonneg (Int.le_of_lt hr) (Int.natCast_nonneg k); omega
    rw [cnt_le hm h0 y, if_pos]
    have : r * (k : Int) + b ≤ r * (n : Int) + b := by
      have := Int.mul_le_mul_of_nonneg_left (show (k : Int) ≤ n by omega) (Int.le_of_lt hr); omega
    have := Int.ediv_le_ediv hm this
    rw [hy] at this; exact this
  rw [e1, Sm_swap, ← Sm_rev y]
  rw [show (y : Int).toNat = y from Int.toNat_natCast y]
  refine Sm_congr fun i hi => ?_
  have ei : ((y - 1 - i : Nat) : Int) = y - 1 - i := by omega
  have e2 : Sm (fun k => if m * (((y - 1 - i : Nat) : Int) + 1) ≤ r * (k : Int) + b then (1 : Int) else 0) n = Sm (fun k => if m * ((y : Int) - i) - b ≤ r * (k : Int) then 1 else 0) n := by
    refine Sm_congr fun k _ => ?_
    rw [ei, show ((y : Int) - 1 - i + 1) = y - i by omega]
    by_cases h : m * ((y : Int) - i) ≤ r * (k : Int) + b
    · rw [if_pos h, if_pos (by omega)]
    · rw [if_neg h, if_neg (by omega)]
  have hc : 0 < m * ((y : Int) - i) - b := by
    have : m * 1 ≤ m * ((y : Int) - i) := Int.mul_le_mul_of_nonneg_left (by omega) (Int.le_of_lt hm)
    omega
  rw [e2, cnt_ge hr hc n]
  have hdm' : m * (y : Int) + t = r * n + b := hdm
  have e3 : r * (n : Int) - (m * ((y : Int) - i) - b) = m * i + t := by
    rw [Int.mul_sub]; omega
  have e4 : 0 ≤ m * (i : Int) + t := by have := Int.mul_nonneg (Int.le_of_lt hm) (Int.natCast_nonneg i); omega
  rw [e3, if_pos (Int.ediv_nonneg e4 (Int.le_of_lt hr))]
end EP
namespace EP
theorem FS_small {n : Nat} {r b m : Int} (hr : 0 ≤ r) (hb : 0 ≤ b) (h : r * n + b < m) : FS n r b m = 0 := by
  unfold FS
  rw [← Sm_zero n]
  refine Sm_congr fun k hk => ?_
  have h1 := Int.mul_nonneg hr (Int.natCast_nonneg k)
  have h2 := Int.mul_le_mul_of_nonneg_left (show (k : Int) ≤ n by omega) hr
  exact Int.ediv_eq_zero_of_lt (by omega) (by omega)
/-- the least common multiple of the denominators, as it is reckoned -/
def lstep (r d : Int) : Int := r / (Int.gcd r d : Int) * d
def cden : List (Int × Int) → Int → Int
  | [], r => r
  | q :: qs, r => cden qs (lstep r q.2)
theorem gcd_posI {r d : Int} (h : 0 < d) : (0 : Int) < (Int.gcd r d : Int) := by have := gcd_pos (n := r) (d := d) (by omega); omega
theorem lstep_pos {r d : Int} (hr : 0 < r) (hd : 0 < d) : 0 < lstep r d := by
  unfold lstep
  have h1 : (Int.gcd r d : Int) ∣ r := Int.gcd_dvd_left ..
  have h2 : r / (Int.gcd r d : Int) * (Int.gcd r d : Int) = r := Int.ediv_mul_cancel h1
  refine Int.mul_pos ?_ hd
  refine Int.pos_of_mul_pos_left (b := (Int.gcd r d : Int)) ?_ (gcd_posI hd)
  rw [h2]; exact hr
theorem lstep_dvd_right {r d : Int} : d ∣ lstep r d := ⟨r / (Int.gcd r d : Int), by unfold lstep; rw [Int.mul_comm]⟩
theorem lstep_dvd_left {r d : Int} (hd : 0 < d) : r ∣ lstep r d := by
  obtain ⟨c, hc⟩ : (Int.gcd r d : Int) ∣ d := Int.gcd_dvd_right ..
  refine ⟨c, ?_⟩
  have h2 : r / (Int.gcd r d : Int) * (Int.gcd r d : Int) = r := Int.ediv_mul_cancel (Int.gcd_dvd_left ..)
  have e : lstep r d = r / (Int.gcd r d : Int) * (Int.gcd r d : Int) * c := by
    rw [Int.mul_assoc, ← hc]; rfl
  rw [e, h2]
theorem lstep_le {r d : Int} (hr : 0 < r) (hd : 0 < d) : (lstep r d).natAbs ≤ (r * d).natAbs := by
  unfold lstep
  rw [Int.natAbs_mul, Int.natAbs_mul]
  exact Nat.mul_le_mul_right _ (div_abs (gcd_posI hd))
theorem cden_pos : ∀ {qs : List (Int × Int)} {r : Int}, 0 < r → (∀ q ∈ qs, 0 < q.2) → 0 < cden qs r
  | [], _, h, _ => h
  | q :: qs, r, h, hq => cden_pos (qs := qs) (r := lstep r q.2) (lstep_pos h (hq q (List.mem_cons_self ..))) fun q' h' => hq q' (List.mem_cons_of_mem _ h')
theorem cden_dvd0 : ∀ {qs : List (Int × Int)} {r : Int}, (∀ q ∈ qs, 0 < q.2) → r ∣ cden qs r
  | [], r, _ => Int.dvd_refl r
  | q :: qs, r, hq => Int.dvd_trans (lstep_dvd_left (hq q (List.mem_cons_self ..))) (cden_dvd0 (qs := qs) fun q' h' => hq q' (List.mem_cons_of_mem _ h'))
theorem cden_dvd : ∀ {qs : List (Int × Int)} {r : Int}, (∀ q ∈ qs, 0 < q.2) → ∀ q ∈ qs, q.2 ∣ cden qs r
  | q :: qs, r, hq, q', h' => by
    have hq' : ∀ q ∈ qs, 0 < q.2 := fun q' h' => hq q' (List.mem_cons_of_mem _ h')
    rcases List.mem_cons.mp h' with e | e
    · rw [e]; exact Int.dvd_trans lstep_dvd_right (cden_dvd0 (qs := qs) hq')
    · exact cden_dvd (qs := qs) hq' q' e
end EP
namespace EP
open PySem PySem.Spec PyProof.Rows L2
theorem cden_take {qs : List (Int × Int)} {i : Nat} {q : Int × Int} : ∀ {r : Int}, qs[i]? = some q → cden (qs.take (i + 1)) r = lstep (cden (qs.take i) r) q.2 := by
  induction qs generalizing i with
  | nil => intro r h; simp at h
  | cons x xs ih =>
    intro r h
    cases i with
    | zero => cases Option.some.inj h; rfl
    | succ i => exact ih (i := i) h
def spCden (K : PySem.W.Frag) : Sp := fun vs H Q _ => ∃ (l : Addr) (xs : List V) (qs : List (Int × Int)) (k : Nat), vs = [.ref l] ∧ (SqL K H l xs ∨ SqT K H l xs) ∧ Frs K H xs qs ∧ (∀ q ∈ qs, B k q.2) ∧ 0 < k ∧ k * qs.length ≤ 8000 ∧ Q (.int (cden qs 1)) H
def spFloorSum (K : PySem.W.Frag) : Sp := fun vs H Q _ => ∃ (n : Nat) (x y : V) (a b c d : Int), vs = [.int n, x, y] ∧ Fr K H x a b ∧ Fr K H y c d ∧ 0 < b ∧ 0 < d ∧ B 1000 (n : Int) ∧ B 1000 a ∧ B 1000 b ∧ B 1000 c ∧ B 1000 d ∧
  ∀ z H', Same H H' → (∀ R b' M : Int, 0 < M → R * b = a * M → b' * d = c * M → z = FS n R b' M) → Q (.int z) H'
end EP
namespace EP
/-- a / b is x / M -/
def Rv (a b x M : Int) : Prop := a * M = x * b
theorem Rv.red {n d x M : Int} (hd : d ≠ 0) (h : n * M = x * d) : Rv (rn n d) (rd n d) x M := by
  have e := rn_rd (n := n) hd
  refine Int.eq_of_mul_eq_mul_right hd ?_
  have : rn n d * M * d = rn n d * d * M := by grind
  rw [this, e]
  have : n * rd n d * M = n * M * rd n d := by grind
  rw [this, h]; grind
theorem Rv.add {a b c d x y M : Int} (h1 : Rv a b x M) (h2 : Rv c d y M) : (a * d + c * b) * M = (x + y) * (b * d) := by
  unfold Rv at *
  have : (a * d + c * b) * M = a * M * d + c * M * b := by grind
  rw [this, h1, h2]; grind
theorem Rv.sub {a b c d x y M : Int} (h1 : Rv a b x M) (h2 : Rv c d y M) : (a * d - c * b) * M = (x - y) * (b * d) := by
  unfold Rv at *
  have : (a * d - c * b) * M = a * M * d - c * M * b := by grind
  rw [this, h1, h2]; grind
theorem Rv.times {n a b x M : Int} (h1 : Rv a b x M) : (n * a) * M = (n * x) * b := by
  unfold Rv at *
  rw [Int.mul_assoc, h1]; grind
theorem Rv.floor {a b x M : Int} (hb : 0 < b) (hM : 0 < M) (h : Rv a b x M) : a / b = x / M := floor_congr hb hM h
theorem Rv.fs {a b x M : Int} (h : Rv a b x M) : x * b = a * M := h.symm
end EP
namespace EP
open PySem PySem.Spec PyProof.Rows L2
theorem Sm_sum (f : Nat → Int) : ∀ n : Nat, ((List.range n).map f).sum = Sm f n
  | 0 => rfl
  | n + 1 => by
    rw [List.range_succ, List.map_append, List.sum_append, Sm_sum f n]
    simp [Sm]
end EP
namespace EP
/-! ### Bezout -/
theorem bz_dec {a b : Int} (h : ¬ b ≤ 0) : (a - a / b * b).toNat < b.toNat := by
  have e : a - a / b * b = a % b := by have := Int.mul_ediv_add_emod a b; rw [Int.mul_comm (a / b)]; omega
  rw [e]
  have := Int.emod_lt_of_pos a (show 0 < b by omega)
  omega
def bezR (a b u lu w lw : Int) : Int × Int × Int :=
  if h : b ≤ 0 then (a, u, w) else bezR b (a - a / b * b) lu (u - a / b * lu) lw (w - a / b * lw)
termination_by b.toNat
decreasing_by exact bz_dec h
theorem bezR_stop {a u lu w lw : Int} : bezR a 0 u lu w lw = (a, u, w) := by rw [bezR]; simp
theorem bezR_step {a b u lu w lw : Int} (h : 0 < b) : bezR a b u lu w lw = bezR b (a - a / b * b) lu (u - a / b * lu) lw (w - a / b * lw) := by
  rw [bezR]; rw [dif_neg (by omega)]
def SgnI (x lx a b c : Int) : Prop := (0 ≤ x ∧ lx ≤ 0 ∧ x * b - lx * a = c) ∨ (x ≤ 0 ∧ 0 ≤ lx ∧ lx * a - x * b = c)
theorem SgnI.step {x lx a b c : Int} (hb : 0 < b) (ha : 0 ≤ a) (h : SgnI x lx a b c) : SgnI lx (x - a / b * lx) b (a - a / b * b) c := by
  have hq := Int.ediv_nonneg ha (Int.le_of_lt hb)
  generalize a / b = q at *
  rcases h with ⟨h1, h2, h3⟩ | ⟨h1, h2, h3⟩
  · right
    have := Int.mul_nonneg hq (show 0 ≤ -lx by omega)
    have e : q * -lx = -(q * lx) := by grind
    refine ⟨h2, by omega, by grind⟩
  · left
    have := Int.mul_nonneg hq h2
    exact ⟨h2, by omega, by grind⟩
theorem abs_le_of {x y c : Int} (hy : 0 < y) (h : (x * y).natAbs ≤ c.natAbs) : x.natAbs ≤ c.natAbs := by
  rw [Int.natAbs_mul] at h
  exact Nat.le_trans (Nat.le_mul_of_pos_right _ (by omega)) h
theorem SgnI.low {x lx a b c : Int} (hb : 0 ≤ b) (ha : 0 < a) (hc : 0 ≤ c) (h : SgnI x lx a b c) : lx.natAbs ≤ c.natAbs := by
  refine abs_le_of ha ?_
  rcases h with ⟨h1, h2, h3⟩ | ⟨h1, h2, h3⟩
  · have := Int.mul_nonneg h1 hb
    have := Int.mul_nonneg (show 0 ≤ -lx by omega) (Int.le_of_lt ha)
    rw [Int.neg_mul] at this; omega
  · have := Int.mul_nonneg (show 0 ≤ -x by omega) hb
    have := Int.mul_nonneg h2 (Int.le_of_lt ha)
    have e : -x * b = -(x * b) := by grind
    omega
structure BzI (a0 b0 a b u lu w lw : Int) : Prop where
  ha : 0 ≤ a
  hb : 0 ≤ b
  g : Int.gcd a b = Int.gcd a0 b0
  e1 : a = u * a0 + w * b0
  e2 : b = lu * a0 + lw * b0
  s1 : SgnI u lu a b b0
  s2 : SgnI w lw a b a0
  bu : u.natAbs ≤ b0.natAbs + 1
  blu : lu.natAbs ≤ b0.natAbs + 1
  bw : w.natAbs ≤ a0.natAbs + 1
  blw : lw.natAbs ≤ a0.natAbs + 1
theorem BzI.start {a b : Int} (ha : 0 ≤ a) (hb : 0 ≤ b) : BzI a b a b 1 0 0 1 :=
  ⟨ha, hb, rfl, by omega, by omega, .inl ⟨by omega, by omega, by omega⟩, .inr ⟨by omega, by omega, by omega⟩, by omega, by omega, by omega, by omega⟩
theorem BzI.next {a0 b0 a b u lu w lw : Int} (h0 : 0 ≤ a0) (h1 : 0 ≤ b0) (hb : 0 < b) (h : BzI a0 b0 a b u lu w lw) : BzI a0 b0 b (a - a / b * b) lu (u - a / b * lu) lw (w - a / b * lw) := by
  have e : a - a / b * b = a % b := by have := Int.mul_ediv_add_emod a b; rw [Int.mul_comm (a / b)]; omega
  have hm := Int.emod_nonneg a (show b ≠ 0 by omega)
  have t1 := h.s1.step hb h.ha
  have t2 := h.s2.step hb h.ha
  refine ⟨h.hb, by omega, ?_, h.e2, ?_, t1, t2, h.blu, ?_, h.blw, ?_⟩
  · rw [e, gcd_step h.ha hb, h.g]
  · have e1 := h.e1; have e2 := h.e2
    generalize a / b = q at *
    grind
  · have := t1.low (by omega) hb h1; omega
  · have := t2.low (by omega) hb h0; omega
def bz (a b : Int) : Int × Int × Int := bezR a b 1 0 0 1
theorem bezR_spec {a0 b0 : Int} (h0 : 0 ≤ a0) (h1 : 0 ≤ b0) : ∀ (n : Nat) {a b u lu w lw : Int}, b.toNat = n → BzI a0 b0 a b u lu w lw →
    (bezR a b u lu w lw).1 = (Int.gcd a0 b0 : Int) ∧ (bezR a b u lu w lw).1 = (bezR a b u lu w lw).2.1 * a0 + (bezR a b u lu w lw).2.2 * b0 ∧ (bezR a b u lu w lw).2.1.natAbs ≤ b0.natAbs + 1 ∧ (bezR a b u lu w lw).2.2.natAbs ≤ a0.natAbs + 1 := by
  intro n
  induction n using Nat.strongRecOn with
  | ind n ih =>
    intro a b u lu w lw hn I
    by_cases hb : b = 0
    · subst hb
      rw [bezR_stop]
      refine ⟨?_, I.e1, I.bu, I.bw⟩
      have := I.g
      rw [← this]
      have ha := I.ha
      show a = (Int.gcd a 0 : Int)
      rw [Int.gcd_zero_right]; omega
    · have hb' : 0 < b := by have := I.hb; omega
      rw [bezR_step hb']
      have hlt := bz_dec (a := a) (b := b) (by omega)
      exact ih _ (by omega) rfl (I.next h0 h1 hb')
theorem bz_spec {a b : Int} (ha : 0 ≤ a) (hb : 0 ≤ b) : (bz a b).1 = (Int.gcd a b : Int) ∧ (bz a b).1 = (bz a b).2.1 * a + (bz a b).2.2 * b ∧ (bz a b).2.1.natAbs ≤ b.natAbs + 1 ∧ (bz a b).2.2.natAbs ≤ a.natAbs + 1 :=
  bezR_spec ha hb _ rfl (BzI.start ha hb)
/-! ### products of rows -/
def dot : List Int → List Int → Int
  | x :: xs, y :: ys => x * y + dot xs ys
  | _, _ => 0
theorem dot_map {m u : Int} (S : List Int) : ∀ row : List Int, ∃ c, dot (row.map fun e => u * e % m) S = u * dot row S + m * c := by
  induction S with
  | nil => intro row; cases row <;> exact ⟨0, by simp [dot]⟩
  | cons y ys ih =>
    intro row
    cases row with
    | nil => exact ⟨0, by simp [dot]⟩
    | cons x xs =>
      obtain ⟨c, hc⟩ := ih xs
      refine ⟨c - u * x / m * y, ?_⟩
      show u * x % m * y + dot (xs.map fun e => u * e % m) ys = u * (x * y + dot xs ys) + _
      have h := Int.mul_ediv_add_emod (u * x) m
      rw [hc]
      generalize u * x / m = q at *
      generalize u * x % m = t at *
      have : t = u * x - m * q := by omega
      rw [this]; grind
theorem dot_set {x s : Int} : ∀ {row S : List Int} {i : Nat}, row[i]? = some 0 → S[i]? = some s → dot (row.set i x) S = dot row S + x * s
  | [], _, _, h, _ => by simp at h
  | _ :: _, [], _, _, h => by simp at h
  | y :: ys, z :: zs, 0, h1, h2 => by
    have e1 : y = 0 := Option.some.inj h1
    have e2 : z = s := Option.some.inj h2
    rw [e1, e2]
    show x * s + dot ys zs = 0 * s + dot ys zs + x * s
    omega
  | y :: ys, z :: zs, i + 1, h1, h2 => by
    have := dot_set (x := x) (s := s) (row := ys) (S := zs) (i := i) h1 h2
    show y * z + dot (ys.set i x) zs = y * z + dot ys zs + x * s
    omega
theorem dot_zero (S : List Int) : ∀ n : Nat, dot (List.replicate n 0) S = 0 := by
  induction S with
  | nil => intro n; cases n <;> rfl
  | cons y ys ih =>
    intro n
    cases n with
    | zero => rfl
    | succ n => show 0 * y + dot (List.replicate n 0) ys = 0; rw [ih n]; omega
theorem dot_congr {m : Int} : ∀ {row A S : List Int}, A.length = S.length → (∀ (i : Nat) (a s : Int), A[i]? = some a → S[i]? = some s → s = a % m) → ∃ c, dot row A = dot row S + m * c
  | [], A, S, _, _ => ⟨0, by cases A <;> cases S <;> simp [dot]⟩
  | x :: xs, [], S, h, _ => ⟨0, by cases S with | nil => simp [dot] | cons a b => simp at h⟩
  | x :: xs, a :: A, [], h, _ => by simp at h
  | x :: xs, a :: A, s :: S, h, g => by
    obtain ⟨c, hc⟩ := dot_congr (row := xs) (A := A) (S := S) (by simpa using h) (fun i a' s' h1 h2 => g (i + 1) a' s' h1 h2)
    have e := g 0 a s rfl rfl
    refine ⟨c + x * (a / m), ?_⟩
    show x * a + dot xs A = x * s + dot xs S + _
    have h := Int.mul_ediv_add_emod a m
    rw [hc]
    generalize a / m = q at *
    have : a = m * q + s := by omega
    rw [this]; grind
/-! ### the reach -/
def nrow (m D s : Int) (at' : Nat) (row : List Int) : List Int := (row.map fun e => (bz D s).2.1 * e % m).set at' ((bz D s).2.2 % m)
def reach (m : Int) : List Int → Nat → Int → List Int → Int × List Int
  | [], _, D, row => (D, row)
  | s :: ss, i, D, row => reach m ss (i + 1) (bz D s).1 (nrow m D s i row)
structure RcI (m : Int) (S : List Int) (i : Nat) (D : Int) (row : List Int) : Prop where
  len : row.length = S.length
  hD : 0 ≤ D
  zero : ∀ j, i ≤ j → j < S.length → row[j]? = some 0
  fit : ∃ c, dot row S = D + m * c
  bnd : ∀ e ∈ row, 0 ≤ e ∧ e < m
theorem RcI.start {m : Int} {S : List Int} (hm : 0 < m) : RcI m S 0 m (List.replicate S.length 0) := by
  refine ⟨List.length_replicate, by omega, fun j _ hj => by rw [List.getElem?_replicate]; simp [hj], ⟨-1, ?_⟩, fun e he => ?_⟩
  · rw [dot_zero]; omega
  · have := List.eq_of_mem_replicate he; omega
theorem RcI.next {m : Int} {S : List Int} {i : Nat} {D s : Int} {row : List Int} (hm : 0 < m) (h : RcI m S i D row) (hs : S[i]? = some s) (hs0 : 0 ≤ s) : RcI m S (i + 1) (bz D s).1 (nrow m D s i row) := by
  have hi : i < S.length := (List.getElem?_eq_some_iff.mp hs).1
  obtain ⟨z1, z2, _, _⟩ := bz_spec h.hD hs0
  refine ⟨?_, by omega, fun j h1 h2 => ?_, ?_, fun e he => ?_⟩
  · unfold nrow; rw [List.length_set, List.length_map]; exact h.len
  · unfold nrow
    rw [List.getElem?_set_ne (by omega), List.getElem?_map, h.zero j (by omega) h2]
    show some ((bz D s).2.1 * 0 % m) = some 0
    rw [Int.mul_zero, Int.zero_emod]
  · unfold nrow
    have hz : (row.map fun e => (bz D s).2.1 * e % m)[i]? = some 0 := by
      rw [List.getElem?_map, h.zero i (Nat.le_refl _) hi]
      show some ((bz D s).2.1 * 0 % m) = some 0
      rw [Int.mul_zero, Int.zero_emod]
    rw [dot_set hz hs]
    obtain ⟨c1, e1⟩ := dot_map (m := m) (u := (bz D s).2.1) S row
    obtain ⟨c2, e2⟩ := h.fit
    rw [e1, e2, z2]
    have hw := Int.mul_ediv_add_emod (bz D s).2.2 m
    generalize (bz D s).2.1 = u at *
    generalize (bz D s).2.2 = w at *
    refine ⟨u * c2 + c1 - w / m * s, ?_⟩
    generalize w / m = q at *
    generalize w % m = t at *
    have : t = w - m * q := by omega
    rw [this]; grind
  · unfold nrow at he
    have key : ∀ x : Int, 0 ≤ x % m ∧ x % m < m := fun x => ⟨Int.emod_nonneg _ (by omega), Int.emod_lt_of_pos _ hm⟩
    rcases List.mem_or_eq_of_mem_set he with he | he
    · obtain ⟨y, _, rfl⟩ := List.mem_map.mp he; exact key _
    · rw [he]; exact key _
/-- the greatest common divisor of m and what is given -/
def gcds : Int → List Int → Int
  | D, [] => D
  | D, s :: ss => gcds (Int.gcd D s : Int) ss
theorem reach_spec {m : Int} (hm : 0 < m) {S : List Int} : ∀ {ss pre : List Int} {D : Int} {row : List Int}, S = pre ++ ss → (∀ s ∈ S, 0 ≤ s) → RcI m S pre.length D row →
    RcI m S S.length (reach m ss pre.length D row).1 (reach m ss pre.length D row).2 ∧ (reach m ss pre.length D row).1 = gcds D ss
  | [], pre, D, row, e, _, h => by
    rw [List.append_nil] at e; rw [e]; rw [e] at h; exact ⟨h, rfl⟩
  | s :: ss, pre, D, row, e, hS, h => by
    have hs : S[pre.length]? = some s := by rw [e, List.getElem?_append_right (Nat.le_refl _)]; simp
    have hs0 : 0 ≤ s := hS s (by rw [e]; simp)
    have n := h.next hm hs hs0
    have z := (bz_spec h.hD hs0).1
    have r := reach_spec (ss := ss) (pre := pre ++ [s]) hm (by rw [e]; simp) hS (by rw [List.length_append]; exact n)
    rw [List.length_append] at r
    show RcI m S S.length (reach m ss (pre.length + 1) (bz D s).1 (nrow m D s pre.length row)).1 (reach m ss (pre.length + 1) (bz D s).1 (nrow m D s pre.length row)).2 ∧ (reach m ss (pre.length + 1) (bz D s).1 (nrow m D s pre.length row)).1 = gcds (Int.gcd D s : Int) ss
    rw [← z]; exact r
end EP
namespace EP
theorem cden_snoc {q : Int × Int} : ∀ {qs : List (Int × Int)} {r : Int}, cden (qs ++ [q]) r = lstep (cden qs r) q.2
  | [], _ => rfl
  | _ :: qs, _ => cden_snoc (qs := qs)
/-- what divides c m and each c a (m / b) divides c -/
theorem reach_one : ∀ (n : Nat) (qs : List (Int × Int)), qs.length = n → (∀ q ∈ qs, 0 < q.2 ∧ Int.gcd q.1 q.2 = 1) → ∀ g c : Int, g ∣ c * cden qs 1 → (∀ q ∈ qs, g ∣ c * (q.1 * (cden qs 1 / q.2))) → g ∣ c := by
  intro n
  induction n with
  | zero =>
    intro qs hn _ g c h _
    have : qs = [] := List.length_eq_zero_iff.mp hn
    subst this
    rw [show cden [] 1 = 1 from rfl, Int.mul_one] at h
    exact h
  | succ n ih =>
    intro qs hn hq g c h hj
    obtain ⟨ps, q, rfl⟩ : ∃ ps q, qs = ps ++ [q] := by
      rcases List.eq_nil_or_concat qs with e | ⟨ps, q, e⟩
      · rw [e] at hn; simp at hn
      · exact ⟨ps, q, by rw [e]; simp⟩
    obtain ⟨a, b⟩ := q
    have hb := hq (a, b) (by simp)
    have hb1 : 0 < b := hb.1
    have hps : ∀ q ∈ ps, 0 < q.2 ∧ Int.gcd q.1 q.2 = 1 := fun q h => hq q (List.mem_append_left _ h)
    have hM := cden_pos (qs := ps) (r := 1) (by decide) (fun q h => (hps q h).1)
    rw [cden_snoc] at h hj
    have hdv := cden_dvd (qs := ps) (r := 1) (fun q h => (hps q h).1)
    have hlen : ps.length = n := by simpa using hn
    have ih' := ih ps hlen hps
    generalize cden ps 1 = M at *
    dsimp only at h hj
    have e1 := rn_mul (n := M) (d := b)
    have e2 := rd_mul (n := M) (d := b)
    rw [if_neg (by omega)] at e1
    rw [show (b.natAbs : Int) = b by omega] at e2
    have cop := gcd_red (n := M) (d := b) (by omega)
    have hgp := gcd_posI (r := M) hb1
    have hdiv : M / (Int.gcd M b : Int) = rn M b := by unfold rn; rw [if_neg (by omega)]
    have el : lstep M b = rn M b * b := by unfold lstep; rw [hdiv]
    generalize rn M b = e at *
    generalize rd M b = cc at *
    generalize (Int.gcd M b : Int) = d at *
    have el2 : lstep M b = M * cc := by rw [el, ← e1, ← e2]; grind
    have hc : g ∣ c * cc := by
      refine ih' g (c * cc) ?_ fun q hqm => ?_
      · have : c * cc * M = c * lstep M b := by rw [el2]; grind
        rw [this]; exact h
      · have hqp := (hps q hqm).1
        obtain ⟨k, hk⟩ := hdv q hqm
        have t := hj q (List.mem_append_left _ hqm)
        have d1 : M / q.2 = k := by rw [hk]; exact Int.mul_ediv_cancel_left _ (by omega)
        have d2 : lstep M b / q.2 = k * cc := by rw [el2, hk, Int.mul_assoc]; exact Int.mul_ediv_cancel_left _ (by omega)
        rw [d2] at t
        rw [d1]
        have : c * cc * (q.1 * k) = c * (q.1 * (k * cc)) := by grind
        rw [this]; exact t
    have ha : g ∣ c * (a * e) := by
      have t := hj (a, b) (by simp)
      have d2 : lstep M b / b = e := by rw [el]; exact Int.mul_ediv_cancel _ (by omega)
      dsimp only at t
      rw [d2] at t; exact t
    have g1 : Int.gcd cc (a * e) = 1 := by
      have h1 : Nat.Coprime cc.natAbs a.natAbs := by
        have : Nat.Coprime a.natAbs b.natAbs := hb.2
        refine (Nat.Coprime.coprime_dvd_right ?_ this).symm
        rw [← e2]; exact Int.natAbs_dvd_natAbs.mpr ⟨d, rfl⟩
      have h2 : Nat.Coprime cc.natAbs e.natAbs := Nat.Coprime.symm cop
      have := Nat.Coprime.mul_right h1 h2
      unfold Int.gcd
      rw [Int.natAbs_mul]; exact this
    have fin := Int.dvd_coe_gcd hc ha
    rw [Int.gcd_mul_left, g1, Nat.mul_one] at fin
    exact Int.dvd_natAbs.mp fin
theorem gcds_dvd : ∀ {S : List Int} {D : Int}, gcds D S ∣ D ∧ ∀ s ∈ S, gcds D S ∣ s
  | [], D => ⟨Int.dvd_refl D, fun s h => by cases h⟩
  | s :: ss, D => by
    obtain ⟨h1, h2⟩ := gcds_dvd (S := ss) (D := (Int.gcd D s : Int))
    refine ⟨Int.dvd_trans h1 (Int.gcd_dvd_left ..), fun x hx => ?_⟩
    rcases List.mem_cons.mp hx with e | e
    · rw [e]; exact Int.dvd_trans h1 (Int.gcd_dvd_right ..)
    · exact h2 x e
theorem gcds_nonneg : ∀ {S : List Int} {D : Int}, 0 ≤ D → 0 ≤ gcds D S
  | [], _, h => h
  | s :: ss, D, _ => gcds_nonneg (S := ss) (D := (Int.gcd D s : Int)) (by omega)
/-- the scaled values -/
def scl (qs : List (Int × Int)) (m : Int) : List Int := qs.map fun q => q.1 * (m / q.2) % m
theorem gcds_one {qs : List (Int × Int)} (hq : ∀ q ∈ qs, 0 < q.2 ∧ Int.gcd q.1 q.2 = 1) : gcds (cden qs 1) (scl qs (cden qs 1)) = 1 := by
  have hm := cden_pos (qs := qs) (r := 1) (by decide) (fun q h => (hq q h).1)
  obtain ⟨h1, h2⟩ := gcds_dvd (S := scl qs (cden qs 1)) (D := cden qs 1)
  have h3 := gcds_nonneg (S := scl qs (cden qs 1)) (D := cden qs 1) (by omega)
  have : gcds (cden qs 1) (scl qs (cden qs 1)) ∣ 1 := by
    refine reach_one _ qs rfl hq _ 1 (by rw [Int.one_mul]; exact h1) fun q h => ?_
    rw [Int.one_mul]
    have t := h2 _ (List.mem_map.mpr ⟨q, h, rfl⟩)
    have e := Int.mul_ediv_add_emod (q.1 * (cden qs 1 / q.2)) (cden qs 1)
    rw [← e]
    exact Int.dvd_add (Int.dvd_trans h1 ⟨_, rfl⟩) t
  exact Int.eq_one_of_dvd_one h3 this
/-- the program's answer -/
def sol (qs : List (Int × Int)) (t : Int × Int) : Option (List Int) :=
  if cden qs 1 % t.2 = 0 then some ((reach (cden qs 1) (scl qs (cden qs 1)) 0 (cden qs 1) (List.replicate qs.length 0)).2.map fun e => e * (t.1 * (cden qs 1 / t.2)) % cden qs 1) else none
theorem dot_scale {m T : Int} (S : List Int) : ∀ row : List Int, ∃ c, dot (row.map fun e => e * T % m) S = T * dot row S + m * c := by
  intro row
  obtain ⟨c, h⟩ := dot_map (m := m) (u := T) S row
  refine ⟨c, ?_⟩
  rw [← h]
  congr 1
  exact List.map_congr_left fun e _ => by rw [Int.mul_comm]
theorem sol_fit {qs : List (Int × Int)} {t : Int × Int} {row : List Int} (hq : ∀ q ∈ qs, 0 < q.2 ∧ Int.gcd q.1 q.2 = 1) (h : sol qs t = some row) :
    row.length = qs.length ∧ (∀ e ∈ row, 0 ≤ e ∧ e < cden qs 1) ∧ ∃ c, dot row (qs.map fun q => q.1 * (cden qs 1 / q.2)) = t.1 * (cden qs 1 / t.2) + cden qs 1 * c := by
  have hm := cden_pos (qs := qs) (r := 1) (by decide) (fun q h => (hq q h).1)
  have g1 := gcds_one hq
  unfold sol at h
  split at h
  · cases h
    generalize cden qs 1 = m at *
    have hS : ∀ s ∈ scl qs m, 0 ≤ s := fun s hs => by
      obtain ⟨q, _, rfl⟩ := List.mem_map.mp hs
      exact Int.emod_nonneg _ (by omega)
    have hl : (scl qs m).length = qs.length := by unfold scl; rw [List.length_map]
    have st := RcI.start (S := scl qs m) hm
    rw [hl] at st
    obtain ⟨I, e⟩ := reach_spec (S := scl qs m) (ss := scl qs m) (pre := []) hm rfl hS st
    have I : RcI m (scl qs m) (scl qs m).length (reach m (scl qs m) 0 m (List.replicate qs.length 0)).1 (reach m (scl qs m) 0 m (List.replicate qs.length 0)).2 := I
    have e : (reach m (scl qs m) 0 m (List.replicate qs.length 0)).1 = gcds m (scl qs m) := e
    rw [g1] at e
    generalize reach m (scl qs m) 0 m (List.replicate qs.length 0) = R at *
    obtain ⟨c0, f0⟩ := I.fit
    rw [e] at f0
    obtain ⟨c1, f1⟩ := dot_scale (m := m) (T := t.1 * (m / t.2)) (scl qs m) R.2
    obtain ⟨c2, f2⟩ := dot_congr (m := m) (row := R.2.map fun e => e * (t.1 * (m / t.2)) % m) (A := qs.map fun q => q.1 * (m / q.2)) (S := scl qs m) (by rw [hl, List.length_map]) (fun i a s ha hs => by
      unfold scl at hs
      rw [List.getElem?_map] at ha hs
      cases hq : qs[i]? with
      | none => rw [hq] at ha; cases ha
      | some q =>
        rw [hq] at ha hs
        have ea : q.1 * (m / q.2) = a := Option.some.inj ha
        have es : q.1 * (m / q.2) % m = s := Option.some.inj hs
        rw [← ea, ← es])
    refine ⟨by rw [List.length_map, I.len, hl], fun x hx => ?_, (t.1 * (m / t.2)) * c0 + c1 + c2, ?_⟩
    · obtain ⟨y, _, rfl⟩ := List.mem_map.mp hx
      exact ⟨Int.emod_nonneg _ (by omega), Int.emod_lt_of_pos _ hm⟩
    · rw [f2, f1, f0]; grind
  · cases h
end EP
namespace EP
open PySem PySem.Spec PyProof.Rows L2
def spBez (K : PySem.W.Frag) : Sp := fun vs H Q _ => ∃ a b : Int, vs = [.int a, .int b] ∧ 0 ≤ a ∧ 0 ≤ b ∧ B 4000 a ∧ B 4000 b ∧ ∀ p H', Same H H' → H' p = some (.tup [.int (bz a b).1, .int (bz a b).2.1, .int (bz a b).2.2]) → Q (.ref p) H'
def Seq (K : PySem.W.Frag) (H : Hp) (l : Addr) (xs : List V) : Prop := SqL K H l xs ∨ SqT K H l xs
theorem Seq.same {K : PySem.W.Frag} {H H' : Hp} {l : Addr} {xs : List V} (h : Seq K H l xs) (s : Same H H') : Seq K H' l xs := h.elim (fun h => .inl (Evl.ex_l s h)) (fun h => .inr (Evl.ex_t s h))
def spScaled (K : PySem.W.Frag) : Sp := fun vs H Q _ => ∃ (l : Addr) (m : Int) (xs : List V) (qs : List (Int × Int)), vs = [.ref l, .int m] ∧ Seq K H l xs ∧ Frs K H xs qs ∧ 0 < m ∧ B 4000 m ∧ (∀ q ∈ qs, B 4000 q.1 ∧ B 4000 q.2) ∧ xs.length < 1000 ∧ ∀ p H', Same H H' → H' p = some (.lst ((scl qs m).map V.int)) → Q (.ref p) H'
def spFirst (K : PySem.W.Frag) : Sp := fun vs H Q _ => ∃ (l : Addr) (m : Int) (xs : List V), vs = [.ref l, .int m] ∧ Seq K H l xs ∧ xs.length < 1000 ∧ ∀ p rl H', Same H H' → H' p = some (.tup [.int m, .ref rl]) → H' rl = some (.lst ((List.replicate xs.length (0 : Int)).map V.int)) → Q (.ref p) H'
def spNext (K : PySem.W.Frag) : Sp := fun vs H Q _ => ∃ (p : Addr) (i : Nat) (s m D : Int) (rl : Addr) (row : List Int), vs = [.ref p, .int i, .int s, .int m] ∧ H p = some (.tup [.int D, .ref rl]) ∧ H rl = some (.lst (row.map V.int)) ∧ 0 ≤ D ∧ 0 ≤ s ∧ 0 < m ∧ B 4000 D ∧ B 4000 s ∧ B 4000 m ∧ i < row.length ∧ row.length < 1000 ∧ (∀ e ∈ row, 0 ≤ e ∧ e < m) ∧
  ∀ p' rl' H', Same H H' → H' p' = some (.tup [.int (bz D s).1, .ref rl']) → H' rl' = some (.lst ((nrow m D s i row).map V.int)) → Q (.ref p') H'
def SolV (H : Hp) (v : V) : Option (List Int) → Prop
  | none => v = .non
  | some row => ∃ p, v = .ref p ∧ H p = some (.lst (row.map V.int))
def spSol (K : PySem.W.Frag) : Sp := fun vs H Q _ => ∃ (l : Addr) (t : V) (xs : List V) (qs : List (Int × Int)) (t0 t1 : Int) (k : Nat), vs = [.ref l, t] ∧ Seq K H l xs ∧ Frs K H xs qs ∧ Fr K H t t0 t1 ∧ 0 < t1 ∧ B 1000 t0 ∧ B 1000 t1 ∧ (∀ q ∈ qs, B k q.1 ∧ B k q.2) ∧ 0 < k ∧ k * qs.length ≤ 2000 ∧ xs.length < 1000 ∧
  ∀ v H', Same H H' → SolV H' v (sol qs (t0, t1)) → Q v H'
theorem cden_B {k : Nat} : ∀ {qs : List (Int × Int)} {r : Int} {n : Nat}, 0 < r → B n r → (∀ q ∈ qs, 0 < q.2 ∧ B k q.2) → B (n + k * qs.length) (cden qs r)
  | [], r, n, _, b, _ => b
  | q :: qs, r, n, h, b, hq => by
    obtain ⟨p, bq⟩ := hq q (List.mem_cons_self ..)
    have := cden_B (qs := qs) (n := n + k) (lstep_pos h p) ((b.mul bq).le (lstep_le h p)) fun q' h' => hq q' (List.mem_cons_of_mem _ h')
    rw [List.length_cons, Nat.mul_add, Nat.mul_one]
    rw [show n + (k * qs.length + k) = n + k + k * qs.length by omega]
    exact this
/-! sums of fractions -/
def radd (p q : Int × Int) : Int × Int := (rn (p.1 * q.2 + q.1 * p.2) (p.2 * q.2), rd (p.1 * q.2 + q.1 * p.2) (p.2 * q.2))
def spSum (K : PySem.W.Frag) : Sp := fun vs H Q _ => ∃ (l : Addr) (xs : List V) (qs : List (Int × Int)) (k : Nat), vs = [.ref l] ∧ SqL K H l xs ∧ Frs K H xs qs ∧ (∀ q ∈ qs, B k q.1 ∧ B k q.2) ∧ (k + 1) * (qs.length + 1) ≤ 1900 ∧ ∀ v H', Same H H' → Fr K H' v (qs.foldl radd (0, 1)).1 (qs.foldl radd (0, 1)).2 → Q v H'
theorem sum_ok {k : Nat} : ∀ {qs : List (Int × Int)} {p : Int × Int} {n : Nat}, 0 < p.2 → B n p.1 → B n p.2 → Int.gcd p.1 p.2 = 1 → (∀ q ∈ qs, 0 < q.2 ∧ B k q.1 ∧ B k q.2) → 0 < (qs.foldl radd p).2 ∧ B (n + (k + 1) * qs.length) (qs.foldl radd p).1 ∧ B (n + (k + 1) * qs.length) (qs.foldl radd p).2 ∧ Int.gcd (qs.foldl radd p).1 (qs.foldl radd p).2 = 1
  | [], p, n, h, b1, b2, g, _ => ⟨h, b1, b2, g⟩
  | q :: qs, p, n, h, b1, b2, _, hq => by
    obtain ⟨pq, c1, c2⟩ := hq q (List.mem_cons_self ..)
    have hne : p.2 * q.2 ≠ 0 := Int.ne_of_gt (Int.mul_pos h pq)
    have := sum_ok (qs := qs) (p := radd p q) (n := n + (k + 1)) (rd_pos hne) (((b1.mul c2).add ((c1.mul b2).mono (by omega))).rn hne) (((b2.mul c2).mono (by omega)).rd hne) (gcd_red hne) fun q' h' => hq q' (List.mem_cons_of_mem _ h')
    rw [List.length_cons, Nat.mul_add, Nat.mul_one]
    rw [show n + ((k + 1) * qs.length + (k + 1)) = n + (k + 1) + (k + 1) * qs.length by omega]
    exact this
theorem sum_rv {M : Int} : ∀ {qs : List (Int × Int)} {p : Int × Int} {x : Int} {ys : List Int}, p.2 ≠ 0 → (∀ q ∈ qs, 0 < q.2) → Rv p.1 p.2 x M → qs.length = ys.length → (∀ (i : Nat) (q : Int × Int) (y : Int), qs[i]? = some q → ys[i]? = some y → Rv q.1 q.2 y M) → Rv (qs.foldl radd p).1 (qs.foldl radd p).2 (x + ys.sum) M
  | [], p, x, [], _, _, h, _, _ => by rw [List.sum_nil, Int.add_zero]; exact h
  | [], p, x, y :: ys, _, _, _, e, _ => by simp at e
  | q :: qs, p, x, [], _, _, _, e, _ => by simp at e
  | q :: qs, p, x, y :: ys, hp, hq, h, e, hy => by
    have pq := hq q (List.mem_cons_self ..)
    have hne : p.2 * q.2 ≠ 0 := Int.mul_ne_zero hp (by omega)
    have h1 := hy 0 q y rfl rfl
    have h2 : Rv (radd p q).1 (radd p q).2 (x + y) M := Rv.red hne (h.add h1)
    have := sum_rv (qs := qs) (p := radd p q) (x := x + y) (ys := ys) (Int.ne_of_gt (rd_pos hne)) (fun q' h' => hq q' (List.mem_cons_of_mem _ h')) h2 (by simpa using e) (fun i q' y' a b => hy (i + 1) q' y' a b)
    rw [List.sum_cons, ← Int.add_assoc]; exact this
end EP
namespace EP
open PySem PySem.Spec PyProof.Rows L2
theorem flat_rep {v : V} : ∀ n : Nat, (List.replicate n [v]).flatten = List.replicate n v
  | 0 => rfl
  | n + 1 => by rw [List.replicate_succ, List.flatten_cons, flat_rep n]; rfl
end EP
namespace EP
open PySem PySem.Spec PyProof.Rows L2
def ddq (qs : List (Int × Int)) : List PyData := qs.map fun q => .tuple [.int q.1, .int q.2]
def ddi (row : List Int) : List PyData := row.map .int
theorem Frs.dp {K : PySem.W.Frag} {H : Hp} : ∀ {vs : List V} {qs : List (Int × Int)}, Frs K H vs qs → DpAll K H vs (ddq qs)
  | _, _, .nil => .nil
  | _, _, .cons ⟨p, e, h⟩ _ r => by subst e; exact .cons (.tup h (.cons (.int _) (.cons (.int _) .nil))) r.dp
theorem dp_ints {K : PySem.W.Frag} {H : Hp} : ∀ row : List Int, DpAll K H (row.map V.int) (ddi row)
  | [] => .nil
  | x :: xs => .cons (.int x) (dp_ints xs)
theorem layq : ∀ qs : List (Int × Int), PyData.canLayAll0 (ddq qs) = true
  | [] => by unfold ddq; simp [PyData.canLayAll0]
  | q :: qs => by
    have := layq qs
    unfold ddq at *
    simp only [List.map_cons, PyData.canLayAll0, PyData.canLay0, Bool.and_true, Bool.true_and]; exact this
theorem layi : ∀ row : List Int, PyData.canLayAll0 (ddi row) = true
  | [] => by unfold ddi; simp [PyData.canLayAll0]
  | q :: qs => by
    have := layi qs
    unfold ddi at *
    simp only [List.map_cons, PyData.canLayAll0, PyData.canLay0, Bool.true_and]; exact this
theorem depq : ∀ qs : List (Int × Int), PyData.depthAll (ddq qs) ≤ 5
  | [] => by unfold ddq; simp [PyData.depthAll]
  | q :: qs => by
    have := depq qs
    unfold ddq at *
    simp only [List.map_cons, PyData.depthAll, PyData.depth]; omega
theorem depi : ∀ row : List Int, PyData.depthAll (ddi row) ≤ 5
  | [] => by unfold ddi; simp [PyData.depthAll]
  | q :: qs => by
    have := depi qs
    unfold ddi at *
    simp only [List.map_cons, PyData.depthAll, PyData.depth]; omega
theorem shq (qs : List (Int × Int)) : SeqAt.shaped (.list (ddq qs)) = true := by
  unfold SeqAt.shaped
  rw [Bool.and_eq_true]
  refine ⟨?_, decide_eq_true ?_⟩
  · simp only [PyData.canLay0]; exact layq qs
  · simp only [PyData.depth]; have := depq qs; omega
theorem shi (row : List Int) : SeqAt.shaped (.list (ddi row)) = true := by
  unfold SeqAt.shaped
  rw [Bool.and_eq_true]
  refine ⟨?_, decide_eq_true ?_⟩
  · simp only [PyData.canLay0]; exact layi row
  · simp only [PyData.depth]; have := depi row; omega
theorem shn : SeqAt.shaped .none = true := by unfold SeqAt.shaped; simp [PyData.canLay0, PyData.depth]
theorem eqv_self {d : PyData} (h : SeqAt.shaped d = true) : PyData.eqv d d = true := SeqAt.eqv_refl d (SeqAt.canLay_of_shaped h)
/-- the answer as data -/
def dsol : Option (List Int) → PyData
  | none => .none
  | some row => .list (ddi row)
theorem SolV.dp {K : PySem.W.Frag} {H : Hp} {v : V} : ∀ {o : Option (List Int)}, SolV H v o → Dp K H v (dsol o)
  | none, h => by cases h; exact .non
  | some row, ⟨p, e, h⟩ => by subst e; exact .lst (.inl (.inl h)) (dp_ints row)
theorem SolV.same {H H' : Hp} (s : Same H H') {v : V} : ∀ {o : Option (List Int)}, SolV H v o → SolV H' v o
  | none, h => h
  | some row, ⟨p, e, h⟩ => ⟨p, e, s _ _ h⟩
theorem shsol : ∀ o : Option (List Int), SeqAt.shaped (dsol o) = true
  | none => shn
  | some row => shi row
theorem rd_whole {a b c d x y M k : Int} (hb : b ≠ 0) (hd : d ≠ 0) (hM : M ≠ 0) (h1 : Rv a b x M) (h2 : Rv c d y M) (h : x - y = M * k) : rd (a * d - c * b) (b * d) = 1 := by
  have e := h1.sub h2
  refine rd_one (Int.mul_ne_zero hb hd) ⟨k, ?_⟩
  refine Int.eq_of_mul_eq_mul_right hM ?_
  rw [e, h]; grind
end EP
namespace EP
theorem dot_zip {g : Int × Int → Int} : ∀ (row : List Int) (qs : List (Int × Int)), dot row (qs.map g) = (List.zipWith (fun k q => k * g q) row qs).sum
  | [], qs => by cases qs <;> rfl
  | k :: row, [] => rfl
  | k :: row, q :: qs => by
    show k * g q + dot row (qs.map g) = _
    rw [dot_zip row qs, List.zipWith_cons_cons, List.sum_cons]
end EP
set_option maxHeartbeats 2000000
namespace EPX
open PySem PySem.Spec PyProof.Rows L2
/-! ### C.m(e, ..) where C is a class of the program's own and m a function in it -/
/-- what is asked of the class and the function -/
structure OwnFn (K : PySem.W.Frag) (C f : Addr) (m : Str) : Prop where
  ga : PySem.W.specialIn K (.ref C) "__getattribute__" = some (some (.builtin "type.__getattribute__"))
  ty : ∃ mc, PySem.W.typeIn K (.ref C) = some mc ∧ PySem.W.readsIn K C mc = true ∧ PySem.W.findCls K (.ref C) mc m = some (.val (.ref f))
  kp : PySem.W.keepIn K (.ref f) = true
section
variable {X : Cx} {CX : CXT} {k : Nat} {f C : Addr} {fd : FuncData} {ps : List Str} {sp : Sp} {E : XK} {x m : Str} {p1 p2 pos : Pos} {e : Expr} {es : List Expr} {t : TA}
theorem pe_ownfn {pl : Sem Bool} (F : FnOk X.prog X.w X.K X.mg X.base CX k f fd ps sp) (O : OwnFn X.K C f m) (hr : Room k X.A) (hg : Gl X x) (hm : X.mg x = some (.ref C)) (hb : Binds X.K fd ps []) (hx : Passes CX X E) (ha : PA X (e :: es) t)
    (hdb : (x == ("__debug__" : Str)) = false := by decide)
    (hc : eval (.Call (.Attribute (.Name x p1) m p2) (e :: es) [] pos) X.env = (do
      let who ← eval (.Name x p1) X.env
      standAt p2.atName
      let (fn, first) ← holding [who] (getMethod who m pl)
      callWith pos fn first (backTo pos (starEach (e :: es) X.env)) (backToKw pos (keywordEach [] X.env))) := by rfl)
    (he : starEach (e :: es) X.env = (false, eval e X.env) :: starEach es X.env := by rfl) (hpl : (backTo pos (starEach es X.env)).any (·.1) = false := by rfl) :
    PE X (.Call (.Attribute (.Name x p1) m p2) (e :: es) [] pos) (tCall sp [] E t) := by
  refine ⟨fun pins s σ H Q I h => ?_⟩
  obtain ⟨mc, y1, y2, y3⟩ := O.ty
  refine PySem.W.methodCall_KW (ld_glob I hg hm ?_ hdb) hc
  obtain ⟨m', fr⟩ := I.fr
  refine PySem.W.method_of_cls fr I.ok.mod.kin O.ga ?_
  refine PySem.W.cls_val fr I.ok.mod.kin y1 y2 y3 rfl ?_
  refine PySem.W.callWith_K (h₀ := X.base) I.ok.mod.kin O.kp ?_ he hpl
  refine thn (ha.run pos pins _ σ H _ (I.tok _) h) fun us s1 got => ?_
  obtain ⟨vs, H1, I1, r, q⟩ := got
  exact ⟨I1.kIn, run_fn F hr hb .nil hx I1 r q⟩
end
/-! ### except (A, B) as n -/
theorem fly_keeps {B h h' : Heap} {l : List Env} {a : Addr} {Z : Obj → Prop} (fl : HandSPX.FlyingZ B l a Z h) (kp : ∀ b o, h.get? b = some o → h'.get? b = some o) : HandSPX.FlyingZ B l a Z h' := by
  obtain ⟨f1, f2, f3, oe, vs, T, oT, ts, g1, g2, g3, g4, g5, g6, g7, g8⟩ := fl
  refine ⟨fun b o e => kp b o (f1 b o e), f2, f3.of_keeps fun b o e _ => ⟨o, kp b o e, rfl⟩, oe, vs, T, oT, ts, kp _ _ g1, g2, g3, g4, g5, g6, kp _ _ g7, g8⟩
/-- what follows a clause's suite: the name is gone -/
def unAs (i : Nat) (D : Ends) : Ends := { nx := fun σ H => D.nx (σ.set i none) H, rt := D.rt, bk := fun σ H => D.bk (σ.set i none) H, ct := fun σ H => D.ct (σ.set i none) H }
abbrev Suite := Addr → Value → Option Addr → TS
/-- the wish of one clause for two classes, and what is wished where it does not match -/
def wPair (K : PySem.W.Frag) (c1 c2 : Value) (i : Nat) (ts : Suite) (D : Ends) (W : WX) : WX := fun cls d σ H =>
  ∃ b, PySem.W.exmAny K cls [c1, c2] = some b ∧ (b = true → ∀ a, H a = none → ts a cls d (unAs i D) (σ.set i (some (.ref a))) H) ∧ (b = false → W cls d σ H)
section
variable {X : Cx} {x1 x2 n : Str} {c1 c2 : Value} {i : Nat} {suite : List Stmt} {b₀ : Stmt} {q1 q2 tp pos' : Pos} {kk : Nat} {ts : Suite} {rest : List ExceptHandler}
theorem clause_pair {pins : List (Addr × Obj)} {σ : L2.St} {H : Hp} {s' sI : Shared} {D : Ends} {W : WX} {B : Heap} {a : Addr} {cls : Value} {d : Option Addr}
    (hs : X.stack = X.env :: X.outer) (hf : X.env.frame = some X.env.locals) (hN : X.N.Nodup) (hi : X.N[i]? = some n) (hln : X.env.kindOf n = some .local) (n1 : Names X x1 c1) (n2 : Names X x2 c2)
    (hsu : ∀ (a : Addr) (oe : Obj) (cls : Value) (d : Option Addr) (pn : List (Addr × Obj)), L2N.Zn cls d oe → (∃ vs, oe.data = .fields vs) → PSs (X.suite a ((a, oe) :: pn)) (b₀ :: suite) (ts a cls d))
    (J : Inv X pins σ H sI) (nb : ∀ b o, sI.heap.get? b = some o → b ∉ frs X.stack → B.get? b = some o) (up : sI.heap.UpToSlots s'.heap) (fl : HandSPX.FlyingZ B (X.env :: X.outer) a (L2N.Zn cls d) s'.heap) (na : H a = none) (os : s'.os = sI.os) (ag : AllBare s'.gens)
    (w : wPair X.K c1 c2 i ts D W cls d σ H)
    (more : ∀ h', HandSPX.FlyingZ B (X.env :: X.outer) a (L2N.Zn cls d) h' → sI.heap.UpToSlots h' → W cls d σ H → wpAny (model X.prog X.w) X.A (handleBy (.ref a) X.env rest) (SP X pins D) X.xe { s' with heap := h' }) :
    wpAny (model X.prog X.w) X.A (handleBy (.ref a) X.env (.ExceptHandler (some (.Tuple [.Name x1 q1, .Name x2 q2] kk tp)) (some n) (b₀ :: suite) pos' :: rest)) (SP X pins D) X.xe s' := by
  have ok := J.ok
  obtain ⟨b, hb, yes, no⟩ := w
  -- the exception's own object
  have apart : ∀ {h : Heap}, HandSPX.FlyingZ B (X.env :: X.outer) a (L2N.Zn cls d) h → a ≠ X.env.locals ∧ a ∉ X.fs := fun {h} f => by
    obtain ⟨oe, vs, he, _, hd⟩ := f.there
    have out : a ∉ frs (X.env :: X.outer) := fun hm => by
      obtain ⟨_, o', e', hnf⟩ := f.2.2.1.mem hm
      rw [he] at e'
      cases e'
      exact hnf _ hd
    exact ⟨fun z => out (List.mem_filterMap.mpr ⟨X.env, List.mem_cons_self, by rw [hf, z]⟩), fun hm => out (by
      obtain ⟨v, hv, q⟩ := List.mem_filterMap.mp hm
      exact List.mem_filterMap.mpr ⟨v, List.mem_cons_of_mem _ hv, q⟩)⟩
  obtain ⟨nL, nF⟩ := apart fl
  obtain ⟨oe, vs, he, hz, hd⟩ := fl.there
  have J1 : Inv X pins σ H s' := J.landed nb fl.1 up os ag
  have S1 := J1.suite he hd na nL nF
  have name : ∀ {x : Str} {c : Value} {np : Pos} {Q : Value → Shared → Prop} {E : Value → Shared → Prop}, Names X x c → Q c s' → wpAny (model X.prog X.w) (X.A.mark (some (.ref a))) (eval (.Name x np) X.env) Q E s' := fun {x c np Q E} hc q => by
    obtain ⟨hg, hdbg, hm | ⟨hm, hv, hnn⟩⟩ := hc
    · exact ld_glob (X := X.suite a ((a, oe) :: (X.pn ++ pins))) S1 hg hm q hdbg
    · exact ld_blt (X := X.suite a ((a, oe) :: (X.pn ++ pins))) S1 hg hm hv q hnn hdbg
  refine wpAny_handleBy_cons (codeAny_handlers_test ?_) (fun z => nomatch z)
  refine wpAny_Tuple (wpAny_items_cons (name n1 (wpAny_items_cons (name n2 (wpAny_items_nil ⟨by size_fits, ?_⟩)))))
  have kp : ∀ q o, s'.heap.get? q = some o → (s'.heap.push { cls := .type "tuple", data := .seq [c1, c2].toArray }).get? q = some o := fun _ _ z => Heap.get?_push_of_some _ z
  have fl2 := fly_keeps fl kp
  have up2 := up.trans (Heap.UpToSlots.of_keeps kp)
  obtain ⟨oe2, vs2, he2, hz2, hd2⟩ := fl2.there
  have LT : PySem.W.Looks (model X.prog X.w) (s'.heap.push { cls := .type "tuple", data := .seq [c1, c2].toArray }) (typeOf (.ref a)) cls := fun A Q E s k q => wpAny_typeOf_ref (k _ _ he2) (by rw [hz2.1]; exact q)
  have J2 : Inv X pins σ H { s' with heap := s'.heap.push { cls := .type "tuple", data := .seq [c1, c2].toArray } } := J.landed nb fl2.1 up2 os ag
  refine (PySem.W.exm_tup2 (M := model X.prog X.w) J2.kIn LT (Heap.get?_push_size s'.heap rfl) hb).here ?_
  cases b with
  | false => exact more _ fl2 up2 (no rfl)
  | true =>
    refine codeAny_handlers_suite_as (HandSPX.lands_againZ fl2 fun h4 fl4 up4 => ?_)
    obtain ⟨oe4, vs4, he4, hz4, hd4⟩ := fl4.there
    have J4 : Inv X pins σ H { s' with heap := h4 } := J.landed nb fl4.1 (up2.trans up4) os ag
    obtain ⟨nL4, nF4⟩ := apart fl4
    refine store_ok (X := X.suite a ((a, oe4) :: (X.pn ++ pins))) (v := .ref a) (J4.suite he4 hd4 na nL4 nF4) hN hi (.inl hln) rfl (fun s5 S5 => ?_) (.inr hln)
    refine wpAny_mono ((hsu a oe4 cls d (X.pn ++ pins) hz4 ⟨_, hd4⟩).run [] s5 _ H _ S5 (yes rfl a na)) (fun fw s6 got => ?_) (fun _ _ z => z.elim)
    cases fw with
    | next => obtain ⟨σ6, H6, S6, q6⟩ := got; exact gone_ok (S6.unsuite ok) hN hi hln fun s7 J7 => ⟨_, _, J7, q6⟩
    | brk => obtain ⟨σ6, H6, S6, q6⟩ := got; exact gone_ok (S6.unsuite ok) hN hi hln fun s7 J7 => ⟨_, _, J7, q6⟩
    | cont => obtain ⟨σ6, H6, S6, q6⟩ := got; exact gone_ok (S6.unsuite ok) hN hi hln fun s7 J7 => ⟨_, _, J7, q6⟩
    | ret u => obtain ⟨v6, σ6, H6, S6, r6, q6⟩ := got; exact gone_ok (S6.unsuite ok) hN hi hln fun s7 J7 => ⟨_, _, _, J7, r6, q6⟩
end
section
variable {X : Cx} {x1 x2 x3 x4 n : Str} {c1 c2 c3 c4 : Value} {i : Nat} {body suite suite' : List Stmt} {b₀ b₁ : Stmt} {q1 q2 q3 q4 tp tp' pos pos' pos'' : Pos} {kk kk' : Nat} {tb : WX → TS} {ts ts' : Suite}
/-- try: body except (x1, x2) as n: suite except (x3, x4) as n: suite'; each exception of the body is caught -/
theorem ps_try_pairs (hs : X.stack = X.env :: X.outer) (hf : X.env.frame = some X.env.locals) (hN : X.N.Nodup) (hi : X.N[i]? = some n) (hln : X.env.kindOf n = some .local) (n1 : Names X x1 c1) (n2 : Names X x2 c2) (n3 : Names X x3 c3) (n4 : Names X x4 c4)
    (hb : ∀ (W : WX) (pn : List (Addr × Obj)) (xe : Value → Shared → Prop), L2N.Takes (X.tr pn xe) W → PassesOwn (model X.prog X.w) X.A X.env xe → PSs (X.tr pn xe) body (tb W))
    (hsu : ∀ (a : Addr) (oe : Obj) (cls : Value) (d : Option Addr) (pn : List (Addr × Obj)), L2N.Zn cls d oe → (∃ vs, oe.data = .fields vs) → PSs (X.suite a ((a, oe) :: pn)) (b₀ :: suite) (ts a cls d))
    (hsu' : ∀ (a : Addr) (oe : Obj) (cls : Value) (d : Option Addr) (pn : List (Addr × Obj)), L2N.Zn cls d oe → (∃ vs, oe.data = .fields vs) → PSs (X.suite a ((a, oe) :: pn)) (b₁ :: suite') (ts' a cls d)) :
    PS X (.Try body [.ExceptHandler (some (.Tuple [.Name x1 q1, .Name x2 q2] kk tp)) (some n) (b₀ :: suite) pos', .ExceptHandler (some (.Tuple [.Name x3 q3, .Name x4 q4] kk' tp')) (some n) (b₁ :: suite') pos''] [] [] pos)
      (fun D σ H => tb (wPair X.K c1 c2 i ts D (wPair X.K c3 c4 i ts' D fun _ _ _ _ => False)) D σ H) := by
  refine ⟨fun pins s σ H D I h => ?_⟩
  have ok := I.ok
  have hfr : X.A.frames = some (X.env :: X.outer) := by rw [ok.frames, hs]
  refine wpAny_Try_except ?_
  refine wpAny_mono ((hb _ (X.pn ++ pins) _ (fun u s' air => ?_) PassesOwn.looking).run [] s σ H D (I.toTry _) h) (fun fw s1 got => ?_) (fun _ _ z => z)
  · obtain ⟨a, B, sI, pins', σ', H', cls, d, rfl, J', nb, up, sky, na, os, ag, w⟩ := air
    have J : Inv X pins σ' H' sI := J'.ofTry ok
    have sky' : Sky B (X.env :: X.outer) a (L2N.Zn cls d) X.env.locals s'.heap := by rw [← hs]; exact sky
    refine L2N.Sky.land L2N.Zn.steady hfr hf sky' fun h3 fl3 up3 => ?_
    refine clause_pair (s' := { s' with heap := h3 }) hs hf hN hi hln n1 n2 hsu J nb (up.trans up3) fl3 na os ag w fun h4 fl4 up4 w2 => ?_
    exact clause_pair (s' := { s' with heap := h4 }) hs hf hN hi hln n3 n4 hsu' J nb up4 fl4 na os ag w2 fun h5 fl5 up5 z => z.elim
  · cases fw with
    | next => obtain ⟨σ', H', J', q⟩ := got; exact wpAny_execs_nil ⟨σ', H', J'.ofTry ok, q⟩
    | brk => obtain ⟨σ', H', J', q⟩ := got; exact ⟨σ', H', J'.ofTry ok, q⟩
    | cont => obtain ⟨σ', H', J', q⟩ := got; exact ⟨σ', H', J'.ofTry ok, q⟩
    | ret u => obtain ⟨v, σ', H', J', r, q⟩ := got; exact ⟨v, σ', H', J'.ofTry ok, r, q⟩
end
end EPX
set_option maxHeartbeats 2000000
namespace EPX
open PySem PySem.Spec PyProof.Rows L2 L2H
section
variable {prog : Program} {w : World} {A : Around} {E : Value → Shared → Prop} {s : Shared}
/-- a tuple's iterator at its end while an exception is handled -/
theorem tuple_end_hot {it t x1 : Addr} {i : Nat} {items : Array Value} {Q : Option Value → Shared → Prop} (hot : HotX.HotAt A x1 s.heap) (hne : x1 ≠ it)
    (hit : IsTupIter s.heap it t i) (ht : IsTup s.heap t items) (hx : items[i]? = none)
    (hQ : ∀ h', Heap.ExtBut it s.heap h' → Q none { s with heap := h' }) : wpAny (model prog w) A (pyNext (.ref it)) Q E s := by
  obtain ⟨hh, o1, vs1, g1, d1, k1⟩ := hot
  obtain ⟨o, ho, hc, hd⟩ := id hit
  obtain ⟨ol, hol, _, nl, hdl⟩ := ht
  unfold pyNext
  refine wpAny_bind (wpAny_attempt ?_)
  refine wpAny_callSpecial?_slot (name := Str.ofString "__next__") hit.typeIs slot_tupleiter_next ?_
  refine wpAny_call_entry slot_tupleiter_next hit.typeIs entry_tupleiter_next ?_ (args_tupleiter_next _)
  show wpAny _ _ (field (.ref it) 0 >>= _) _ _ s
  refine wpAny_bind (wpAny_field ho hd (x := .ref t) rfl ?_)
  show wpAny _ _ (if (Value.ref t == Value.none) = true then _ else _) _ _ s
  rw [if_neg (show ¬ ((Value.ref t == Value.none) = true) from Bool.false_ne_true)]
  show wpAny _ _ (field (.ref it) 1 >>= _) _ _ s
  refine wpAny_bind (wpAny_field ho hd (x := .int i 0) rfl ?_)
  show wpAny _ _ (seqItems? (.ref t) >>= _) _ _ s
  refine wpAny_bind (wpAny_seqItems hol hdl ?_)
  simp only [Int.toNat_natCast, hx]
  refine wpAny_bind (wpAny_rule (wpAny_bind (wpAny_setField ho hd (by simp) ?_)))
  show wpAny _ _ (newExc (.type "StopIteration") [] >>= _) _ _ _
  refine wpAny_bind ?_
  simp only [newExc, newTuple]
  refine wpAny_bind (wpAny_newObj_type ?_ (by size_fits))
  refine wpAny_bind (m := firstArgMember _ _) (wpAny_of_eq (a := Value.none) (by first | rfl | (simp only [firstArgMember]; rfl)) ?_)
  refine wpAny_newObj_type ?_ (by size_fits)
  have old : ∀ {f : Obj → Obj} {b : Addr} {u : Obj}, b ≠ it → s.heap.get? b = some u → (s.heap.update it f).get? b = some u := fun hb e => (Heap.get?_update_other _ _ (Ne.symm hb)).trans e
  refine HotX.raiseNew_hot ⟨hh, o1, vs1, Heap.get?_push_of_some _ (Heap.get?_push_of_some _ (old hne g1)), d1, k1⟩ (Nat.ne_of_lt (Heap.lt_size (Heap.get?_push_of_some _ (old hne g1)))) (Heap.get?_push_size _ rfl) rfl (by first | (simp; done) | (simp; omega)) ?_
  refine wpAny_bind (wpAny_isInstance (T := "StopIteration") (b := true) ⟨_, Heap.get?_update_self _ (Heap.get?_push_size _ rfl) rfl, rfl⟩ isSubtype_stop ?_)
  refine wpAny_pure (hQ _ fun b u hb e => ?_)
  rw [Heap.get?_update_other _ _ (Nat.ne_of_gt (Heap.lt_size (Heap.get?_push_of_some _ (old hb e))))]
  exact Heap.get?_push_of_some _ (Heap.get?_push_of_some _ (old hb e))
theorem unpack_hot {t x1 : Addr} {items : Array Value} {Q : List Value → Shared → Prop} (hot : HotX.HotAt A x1 s.heap) (ht : IsTup s.heap t items)
    (hQ : ∀ h', Heap.ExtBut s.heap.objs.size s.heap h' → Q items.toList { s with heap := h' }) : wpAny (model prog w) A (unpackItems (.ref t) items.size none) Q E s := by
  have tn : t ≠ s.heap.objs.size := by obtain ⟨o, ho, _⟩ := ht; exact Nat.ne_of_lt (Heap.lt_size ho)
  obtain ⟨hh, o1, vs1, g1, d1, k1⟩ := hot
  have xn : x1 ≠ s.heap.objs.size := Nat.ne_of_lt (Heap.lt_size g1)
  unfold unpackItems
  refine wpAny_bind ?_
  unfold notIterableAtAll
  refine wpAny_bind (wpAny_specialOf ht.typeIs slot_tuple_iter.lookup (wpAny_pure ?_))
  simp only [Bool.false_eq_true, if_false]
  refine wpAny_bind (wpAny_holding (iter_tuple ht ?_))
  refine wpAny_bind (wpAny_holding (draw_tuple tn items.size 0 _ _ ⟨_, Heap.get?_push_size _ rfl, rfl, rfl⟩ (ht.push _) (by omega) fun h1 it1 sb1 => ?_))
  rw [show List.take items.size (List.drop 0 items.toList) = items.toList by rw [List.drop_zero]; exact List.take_of_length_le (by simp)]
  rw [if_neg (by simp)]
  have g2 : h1.get? x1 = some o1 := sb1.extBut x1 o1 xn (Heap.get?_push_of_some _ g1)
  refine wpAny_bind (wpAny_holding (tuple_end_hot ⟨hh, o1, vs1, g2, d1, k1⟩ xn it1 ((ht.push _).extBut sb1.extBut tn) (by simp) fun h2 he2 => ?_))
  simp only [Option.isSome_none, Bool.false_eq_true, if_false]
  exact wpAny_pure (hQ h2 fun b o hb e => he2 b o hb (sb1.extBut b o hb (Heap.get?_push_of_some _ e)))
end
section
variable {X : Cx}
/-- a, b = x, y while an exception (whose context is None) is handled -/
theorem ps_parH {i j : Nat} {x y : Str} {a b : Expr} {ta : TA} {px py pt pos : Pos} {kt k2 : Nat} {pt2 : Pos} (hc : HotC X) (hN : X.N.Nodup) (hi : X.N[i]? = some x) (hj : X.N[j]? = some y) (hij : i ≠ j)
    (hx : X.env.scope.names.lookup x = some .local) (hy : X.env.scope.names.lookup y = some .local) (ha : PA X [a, b] ta)
    (hw : swappedStores [.Tuple [.Name x px, .Name y py] kt pt] (.Tuple [a, b] k2 pt2) X.env = pure (some [x, y]))
    (hs : swapsWithSole [.Tuple [.Name x px, .Name y py] kt pt] (.Tuple [a, b] k2 pt2) pos.line X.env = pure false := by rfl) :
    PS X (.Assign [.Tuple [.Name x px, .Name y py] kt pt] (.Tuple [a, b] k2 pt2) pos) (tPar i j ta) := by
  refine ⟨fun pins s σ H D I h => ?_⟩
  rw [exec_Assign_arm]
  refine wpAny_bind (wpAny_standAt ?_)
  rw [hs]
  refine wpAny_bind (wpAny_pure ?_)
  rw [if_neg (by decide)]
  refine wpAny_bind (Tuple_ (thn (ha.run _ pins s σ H _ I h) fun us s1 got => ?_))
  obtain ⟨vs, H1, I1, r1, v, z, rfl, q1⟩ := got
  obtain ⟨u1, u2, rfl, rv, rz⟩ := vals2 r1
  refine wpAny_newObj_type ?_ (by show 2 ≤ sizeLine; decide)
  have I2 : Inv X pins σ H1 { s1 with heap := s1.heap.push { cls := .type "tuple", data := .seq [u1, u2].toArray } } := I1.kept (t' := s1.toks) fun b o e => Heap.get?_push_of_some _ e
  rw [hw]
  refine wpAny_bind (wpAny_pure ?_)
  show wpAny (model X.prog X.w) X.A (do rule "assign.swapped-stores"; let items ← unpackItems (.ref s1.heap.objs.size) 2 none; assignInOrder [fun v => bindName X.env y v, fun v => bindName X.env x v] items.reverse; pure Flow.next) _ _ _
  obtain ⟨x1, hot⟩ := hc.at I2
  refine wpAny_bind (wpAny_rule (wpAny_bind (unpack_hot (items := #[u1, u2]) hot (IsTup.new s1.heap _) fun h' hx' => ?_)))
  have I3 := I2.kept (h' := h') (t' := s1.toks) fun b o e => hx' b o (Nat.ne_of_lt (Heap.lt_size e)) e
  show wpAny _ _ (assignInOrder [fun v => bindName X.env y v, fun v => bindName X.env x v] [u2, u1] >>= fun _ => pure Flow.next) _ _ _
  refine wpAny_bind (assignInOrder_cons (wpAny_bindName (store_ok I3 hN hj (.inl hy) rz (fun s2 I4 => ?_) (.inr hy))))
  refine assignInOrder_cons (wpAny_bindName (store_ok I4 hN hi (.inl hx) rv (fun s3 I5 => assignInOrder_nil (wpAny_pure ?_)) (.inr hx)))
  rw [List.set_comm _ _ (Ne.symm hij)] at I5
  exact ⟨_, H1, I5, q1⟩
end
/-! ### a def that is handed the exception that is being handled -/
abbrev SpE := Addr → Value → Option Addr → List V → Hp → VK → Prop
structure FnE (P : Program) (w : World) (K : PySem.W.Frag) (mg : Str → Option Value) (base : Heap) (k : Nat) (f : Addr) (fd : FuncData) (ps : List Str) (sp : SpE) : Prop where
  len : ∀ a cls d vs H Q, sp a cls d vs H Q → vs.length = ps.length
  run : ∀ (A : Around) (outer : List Env) (s : Shared) (H : Hp) (args : Args) (us : List Value) (vs : List V) (Q : VK) (p : Addr × Obj) (cls : Value) (d : Option Addr), RoomH k A → PinOk outer H s p → L2N.Zn cls d p.2 → (∃ fs, p.2.data = .fields fs) → Env0 P w K mg base A outer s H → BindsTo s fd args (ps.zip us) → Vals vs us → sp p.1 cls d vs H Q →
    codeAny (model P w) A (.call (.ref f) args) (CR CX0 outer P w H s Q E0) s
theorem fn_ofE {P : Program} {w : World} {K : PySem.W.Frag} {mg : Str → Option Value} {base : Heap} {k : Nat} {f : Addr} {fd : FuncData} {x : Str} {st : Stmt} {N ps : List Str} {sp : SpE} (F : Fun K x x st f fd) (S : FnScope N ps (defScope st))
    (len : ∀ a cls d vs H Q, sp a cls d vs H Q → vs.length = ps.length)
    (hbody : ∀ (cdv : Value) (A : Around) (outer : List Env) (s : Shared) (H : Hp) (vs : List V) (Q : VK) (p : Addr × Obj) (cls : Value) (d : Option Addr), L2N.Zn cls d p.2 → (∃ fs, p.2.data = .fields fs) → RoomH k (A.deeper (envOfC x (defScope st) s.heap.objs.size f cdv)) → sp p.1 cls d vs H Q →
      ∃ t, PSs (cxH CX0 P w K mg base N x (defScope st) f cdv A outer s H E0 p) (defBody st) t ∧ t { nx := fun _ H' => Q .non H', rt := Q } (L2.start N vs) H) : FnE P w K mg base (k + 1) f fd ps sp := by
  obtain ⟨oc, od, kV, doc, pm, an, cdv, ct, osl, rfl, lk, hcd⟩ := F.ex
  refine ⟨len, fun A outer s H args us vs Q p cls d hr hpin hz hfs e0 hb r hsp => ?_⟩
  have hl := len _ _ _ _ _ _ hsp
  have KX : K.In s.heap := e0.mod.kin.keeps fun b o e => (e0.bs b o e).1
  have lim : s.heap.NoLimit := e0.mod.nolimit.keeps fun b o e => (e0.bs b o e).1
  refine codeAny_call_function hr.depth (KX _ _ lk) rfl S.co S.gen rfl (PySem.W.codeRec_of KX hcd) (hb _ _ _ _ ?_)
  refine wpAny_newFunctionEnv_cells S.kind (fun ⟨n, v⟩ hy => ?_) fun env he s1 got => ?_
  · rcases S.par n (List.of_mem_zip hy).1 with q | q
    · exact .inl q
    · exact .inr ⟨q, PySem.W.cellsFrom_some _ _ _ (.inl q)⟩
  subst he
  refine ⟨lim.keeps got.toInCall.keep, codeAny_func ?_⟩
  obtain ⟨t, ht, hq⟩ := hbody cdv A outer s H vs Q p cls d hz hfs (hr.deeper _) hsp
  have I : Inv (cxH CX0 P w K mg base N x (defScope st) f cdv A outer s H E0 p) [] (L2.start N vs) H s1 := inv_startH S hpin e0 hl r got
  refine wpAny_mono (ht.run [] s1 (L2.start N vs) H _ I hq) (fun fw s' hs => ?_) fun _ _ hs => hs
  cases fw with
  | ret u => obtain ⟨v, σ', H', J, rv, q⟩ := hs; exact ⟨v, H', J.os, J.bare, J.base, J.hok, rv, q⟩
  | next => obtain ⟨σ', H', J, q⟩ := hs; exact ⟨V.non, H', J.os, J.bare, J.base, J.hok, rfl, q⟩
  | brk => obtain ⟨_, _, _, q⟩ := hs; exact q.elim
  | cont => obtain ⟨_, _, _, q⟩ := hs; exact q.elim
section
variable {X : Cx} {k : Nat} {f : Addr} {fd : FuncData} {ps : List Str} {sp : SpE} {x : Str} {q pos : Pos} {e : Expr} {es : List Expr} {t : TA}
theorem pe_callE {p : Addr × Obj} {cls : Value} {d : Option Addr} (F : FnE X.prog X.w X.K X.mg X.base k f fd ps sp) (hr : RoomH k X.A) (hp : p ∈ X.pn) (hz : L2N.Zn cls d p.2) (hfs : ∃ fs, p.2.data = .fields fs) (hg : Gl X x) (hm : X.mg x = some (.ref f)) (hk : PySem.W.keepIn X.K (.ref f) = true) (hb : Binds X.K fd ps [])
    (ha : PA X (e :: es) t) (hdb : (x == ("__debug__" : Str)) = false := by decide) (he : starEach (e :: es) X.env = (false, eval e X.env) :: starEach es X.env := by rfl) (hpl : (backTo pos (starEach es X.env)).any (·.1) = false := by rfl) :
    PE X (.Call (.Name x q) (e :: es) [] pos) (fun σ H Q => t σ H fun vs H1 => sp p.1 cls d vs H1 Q) := by
  refine ⟨fun pins s σ H Q I h => ?_⟩
  refine wpAny_Call_Name_kw (ld_glob I hg hm ?_ hdb)
  refine PySem.W.callWith_K (h₀ := X.base) I.ok.mod.kin hk ?_ he hpl
  refine thn (ha.run pos pins s σ H _ I h) fun us s1 got => ?_
  obtain ⟨vs, H1, I1, r, q1⟩ := got
  have hl : us.length = ps.length := by rw [← r.length]; exact F.len _ _ _ _ _ _ q1
  have b := hb s1 us I1.kIn (by rw [List.append_nil]; exact hl)
  rw [List.append_nil] at b
  have P1 := I1.pin p (List.mem_append_left _ hp)
  have pin : PinOk X.stack H1 s1 p := ⟨P1.1, P1.2.1, fun z => (List.mem_cons.mp (I1.stkSub p.1 z)).elim P1.2.2.1 P1.2.2.2.1, P1.2.2.2.2⟩
  refine ⟨I1.kIn, wpAny_call (codeAny_mono (F.run X.A X.stack s1 H1 ⟨us, []⟩ us vs Q p cls d hr pin hz hfs I1.env0 b r q1) fun res s' hq => ?_)⟩
  cases res with
  | error er => exact (show False from hq).elim
  | ok fl =>
    cases fl with
    | ret u => exact I1.after hq
    | next => exact False.elim hq
    | brk => exact False.elim hq
    | cont => exact False.elim hq
/-- e.n of the exception that is being handled -/
def tXe (K : PySem.W.Frag) (a : Addr) (cls : Value) (d : Option Addr) (n : Str) (te : TE) : TE := fun σ H Q => te σ H fun v H1 => v = .ref a ∧ ∃ (C dd : Addr) (fs : List (Str × V)) (z : V), cls = .ref C ∧ d = some dd ∧ XfC K C ∧ PySem.W.findIn K (.ref C) n = some none ∧ H1 dd = some (.xd fs) ∧ fs.lookup n = some z ∧ Q z H1
theorem pe_xe {p : Addr × Obj} {cls : Value} {d : Option Addr} {te : TE} {n : Str} (hp : p ∈ X.pn) (hz : L2N.Zn cls d p.2) (hfs : ∃ fs, p.2.data = .fields fs) (he : PE X e te) (hb : attributeBase e n X.env (eval e X.env) = eval e X.env := by rfl) :
    PE X (.Attribute e n pos) (tXe X.K p.1 cls d n te) := by
  refine ⟨fun pins s σ H Q I h => ?_⟩
  refine attr_of hb (thn (he.run pins s σ H _ I h) fun u s1 got => ?_)
  obtain ⟨v, H1, I1, rv, rfl, C, dd, fs, z, rfl, rfl, T, hno, ea, l, q1⟩ := got
  obtain rfl : u = Value.ref p.1 := rv
  have ha := (I1.pin p (List.mem_append_left _ hp)).1
  obtain ⟨vs, hd⟩ := hfs
  obtain ⟨mA, hns, hr⟩ := (show ObjOk X.prog X.w H1 s1.heap dd (.xd fs) from I1.hok dd _ ea)
  obtain ⟨od, ho, hl⟩ := lookIn_ns hns
  obtain ⟨u, hu, ru⟩ := RelO.some_of (v := z) (o := mA n) (by rw [← l]; exact hr n)
  have J : PySem.W.InstAt s1.heap p.1 p.2 C (some od) := ⟨ha, hz.1, by unfold PySem.W.notCls; rw [hd] <;> rfl, by rw [hz.2.1]; exact ho⟩
  exact HandSPX.exc_get I1.kIn J T.ga T.gg T.exC (PySem.W.findObj_own T.hdC hno rfl (by rw [hl, hu])) (handed_of ru) ⟨z, H1, I1.tok _, ru, q1⟩
end
end EPX
set_option maxHeartbeats 4000000
namespace EPX
open PySem PySem.Spec PyProof.Rows L2 L2H
/-! ### C(e, ..) of an own error class over ValueError, made where nothing is handled -/
theorem pmk_oexN {X : Cx} {x : Str} {e : Expr} {es : List Expr} {ta : TA} {p pos : Pos} {C fI : Addr} {k : Nat} {fd : FuncData} {ps : List Str} {sp : Sp} (T : OexC X.K C) (iC : PySem.W.findIn X.K (.ref C) "__init__" = some (some (.ref fI))) (tI : PySem.W.typeIn X.K (.ref fI) = some (.type "function"))
    (G : FnOk X.prog X.w X.K X.mg X.base CX0 k fI fd ps sp) (hr : Room (k + 1) X.A) (hb : Binds X.K fd ps []) (hg : Gl X x) (hm : X.mg x = some (.ref C)) (ha : PA X (e :: es) ta)
    (hdb : (x == ("__debug__" : Str)) = false := by decide) (he : starEach (e :: es) X.env = (false, eval e X.env) :: starEach es X.env := by rfl) (hpl : (backTo pos (starEach es X.env)).any (·.1) = false := by rfl) :
    L2N.PMk X (.Call (.Name x p) (e :: es) [] pos) (tMkO C sp [] ta) := by
  intro pins s σ H Q I h
  obtain ⟨nm, q, N, bs, bm, sn, sub, ab, col, dd, k0, k1, k2, k3, k5, hC, hbm⟩ := T.cls
  refine wpAny_Call_Name_kw (ld_glob I hg hm ?_ hdb)
  refine PySem.W.callWith_K (h₀ := X.base) I.ok.mod.kin T.kC ?_ he hpl
  refine thn (ha.run pos pins s σ H _ I h) fun us s1 got => ?_
  obtain ⟨vs, H1, I1, r1, hz, q1⟩ := got
  refine ⟨I1.kIn, ?_⟩
  show wpAny _ _ (call (.ref C) us) _ _ _
  obtain ⟨hp, g, dr, tk, os⟩ := s1
  generalize ea : hp.objs.size + 1 = a
  have hsz : hp.objs.size ≤ a := by omega
  have hn : H1 a = none := I1.hok.fresh hsz
  have hq := q1 a hn
  rw [List.append_nil] at hq
  generalize eh : (hp.push (PySem.W.kdv_tup us)).push (PySem.HandSPX.excO C hp.objs.size) = h1
  have kk : ∀ b o, hp.get? b = some o → h1.get? b = some o := fun b o e => by rw [← eh]; exact Heap.get?_push_of_some _ (Heap.get?_push_of_some _ e)
  have hget : h1.get? a = some (PySem.HandSPX.excO C hp.objs.size) := by rw [← eh, ← ea]; heap_get
  have I2 : Inv X pins σ (upd H1 a (exo a C none)) ⟨h1, g, dr, tk, os⟩ := I1.laid (t' := tk) (a := a) (o := exo a C none) (h' := h1) kk hsz (exo_ok hget)
  have r2 : Vals (V.ref a :: vs) (Value.ref a :: us) := .cons rfl r1
  have hl : (Value.ref a :: us ++ []).length = ps.length := by
    rw [List.append_nil, ← r2.length]; exact G.len _ _ _ _ hq
  have b2 := hb _ (Value.ref a :: us) I2.kIn hl
  rw [List.append_nil] at b2
  have hus : us.length ≤ sizeLine := by rw [← Paired.length r1, sizeLine_eq]; omega
  have inner := G.run _ X.stack _ _ ⟨Value.ref a :: us, []⟩ (Value.ref a :: us) _ _ (fun _ _ _ => False) (hr.make C us []) (I2.env0.make C us []) b2 r2 hq
  subst ea
  subst eh
  refine wpAny_call (PySem.HandSPX.call_own F.excBase_ValueError (fun Y => PySem.HandSPX.refsVE_contains Y bm hbm) (I1.kIn _ _ hC) (PySem.W.looks_findIn I1.kIn iC) (fun self => PySem.W.bind_fn I1.kIn self tI) hus (codeAny_mono inner fun res s' hq' => ?_))
  cases res with
  | error er => exact (show False from hq').elim
  | ok fl =>
    cases fl with
    | next => exact False.elim hq'
    | brk => exact False.elim hq'
    | cont => exact False.elim hq'
    | ret u =>
      obtain ⟨v, H2, os2, bare2, un2, hok2, rv, ev, d, fs, e1, e2, hd1, q2⟩ := hq'
      subst ev
      obtain ⟨h2, g2, d2, t2, os'⟩ := s'
      obtain ⟨t0, G', J, kG, ge, hoe, na⟩ := mk_end0 (d2 := d2) (t2 := t2) I1 hsz kk un2 hok2 os2 bare2 e1 e2 hd1
      refine ⟨rv, _, _, _, ⟨G', g2, d2, t2, os'⟩, _, .ref C, some d, rfl, J, kG, ge, hoe, ⟨rfl, rfl, fun vs hv => ?_⟩, rfl, rfl, na, rfl, bare2, raises_own T.exC T.tyC, q2⟩
      cases hv
      rfl
/-! ### f(lambda: body), the errors known with their context -/
abbrev lamN (X : Cx) (A : Around) (outer : List Env) (s : Shared) (H : Hp) (E : XK) (scope : Scope) (f c' : Addr) : Cx :=
  (LamX.lamCx X A outer s H (fun _ _ _ => False) scope f c').tr [] fun e s' =>
    wpAny (model X.prog X.w) (A.deeper (LamX.lamEnv X scope s.heap.objs.size f c')) (leaving (LamX.lamEnv X scope s.heap.objs.size f c') e) (fun _ s2 => L2N.CX X.prog X.w outer H s E e s2) (fun e2 s2 => L2N.CX X.prog X.w outer H s E e2 s2) s'
section
variable {X : Cx} {pins : List (Addr × Obj)} {σ : L2.St} {H HZ : Hp} {s s1 : Shared}
theorem pe_actN {Ng : List Str} {qg : Str} {sg : Scope} {g f c' : Addr} {cdg pm ctv : Value} {params : Arguments} {body : Expr} {scope : Scope} {k : Nat} {a : Str} {pn : List (Addr × Obj)} {xe : Value → Shared → Prop} {W : WX} {E : XK} {tb : TE} {p1 p2 : Pos}
    (I : Inv X pins σ H s) (L : LamX.LamS X.env.scope scope) (hf : s.heap.get? f = some (PySem.W.kla_obj "<lambda>" (X.env.qual ++ "<lambda>") params body scope (cloFrom X.env.cells scope.names []) pm c' ctv)) (hfn : H f = none) (hfr : f ∉ frs X.stack)
    (hbind : bindArgs (PySem.W.kla_fn "<lambda>" (X.env.qual ++ "<lambda>") params body scope (cloFrom X.env.cells scope.names []) pm (.ref c') ctv) ⟨[], []⟩ = pure [])
    (tk : L2N.Takes ((cxOf CX0 X.prog X.w X.K X.mg X.base Ng qg sg g cdg X.A X.stack s H E0).tr pn xe) W) (hW : ∀ cls d σ' H', E cls d H' → W cls d σ' H') (hr : Room (k + 1) (X.A.deeper (envOfC qg sg s.heap.objs.size g cdg)))
    (hbody : ∀ (A : Around) (outer : List Env) (s : Shared) (H : Hp), Room k (A.deeper (LamX.lamEnv X scope s.heap.objs.size f c')) → PE (lamN X A outer s H E scope f c') body tb)
    (hN : Ng[0]? = some a) (hv : Vis sg a) (hd : (a == ("__debug__" : Str)) = false) (hcd : (a == ("__classdict__" : Str)) = false) :
    PE ((cxOf CX0 X.prog X.w X.K X.mg X.base Ng qg sg g cdg X.A X.stack s H E0).tr pn xe) (.Call (.Name a p1) [] [] p2)
      (fun σZ HZ Q => σZ[0]? = some (some (.ref f)) ∧ HZ c' = some (LamX.CodeO c' (X.env.qual ++ "<lambda>")) ∧ tb σ HZ Q) := by
  refine ⟨fun pinsZ sZ σZ HZ Q IZ h => ?_⟩
  obtain ⟨hs, hc, ht⟩ := h
  refine wpAny_Call_Name_kw (thn ((pe_var (pos := p1) (i := 0) hN hv hd hcd).run pinsZ sZ σZ HZ (fun v H1 => v = .ref f ∧ H1 = HZ) IZ ⟨.ref f, hs, rfl, rfl⟩) fun u s1 got => ?_)
  obtain ⟨v, H1, I1, r1, rfl, eH⟩ := got
  rw [eH] at I1
  obtain rfl : u = Value.ref f := r1
  have of1 : s1.heap.get? f = some (PySem.W.kla_obj "<lambda>" (X.env.qual ++ "<lambda>") params body scope (cloFrom X.env.cells scope.names []) pm c' ctv) := I1.base.keep f _ hf hfn hfr (fun z => nomatch (show f ∈ ([] : List Addr) from z))
  refine PySem.W.callWith_F0 ⟨_, _, _, _, of1⟩ ?_
  have un : Un (frs X.stack) [] H HZ s.heap s1.heap := I1.base
  obtain ⟨⟨oc, vs, t, hoc, hdc, hvc⟩, _, _⟩ := I1.hok c' _ hc
  have rc : codeAny (model X.prog X.w) (X.A.deeper (envOfC qg sg s.heap.objs.size g cdg)) (.call (.ref f) ⟨[], []⟩) (CR (L2N.CX X.prog X.w) (envOfC qg sg s.heap.objs.size g cdg :: X.stack) X.prog X.w HZ s1 Q E) s1 := by
    refine PySem.W.kla_callFunE hr.depth of1 rfl L.co L.gen rfl ⟨c', oc, vs, t, rfl, hoc, hdc, hvc⟩ ?_
    rw [hbind]
    refine wpAny_pure (wpAny_newFunctionEnv (fun y hy => (L.own y hy).2) (fun y hy => absurd hy (by simp)) (fun h1 hns hsb => ⟨I1.nolimit.fresh _ hsb, ?_⟩) L.kind)
    show codeAny _ _ (.expr body (LamX.lamEnv X scope s1.heap.objs.size f c')) _ _
    have kp : ∀ b o, s1.heap.get? b = some o → h1.get? b = some o := fun b o e => hsb.extBut b o (Nat.ne_of_lt (Heap.lt_size e)) (Heap.get?_push_of_some _ e)
    have J0 := LamX.lam_start2 (E := fun _ _ _ => False) (f := f) (c' := c') (tk := s1.toks + ([] : List (Str × Value)).length) I L I1.env0 hr.hd un hns kp
    have J : Inv (lamN X (X.A.deeper (envOfC qg sg s.heap.objs.size g cdg)) (envOfC qg sg s.heap.objs.size g cdg :: X.stack) s1 HZ E scope f c') [] σ HZ _ := J0.toTry _
    refine PySem.W.kla_codeExpr (wpAny_mono ((hbody _ _ s1 HZ (hr.deeper _)).run [] _ _ HZ Q J ht) (fun v s' got => ?_) fun _ _ hq => hq)
    obtain ⟨v', H', J', rv, q⟩ := got
    exact ⟨v', H', J'.os, J'.bare, J'.base, J'.hok, rv, q⟩
  refine wpAny_call (codeAny_mono rc fun res s' hq => ?_)
  cases res with
  | error e => exact L2N.passes_call tk hW pinsZ σZ HZ s1 e s' I1 hq
  | ok fl =>
    cases fl with
    | ret u => exact I1.after hq
    | next => exact False.elim hq
    | brk => exact False.elim hq
    | cont => exact False.elim hq
end
/-- the def that calls what it was handed: a calls it; TT tells what it makes of the lambda's reading -/
def GivesN (X : Cx) (k : Nat) (Ng : List Str) (x : Str) (sg : Scope) (g : Addr) (cdg : Value) (bg : List Stmt) (a : Str) (q : Str) (TT : (XK → Hp → VK → Prop) → Hp → VK → Prop) : Prop :=
  ∀ (f c' : Addr) (s : Shared) (H : Hp) (Q : VK) (tl : XK → Hp → VK → Prop), Room (k + 1) (X.A.deeper (envOfC x sg s.heap.objs.size g cdg)) →
    (∀ (W : WX) (pn : List (Addr × Obj)) (xe : Value → Shared → Prop) (E : XK) (p1 p2 : Pos), L2N.Takes ((cxOf CX0 X.prog X.w X.K X.mg X.base Ng x sg g cdg X.A X.stack s H E0).tr pn xe) W → (∀ cls d σ' H', E cls d H' → W cls d σ' H') →
      PE ((cxOf CX0 X.prog X.w X.K X.mg X.base Ng x sg g cdg X.A X.stack s H E0).tr pn xe) (.Call (.Name a p1) [] [] p2) (fun σZ HZ Q => σZ[0]? = some (some (.ref f)) ∧ HZ c' = some (LamX.CodeO c' q) ∧ tl E HZ Q)) →
    H c' = some (LamX.CodeO c' q) → TT tl H Q →
    ∃ t, PSs (cxOf CX0 X.prog X.w X.K X.mg X.base Ng x sg g cdg X.A X.stack s H E0).nox bg t ∧ t { nx := fun _ H' => Q .non H', rt := Q } (L2.start Ng [.ref f]) H
section
variable {X : Cx}
theorem pe_lamN {T : List (Addr × Str)} {TT : (XK → Hp → VK → Prop) → Hp → VK → Prop} {x a : Str} {g c P : Addr} {k : Nat} {fd : FuncData} {st : Stmt} {Ng : List Str} {params : Arguments} {body : Expr} {scope : Scope} {t : XK → TE} {p lpos pos : Pos}
    (F : Fun X.K x x st g fd) (hg : Gl X x) (hm : X.mg x = some (.ref g)) (hb : L2.Binds X.K fd [a] []) (Sg : FnScope Ng [a] (defScope st)) (hNg : Ng[0]? = some a) (hva : Vis (defScope st) a)
    (hG : ∀ cdv, GivesN X k Ng x (defScope st) g cdv (defBody st) a (X.env.qual ++ "<lambda>") TT)
    (TB : LamX.TabB X.base X.mg c P) (hcode : X.env.code = .ref c) (hmT : (P, X.env.qual ++ "<lambda>") ∈ T) (hu : ∀ p ∈ T, p.1 = P → p.2 = X.env.qual ++ "<lambda>") (hr : Room (k + 2) X.A) (L : LamX.LamS X.env.scope scope) (hdef : defaultsOf params X.env = ([], []))
    (hbind : ∀ (q : Str) (cl : List (Str × Addr)) (pm cv ctv : Value), bindArgs (PySem.W.kla_fn "<lambda>" q params body scope cl pm cv ctv) ⟨[], []⟩ = pure [])
    (hbody : ∀ (A : Around) (outer : List Env) (s : Shared) (H : Hp) (E : XK) (f c' : Addr), Room k (A.deeper (LamX.lamEnv X scope s.heap.objs.size f c')) → PE (lamN X A outer s H E scope f c') body (t E))
    (hdb : (x == ("__debug__" : Str)) = false := by decide) (hd : (a == ("__debug__" : Str)) = false := by decide) (hcd : (a == ("__classdict__" : Str)) = false := by decide) :
    PE X (.Call (.Name x p) [.Lambda params body scope lpos] [] pos) (LamX.tLam T TT t) := by
  obtain ⟨oc, od, kV, doc, pm, an, cdv, ct, osl, rfl, lk, hcg⟩ := F.ex
  refine ⟨fun pins s σ H Q I h => ?_⟩
  obtain ⟨hT, h⟩ := h
  refine wpAny_Call_Name_kw (ld_glob I hg hm ?_ hdb)
  refine PySem.W.callWith_K (h₀ := X.base) I.ok.mod.kin F.kp ?_ (by rfl) (by rfl)
  show wpAny _ _ (spliced ((false, eval (.Lambda params body scope lpos) X.env) :: backTo pos (starEach [] X.env))) _ _ s
  refine Calls.spliced_cons (LamX.lam_make2 I TB hcode hmT hu hT hdef (L.has I.ok) fun f c' pm' ctv H1 s' I1 eN T1 hf hfn hfr hco => ?_)
  refine Calls.spliced_nil ⟨I1.kIn, ?_⟩
  have rc : codeAny (model X.prog X.w) X.A (.call (.ref g) ⟨[.ref f], []⟩) (CR CX0 X.stack X.prog X.w H1 s' Q E0) s' := by
    refine LamX.run_ofS (N := Ng) (ps := [a]) (us := [.ref f]) (vs := [.ref f]) lk hcg Sg hr I1.env0 (hb s' [.ref f] I1.kIn rfl) (.cons rfl .nil) rfl fun hr' => ?_
    obtain ⟨t', ht', hq'⟩ := hG cdv f c' s' H1 Q (fun E H' Q' => t E σ H' Q') hr' (fun W pn xe E p1 p2 tk hW => pe_actN I1 L hf hfn hfr (hbind _ _ _ _ _) tk hW hr' (fun A outer s H hr2 => hbody A outer s H E f c' hr2) hNg hva hd hcd) hco (h H1 eN T1)
    exact ⟨t', ht'.nox, hq'⟩
  refine wpAny_call (codeAny_mono rc fun res s2 hq => ?_)
  cases res with
  | error e => exact (show False from hq).elim
  | ok fl =>
    cases fl with
    | ret u => exact I1.after hq
    | next => exact False.elim hq
    | brk => exact False.elim hq
    | cont => exact False.elim hq
end
end EPX
set_option maxHeartbeats 4000000
namespace EPX
open PySem PySem.Spec PyProof.Rows L2 L2H
theorem un_over {fs fs' : List Addr} {H H1 H2 : Hp} {h h1 h2 : Heap} (a : Un fs [] H H1 h h1) (b : Un fs' [] H1 H2 h1 h2) (hs : ∀ c ∈ fs', c ∈ fs ∨ h.get? c = none) : Un fs [] H H2 h h2 where
  keep := fun c ob q n hc hx => b.keep c ob (a.keep c ob q n hc hx) (a.free c ob q n hx) (fun z => (hs c z).elim hc fun e => by rw [e] at q; cases q) hx
  slot := fun c ob q n hc hx => by
    obtain ⟨sl, e1⟩ := a.slot c ob q n hc hx
    obtain ⟨sl', e2⟩ := b.any e1 (a.free c ob q n hx) hx
    exact ⟨sl', e2⟩
  free := fun c ob q n hx => by
    obtain ⟨o', e1⟩ := a.there c ob q hx
    exact b.free c o' e1 (a.free c ob q n hx) hx
  there := fun c ob q hx => by
    obtain ⟨o', e1⟩ := a.there c ob q hx
    exact b.there c o' e1 hx
  tups := fun c xs q => b.tups c xs (a.tups c xs q)
  frzs := fun c ob xs q => b.frzs c ob xs (a.frzs c ob xs q)
  tbls := fun c ps q => by
    obtain ⟨m1, e1⟩ := a.tbls c ps q
    obtain ⟨m2, e2⟩ := b.tbls c _ e1
    exact ⟨m1 ++ m2, by rw [e2, Array.append_assoc]⟩
section
variable {X : Cx} {pins : List (Addr × Obj)} {σ : L2.St} {H : Hp} {s : Shared}
/-- a lambda made at s runs, wherever it is called while X's frame waits -/
theorem lam_runs {f c' : Addr} {pm ctv : Value} {params : Arguments} {body : Expr} {scope : Scope} {k : Nat} {E : XK} {tb : TE} {A : Around} {outer : List Env} {s1 : Shared} {HZ : Hp} {Q : VK}
    (I : Inv X pins σ H s) (L : LamX.LamS X.env.scope scope) (hf : s.heap.get? f = some (PySem.W.kla_obj "<lambda>" (X.env.qual ++ "<lambda>") params body scope (cloFrom X.env.cells scope.names []) pm c' ctv)) (hfn : H f = none) (hfr : f ∉ frs X.stack)
    (hbind : bindArgs (PySem.W.kla_fn "<lambda>" (X.env.qual ++ "<lambda>") params body scope (cloFrom X.env.cells scope.names []) pm (.ref c') ctv) ⟨[], []⟩ = pure [])
    (hbody : ∀ (A : Around) (outer : List Env) (s : Shared) (H : Hp), Room k (A.deeper (LamX.lamEnv X scope s.heap.objs.size f c')) → PE (lamN X A outer s H E scope f c') body tb)
    (hr : Room (k + 1) A) (e0 : Env0 X.prog X.w X.K X.mg X.base A outer s1 HZ) (un : Un (frs X.stack) [] H HZ s.heap s1.heap) (hc : HZ c' = some (LamX.CodeO c' (X.env.qual ++ "<lambda>"))) (ht : tb σ HZ Q) :
    codeAny (model X.prog X.w) A (.call (.ref f) ⟨[], []⟩) (CR (L2N.CX X.prog X.w) outer X.prog X.w HZ s1 Q E) s1 := by
  have of1 := un.keep f _ hf hfn hfr (fun z => nomatch (show f ∈ ([] : List Addr) from z))
  obtain ⟨⟨oc, vs, t, hoc, hdc, hvc⟩, _, _⟩ := e0.hok c' _ hc
  have lim : s1.heap.NoLimit := e0.mod.nolimit.keeps fun b o e => (e0.bs b o e).1
  refine PySem.W.kla_callFunE hr.depth of1 rfl L.co L.gen rfl ⟨c', oc, vs, t, rfl, hoc, hdc, hvc⟩ ?_
  rw [hbind]
  refine wpAny_pure (wpAny_newFunctionEnv (fun y hy => (L.own y hy).2) (fun y hy => absurd hy (by simp)) (fun h1 hns hsb => ⟨lim.fresh _ hsb, ?_⟩) L.kind)
  show codeAny _ _ (.expr body (LamX.lamEnv X scope s1.heap.objs.size f c')) _ _
  have kp : ∀ b o, s1.heap.get? b = some o → h1.get? b = some o := fun b o e => hsb.extBut b o (Nat.ne_of_lt (Heap.lt_size e)) (Heap.get?_push_of_some _ e)
  have J0 := LamX.lam_start2 (E := fun _ _ _ => False) (f := f) (c' := c') (tk := s1.toks + ([] : List (Str × Value)).length) I L e0 hr.hd un hns kp
  have J : Inv (lamN X A outer s1 HZ E scope f c') [] σ HZ _ := J0.toTry _
  refine PySem.W.kla_codeExpr (wpAny_mono ((hbody _ _ s1 HZ (hr.deeper _)).run [] _ _ HZ Q J ht) (fun v s' got => ?_) fun _ _ hq => hq)
  obtain ⟨v', H', J', rv, q⟩ := got
  exact ⟨v', H', J'.os, J'.bare, J'.base, J'.hok, rv, q⟩
/-- a() in a def that was entered at s0 -/
theorem pe_actG {Ng : List Str} {qg : Str} {sg : Scope} {g f c' : Addr} {cdg pm ctv : Value} {params : Arguments} {body : Expr} {scope : Scope} {k : Nat} {a : Str} {pn : List (Addr × Obj)} {xe : Value → Shared → Prop} {W : WX} {tb : XK → TE} {p1 p2 : Pos} {A0 : Around} {outer0 : List Env} {s0 : Shared} {H0 : Hp}
    (I : Inv X pins σ H s) (L : LamX.LamS X.env.scope scope) (hf : s.heap.get? f = some (PySem.W.kla_obj "<lambda>" (X.env.qual ++ "<lambda>") params body scope (cloFrom X.env.cells scope.names []) pm c' ctv)) (hfn : H f = none) (hfr : f ∉ frs X.stack)
    (hbind : bindArgs (PySem.W.kla_fn "<lambda>" (X.env.qual ++ "<lambda>") params body scope (cloFrom X.env.cells scope.names []) pm (.ref c') ctv) ⟨[], []⟩ = pure [])
    (hbody : ∀ (A : Around) (outer : List Env) (s : Shared) (H : Hp) (E : XK), Room k (A.deeper (LamX.lamEnv X scope s.heap.objs.size f c')) → PE (lamN X A outer s H E scope f c') body (tb E))
    (far : Un (frs X.stack) [] H H0 s.heap s0.heap) (sub : ∀ c ∈ frs outer0, c ∈ frs X.stack ∨ s.heap.get? c = none)
    (tk : L2N.Takes ((cxOf CX0 X.prog X.w X.K X.mg X.base Ng qg sg g cdg A0 outer0 s0 H0 E0).tr pn xe) W) (hr : Room (k + 1) (A0.deeper (envOfC qg sg s0.heap.objs.size g cdg)))
    (hN : Ng[0]? = some a) (hv : Vis sg a) (hd : (a == ("__debug__" : Str)) = false) (hcd : (a == ("__classdict__" : Str)) = false) :
    PE ((cxOf CX0 X.prog X.w X.K X.mg X.base Ng qg sg g cdg A0 outer0 s0 H0 E0).tr pn xe) (.Call (.Name a p1) [] [] p2)
      (fun σZ HZ Q => σZ[0]? = some (some (.ref f)) ∧ HZ c' = some (LamX.CodeO c' (X.env.qual ++ "<lambda>")) ∧ tb (fun cls d H' => W cls d σZ H') σ HZ Q) := by
  refine ⟨fun pinsZ sZ σZ HZ Q IZ h => ?_⟩
  obtain ⟨hs, hc, ht⟩ := h
  refine wpAny_Call_Name_kw (thn ((pe_var (pos := p1) (i := 0) hN hv hd hcd).run pinsZ sZ σZ HZ (fun v H1 => v = .ref f ∧ H1 = HZ) IZ ⟨.ref f, hs, rfl, rfl⟩) fun u s1 got => ?_)
  obtain ⟨v, H1, I1, r1, rfl, eH⟩ := got
  rw [eH] at I1
  obtain rfl : u = Value.ref f := r1
  have un : Un (frs X.stack) [] H HZ s.heap s1.heap := un_over far I1.base sub
  have of1 := un.keep f _ hf hfn hfr (fun z => nomatch (show f ∈ ([] : List Addr) from z))
  refine PySem.W.callWith_F0 ⟨_, _, _, _, of1⟩ ?_
  refine wpAny_call (codeAny_mono (lam_runs (X := X) I L hf hfn hfr hbind (fun A outer s H hr => hbody A outer s H _ hr) hr I1.env0 un hc ht) fun res s' hq => ?_)
  cases res with
  | error e => exact L2N.passAt tk σZ pinsZ HZ s1 e s' I1 hq
  | ok fl =>
    cases fl with
    | ret u => exact I1.after hq
    | next => exact False.elim hq
    | brk => exact False.elim hq
    | cont => exact False.elim hq
/-- what such a def may use of the lambda: to call it by the name a, once it is entered -/
def Acts (X : Cx) (Ng : List Str) (x : Str) (sg : Scope) (g : Addr) (cdg : Value) (a : Str) (q : Str) (f c' : Addr) (A0 : Around) (outer0 : List Env) (s0 : Shared) (H0 : Hp) (tl : XK → Hp → VK → Prop) : Prop :=
  ∀ (W : WX) (pn : List (Addr × Obj)) (xe : Value → Shared → Prop) (p1 p2 : Pos), L2N.Takes ((cxOf CX0 X.prog X.w X.K X.mg X.base Ng x sg g cdg A0 outer0 s0 H0 E0).tr pn xe) W →
    PE ((cxOf CX0 X.prog X.w X.K X.mg X.base Ng x sg g cdg A0 outer0 s0 H0 E0).tr pn xe) (.Call (.Name a p1) [] [] p2) (fun σZ HZ Q => σZ[0]? = some (some (.ref f)) ∧ HZ c' = some (LamX.CodeO c' q) ∧ tl (fun cls d H' => W cls d σZ H') HZ Q)
/-- a def that calls the lambda itself -/
def Takes1 (X : Cx) (k : Nat) (Ng : List Str) (x : Str) (st : Stmt) (g : Addr) (a : Str) (q : Str) (TT : (XK → Hp → VK → Prop) → Hp → VK → Prop) : Prop :=
  ∀ (cdg : Value) (f c' : Addr) (A0 : Around) (outer0 : List Env) (s0 : Shared) (H0 : Hp) (Q : VK) (tl : XK → Hp → VK → Prop), Room (k + 1) (A0.deeper (envOfC x (defScope st) s0.heap.objs.size g cdg)) → Acts X Ng x (defScope st) g cdg a q f c' A0 outer0 s0 H0 tl →
    H0 c' = some (LamX.CodeO c' q) → TT tl H0 Q →
    ∃ t, PSs (cxOf CX0 X.prog X.w X.K X.mg X.base Ng x (defScope st) g cdg A0 outer0 s0 H0 E0).nox (defBody st) t ∧ t { nx := fun _ H' => Q .non H', rt := Q } (L2.start Ng [.ref f]) H0
/-- x(lambda: body) -/
theorem pe_lam1 {T : List (Addr × Str)} {TT : (XK → Hp → VK → Prop) → Hp → VK → Prop} {x a : Str} {g c P : Addr} {k : Nat} {fd : FuncData} {st : Stmt} {Ng : List Str} {params : Arguments} {body : Expr} {scope : Scope} {t : XK → TE} {p lpos pos : Pos}
    (F : Fun X.K x x st g fd) (hg : Gl X x) (hm : X.mg x = some (.ref g)) (hb : L2.Binds X.K fd [a] []) (Sg : FnScope Ng [a] (defScope st)) (hNg : Ng[0]? = some a) (hva : Vis (defScope st) a)
    (hG : Takes1 X k Ng x st g a (X.env.qual ++ "<lambda>") TT)
    (TB : LamX.TabB X.base X.mg c P) (hcode : X.env.code = .ref c) (hmT : (P, X.env.qual ++ "<lambda>") ∈ T) (hu : ∀ p ∈ T, p.1 = P → p.2 = X.env.qual ++ "<lambda>") (hr : Room (k + 2) X.A) (L : LamX.LamS X.env.scope scope) (hdef : defaultsOf params X.env = ([], []))
    (hbind : ∀ (q : Str) (cl : List (Str × Addr)) (pm cv ctv : Value), bindArgs (PySem.W.kla_fn "<lambda>" q params body scope cl pm cv ctv) ⟨[], []⟩ = pure [])
    (hbody : ∀ (A : Around) (outer : List Env) (s : Shared) (H : Hp) (E : XK) (f c' : Addr), Room k (A.deeper (LamX.lamEnv X scope s.heap.objs.size f c')) → PE (lamN X A outer s H E scope f c') body (t E))
    (hdb : (x == ("__debug__" : Str)) = false := by decide) (hd : (a == ("__debug__" : Str)) = false := by decide) (hcd : (a == ("__classdict__" : Str)) = false := by decide) :
    PE X (.Call (.Name x p) [.Lambda params body scope lpos] [] pos) (LamX.tLam T TT t) := by
  obtain ⟨oc, od, kV, doc, pm, an, cdv, ct, osl, rfl, lk, hcg⟩ := F.ex
  refine ⟨fun pins s σ H Q I h => ?_⟩
  obtain ⟨hT, h⟩ := h
  refine wpAny_Call_Name_kw (ld_glob I hg hm ?_ hdb)
  refine PySem.W.callWith_K (h₀ := X.base) I.ok.mod.kin F.kp ?_ (by rfl) (by rfl)
  show wpAny _ _ (spliced ((false, eval (.Lambda params body scope lpos) X.env) :: backTo pos (starEach [] X.env))) _ _ s
  refine Calls.spliced_cons (LamX.lam_make2 I TB hcode hmT hu hT hdef (L.has I.ok) fun f c' pm' ctv H1 s' I1 eN T1 hf hfn hfr hco => ?_)
  refine Calls.spliced_nil ⟨I1.kIn, ?_⟩
  have rc : codeAny (model X.prog X.w) X.A (.call (.ref g) ⟨[.ref f], []⟩) (CR CX0 X.stack X.prog X.w H1 s' Q E0) s' := by
    refine LamX.run_ofS (N := Ng) (ps := [a]) (us := [.ref f]) (vs := [.ref f]) lk hcg Sg hr I1.env0 (hb s' [.ref f] I1.kIn rfl) (.cons rfl .nil) rfl fun hr' => ?_
    have act : Acts X Ng x (defScope st) g cdv a (X.env.qual ++ "<lambda>") f c' X.A X.stack s' H1 (fun E H' Q' => t E σ H' Q') := fun W pn xe p1 p2 tk =>
      pe_actG (tb := t) I1 L hf hfn hfr (hbind _ _ _ _ _) (fun A outer s H E hr2 => hbody A outer s H E f c' hr2) Un.refl (fun c hc => .inl hc) tk hr' hNg hva hd hcd
    obtain ⟨t', ht', hq'⟩ := hG cdv f c' X.A X.stack s' H1 Q _ hr' act hco (h H1 eN T1)
    exact ⟨t', ht'.nox, hq'⟩
  refine wpAny_call (codeAny_mono rc fun res s2 hq => ?_)
  cases res with
  | error e => exact (show False from hq).elim
  | ok fl =>
    cases fl with
    | ret u => exact I1.after hq
    | next => exact False.elim hq
    | brk => exact False.elim hq
    | cont => exact False.elim hq
/-- x(lambda: body) where x hands its argument on: return y(b)[1:] -/
theorem pe_lam2 {T : List (Addr × Str)} {TT : (XK → Hp → VK → Prop) → Hp → VK → Prop} {x a y b : Str} {g gy c P : Addr} {k : Nat} {fd fdy : FuncData} {st sty : Stmt} {Ng Ny : List Str} {params : Arguments} {body : Expr} {scope : Scope} {t : XK → TE} {p lpos pos : Pos}
    (F : Fun X.K x x st g fd) (hg : Gl X x) (hm : X.mg x = some (.ref g)) (hb : L2.Binds X.K fd [a] []) (Sg : FnScope Ng [a] (defScope st)) (hNg : Ng[0]? = some a) (hva : Vis (defScope st) a)
    (Fy : Fun X.K y y sty gy fdy) (hgy : (defScope st).names.lookup y = some .globalImplicit) (hmy : X.mg y = some (.ref gy)) (hby : L2.Binds X.K fdy [b] []) (Sy : FnScope Ny [b] (defScope sty)) (hNy : Ny[0]? = some b) (hvb : Vis (defScope sty) b)
    (hG : Takes1 X k Ny y sty gy b (X.env.qual ++ "<lambda>") TT)
    (hrest : ∀ (cdg : Value) (f c' : Addr) (A0 : Around) (outer0 : List Env) (s0 : Shared) (H0 : Hp) (Q : VK) (tl : XK → Hp → VK → Prop),
      (∀ (q1 q2 q3 : Pos), PE (cxOf CX0 X.prog X.w X.K X.mg X.base Ng x (defScope st) g cdg A0 outer0 s0 H0 E0).nox (.Call (.Name y q1) [.Name a q2] [] q3) (fun σZ HZ Q => σZ[0]? = some (some (.ref f)) ∧ HZ c' = some (LamX.CodeO c' (X.env.qual ++ "<lambda>")) ∧ TT tl HZ Q)) →
      H0 c' = some (LamX.CodeO c' (X.env.qual ++ "<lambda>")) → TT tl H0 (fun v H' => ∃ p xs, v = .ref p ∧ SqT X.K H' p xs ∧ 1 < xs.length ∧ xs.length < 1000 ∧ ∀ l, H' l = none → Q (.ref l) (upd H' l (.tup (xs.drop 1)))) →
      ∃ t, PSs (cxOf CX0 X.prog X.w X.K X.mg X.base Ng x (defScope st) g cdg A0 outer0 s0 H0 E0).nox (defBody st) t ∧ t { nx := fun _ H' => Q .non H', rt := Q } (L2.start Ng [.ref f]) H0)
    (TB : LamX.TabB X.base X.mg c P) (hcode : X.env.code = .ref c) (hmT : (P, X.env.qual ++ "<lambda>") ∈ T) (hu : ∀ p ∈ T, p.1 = P → p.2 = X.env.qual ++ "<lambda>") (hr : Room (k + 3) X.A) (L : LamX.LamS X.env.scope scope) (hdef : defaultsOf params X.env = ([], []))
    (hbind : ∀ (q : Str) (cl : List (Str × Addr)) (pm cv ctv : Value), bindArgs (PySem.W.kla_fn "<lambda>" q params body scope cl pm cv ctv) ⟨[], []⟩ = pure [])
    (hbody : ∀ (A : Around) (outer : List Env) (s : Shared) (H : Hp) (E : XK) (f c' : Addr), Room k (A.deeper (LamX.lamEnv X scope s.heap.objs.size f c')) → PE (lamN X A outer s H E scope f c') body (t E))
    (hdb : (x == ("__debug__" : Str)) = false := by decide) (hda : (a == ("__debug__" : Str)) = false := by decide) (hca : (a == ("__classdict__" : Str)) = false := by decide) (hdy : (y == ("__debug__" : Str)) = false := by decide) (hd : (b == ("__debug__" : Str)) = false := by decide) (hcd : (b == ("__classdict__" : Str)) = false := by decide) :
    PE X (.Call (.Name x p) [.Lambda params body scope lpos] [] pos)
      (LamX.tLam T (fun tl H Q => TT tl H (fun v H' => ∃ p xs, v = .ref p ∧ SqT X.K H' p xs ∧ 1 < xs.length ∧ xs.length < 1000 ∧ ∀ l, H' l = none → Q (.ref l) (upd H' l (.tup (xs.drop 1))))) t) := by
  obtain ⟨oc, od, kV, doc, pm, an, cdv, ct, osl, rfl, lk, hcg⟩ := F.ex
  obtain ⟨ocy, ody, kVy, docy, pmy, any, cdvy, cty, osly, rfl, lky, hcgy⟩ := Fy.ex
  refine ⟨fun pins s σ H Q I h => ?_⟩
  obtain ⟨hT, h⟩ := h
  refine wpAny_Call_Name_kw (ld_glob I hg hm ?_ hdb)
  refine PySem.W.callWith_K (h₀ := X.base) I.ok.mod.kin F.kp ?_ (by rfl) (by rfl)
  show wpAny _ _ (spliced ((false, eval (.Lambda params body scope lpos) X.env) :: backTo pos (starEach [] X.env))) _ _ s
  refine Calls.spliced_cons (LamX.lam_make2 I TB hcode hmT hu hT hdef (L.has I.ok) fun f c' pm' ctv H1 s' I1 eN T1 hf hfn hfr hco => ?_)
  refine Calls.spliced_nil ⟨I1.kIn, ?_⟩
  have rc : codeAny (model X.prog X.w) X.A (.call (.ref g) ⟨[.ref f], []⟩) (CR CX0 X.stack X.prog X.w H1 s' Q E0) s' := by
    refine LamX.run_ofS (k := k + 2) (N := Ng) (ps := [a]) (us := [.ref f]) (vs := [.ref f]) lk hcg Sg hr I1.env0 (hb s' [.ref f] I1.kIn rfl) (.cons rfl .nil) rfl fun hr' => ?_
    have callY : ∀ (q1 q2 q3 : Pos), PE (cxOf CX0 X.prog X.w X.K X.mg X.base Ng x (defScope st) g cdv X.A X.stack s' H1 E0).nox (.Call (.Name y q1) [.Name a q2] [] q3) (fun σZ HZ Q => σZ[0]? = some (some (.ref f)) ∧ HZ c' = some (LamX.CodeO c' (X.env.qual ++ "<lambda>")) ∧ TT (fun E H' Q' => t E σ H' Q') HZ Q) := by
      refine fun q1 q2 q3 => ⟨fun pinsZ sZ σZ HZ QZ IZ hz => ?_⟩
      obtain ⟨z1, z2, z3⟩ := hz
      refine wpAny_Call_Name_kw (ld_glob IZ hgy hmy ?_ hdy)
      refine PySem.W.callWith_K (h₀ := X.base) IZ.ok.mod.kin Fy.kp ?_ (by rfl) (by rfl)
      refine thn ((pa_cons (pe_var (pos := q2) (i := 0) hNg hva hda hca) pa_nil).run q3 pinsZ sZ σZ HZ (fun vs H2 => vs = [.ref f] ∧ H2 = HZ) IZ ⟨.ref f, z1, rfl, rfl⟩) fun us s2 got => ?_
      obtain ⟨vs2, H2, I2, r2, rfl, eH⟩ := got
      rw [eH] at I2
      obtain rfl : us = [Value.ref f] := by
        cases r2 with
        | cons q1' q2' => cases q2'; cases q1'; rfl
      refine ⟨I2.kIn, ?_⟩
      have ry : codeAny (model X.prog X.w) (X.A.deeper (envOfC x (defScope st) s'.heap.objs.size g cdv)) (.call (.ref gy) ⟨[.ref f], []⟩) (CR CX0 (envOfC x (defScope st) s'.heap.objs.size g cdv :: X.stack) X.prog X.w HZ s2 QZ E0) s2 := by
        refine LamX.run_ofS (k := k + 1) (N := Ny) (ps := [b]) (us := [.ref f]) (vs := [.ref f]) lky hcgy Sy hr' I2.env0 (hby s2 [.ref f] I2.kIn rfl) (.cons rfl .nil) rfl fun hr2 => ?_
        have sub : ∀ c0 ∈ frs (envOfC x (defScope st) s'.heap.objs.size g cdv :: X.stack), c0 ∈ frs X.stack ∨ s'.heap.get? c0 = none := fun c0 hc0 => by
          obtain ⟨ev, hev, e1⟩ := List.mem_filterMap.mp hc0
          rcases List.mem_cons.mp hev with rfl | hin
          · have : s'.heap.objs.size = c0 := Option.some.inj e1
            right
            cases hq : s'.heap.get? c0 with
            | none => rfl
            | some o => exact absurd (Heap.lt_size hq) (by rw [← this]; exact Nat.lt_irrefl _)
          · exact .inl (List.mem_filterMap.mpr ⟨ev, hin, e1⟩)
        have act : Acts X Ny y (defScope sty) gy cdvy b (X.env.qual ++ "<lambda>") f c' (X.A.deeper (envOfC x (defScope st) s'.heap.objs.size g cdv)) (envOfC x (defScope st) s'.heap.objs.size g cdv :: X.stack) s2 HZ (fun E H' Q' => t E σ H' Q') := fun W pn xe p1 p2 tk =>
          pe_actG (tb := t) I1 L hf hfn hfr (hbind _ _ _ _ _) (fun A outer s H E hr3 => hbody A outer s H E f c' hr3) I2.base sub tk hr2 hNy hvb hd hcd
        obtain ⟨t2, ht2, hq2⟩ := hG cdvy f c' _ _ s2 HZ QZ _ hr2 act z2 z3
        exact ⟨t2, ht2.nox, hq2⟩
      refine wpAny_call (codeAny_mono ry fun res s3 hq => ?_)
      cases res with
      | error e => exact (show False from hq).elim
      | ok fl =>
        cases fl with
        | ret u => exact I2.after hq
        | next => exact False.elim hq
        | brk => exact False.elim hq
        | cont => exact False.elim hq
    obtain ⟨t', ht', hq'⟩ := hrest cdv f c' X.A X.stack s' H1 Q (fun E H' Q' => t E σ H' Q') callY hco (h H1 eN T1)
    exact ⟨t', ht'.nox, hq'⟩
  refine wpAny_call (codeAny_mono rc fun res s2 hq => ?_)
  cases res with
  | error e => exact (show False from hq).elim
  | ok fl =>
    cases fl with
    | ret u => exact I1.after hq
    | next => exact False.elim hq
    | brk => exact False.elim hq
    | cont => exact False.elim hq
end
end EPX
namespace EP
theorem brF {b : Bool} {A B : Prop} (h : b = false) (x : B) : if b = true then A else B := by rw [h]; exact L2.iteF x
theorem brT {b : Bool} {A B : Prop} (h : b = true) (x : A) : if b = true then A else B := by rw [h]; exact L2.iteT x
end EP
namespace EPX
open PySem PySem.Spec PyProof.Rows L2 L2H EP
theorem exm_one {K : PySem.W.Frag} {C D : Addr} {b : Bool} (h1 : PySem.W.subIn K (.ref D) (.type "BaseException") = some true) (h2 : PySem.W.isClsIn K D = true) (h3 : PySem.W.typeIn K (.ref D) = some (.type "type")) (h4 : PySem.W.subIn K (.ref C) (.ref D) = some b) :
    PySem.W.exmOne K (.ref C) (.ref D) = some b := by
  have e1 : (PySem.W.subIn K (.ref D) (.type "BaseException") == some true) = true := by rw [h1]; rfl
  have h2' : (PySem.W.clsIn K D).isSome = true := h2
  have e2 : ((PySem.W.clsIn K D).isSome && PySem.W.typeIn K (.ref D) == some (.type "type")) = true := by rw [h2', h3]; rfl
  unfold PySem.W.exmOne
  rw [if_pos e1]
  show (if ((PySem.W.clsIn K D).isSome && PySem.W.typeIn K (.ref D) == some (.type "type")) = true then PySem.W.subIn K (.ref C) (.ref D) else none) = some b
  rw [if_pos e2]
  exact h4
theorem exm_two {K : PySem.W.Frag} {cls c1 c2 : Value} {b1 b2 : Bool} (h1 : PySem.W.exmOne K cls c1 = some b1) (h2 : PySem.W.exmOne K cls c2 = some b2) : PySem.W.exmAny K cls [c1, c2] = some (b1 || b2) := by
  unfold PySem.W.exmAny
  rw [h1]
  unfold PySem.W.exmAny
  rw [h2]
  unfold PySem.W.exmAny
  simp
/-- a def of the text, whatever it lets out -/
theorem fun_okC {P : Program} {w : World} {K : PySem.W.Frag} {mg : Str → Option Value} {base : Heap} {CX : CXT} {x qual : Str} {st : Stmt} {f : Addr} {fd : FuncData} {N ps : List Str} {k : Nat} {sp : Sp} (F : Fun K x qual st f fd) (S : FnScope N ps (defScope st)) (len : ∀ vs H Q E, sp vs H Q E → vs.length = ps.length)
    (hbody : ∀ (cdv : Value) (A : Around) (outer : List Env) (s : Shared) (H : Hp) (vs : List V) (Q : VK) (E : XK), Room k (A.deeper (envOfC qual (defScope st) s.heap.objs.size f cdv)) → sp vs H Q E →
      ∃ t, PSs (cxOf CX P w K mg base N qual (defScope st) f cdv A outer s H E) (defBody st) t ∧ t { nx := fun _ H' => Q .non H', rt := Q } (L2.start N vs) H) : FnOk P w K mg base CX (k + 1) f fd ps sp := by
  obtain ⟨oc, od, kV, doc, pm, an, cdv, ct, osl, rfl, lk, hcd⟩ := F.ex
  exact fn_of lk hcd S len fun A outer s H vs Q E hr hsp => hbody cdv A outer s H vs Q E hr hsp
/-! ### heaps and tables -/
theorem sqt_xt {K : PySem.W.Frag} {H H' : Hp} {a : Addr} {xs : List V} (h : SqT K H a xs) (e : LamX.ExtN H H') : SqT K H' a xs := by
  rcases h with (h | ⟨o, h⟩) | h
  · exact .inl (.inl (e _ _ h fun ps z => by cases z))
  · exact .inl (.inr ⟨o, e _ _ h fun ps z => by cases z⟩)
  · exact .inr h
theorem Fr_xt {K : PySem.W.Frag} {H H' : Hp} {v : V} {a b : Int} (h : Fr K H v a b) (e : LamX.ExtN H H') : Fr K H' v a b := by
  obtain ⟨p, ev, h⟩ := h
  exact ⟨p, ev, sqt_xt h e⟩
theorem Fq_xt {K : PySem.W.Frag} {H H' : Hp} {n : Nat} {v : V} {a b : Int} (h : Fq K H n v a b) (e : LamX.ExtN H H') : Fq K H' n v a b := ⟨Fr_xt h.f e, h.p, h.ba, h.bb, h.g⟩
theorem Rng_xt {H H' : Hp} {r : Addr} (h : Rng H r) (e : LamX.ExtN H H') : Rng H' r := by
  obtain ⟨L, ns, i, c, sd, h1, h2, h3⟩ := h
  exact ⟨L, ns, i, c, sd, e _ _ h1 (fun ps z => by cases z), e _ _ h2 (fun ps z => by cases z), h3⟩
theorem Tabs_mo {T : List (Addr × Str)} {r : Addr} {H H' : Hp} (t : LamX.Tabs T H) (m : Mo r H H') : LamX.Tabs T H' := fun p hp => by
  obtain ⟨ps, h1, h2, h3⟩ := t p hp
  obtain ⟨L, ns, i, c, sd, g1, _⟩ := m.a
  refine ⟨ps, m.g _ _ (fun e => by rw [e, g1] at h1; cases h1) h1, h2, fun pos cv hc => ?_⟩
  obtain ⟨c, e1, e2⟩ := h3 pos cv hc
  exact ⟨c, e1, m.g _ _ (fun e => by rw [e, g1] at e2; unfold LamX.CodeO at e2; cases e2) e2⟩
/-! ### the promises of the errors -/
def spPaceInit (K : PySem.W.Frag) : Sp := fun vs H Q _ => ∃ (a C : Addr) (tag : V), vs = [.ref a, tag] ∧ OexC K C ∧ H a = some (exo a C none) ∧ PySem.W.findIn K (.ref C) "tag" = some none ∧ ∀ dx, H dx = none → dx ≠ a → Q .non (upd (upd H dx (exd dx [("tag", tag)])) a (exo a C (some dx)))
def spFieldInit (K : PySem.W.Frag) (tag nm : Str) : Sp := fun vs H Q _ => ∃ (a C : Addr) (v : V), vs = [.ref a, v] ∧ OexC K C ∧ H a = some (exo a C none) ∧ PySem.W.findIn K (.ref C) "tag" = some none ∧ PySem.W.findIn K (.ref C) nm = some none ∧ ∀ dx, H dx = none → dx ≠ a → Q .non (upd (upd (upd H dx (exd dx [("tag", .str tag)])) a (exo a C (some dx))) dx (exd dx [(nm, v), ("tag", .str tag)]))
/-- an error of the class at C with these fields -/
def ErrIs (C : Addr) (fs : List (Str × V)) (cls : Value) (d : Option Addr) (H : Hp) : Prop := cls = .ref C ∧ ∃ dd, d = some dd ∧ H dd = some (.xd fs)
/-- what an error's making and raising leaves -/
theorem raised {H H1 : Hp} {a d C : Addr} {fs : List (Str × V)} {o : HO} (hs : Same H H1) (na : H1 a = none) (nd : H1 d = none) (hda : d ≠ a) : Same H (upd (del (upd (upd (upd (upd H1 a (exo a C none)) d o) a (exo a C (some d))) d (exd d fs)) a) d (.xd fs)) := fun b u e => by
  have hb := hs b u e
  have ba : b ≠ a := ne_of_none hb na
  have bd : b ≠ d := ne_of_none hb nd
  rw [upd_ne bd, del_ne ba, upd_ne bd, upd_ne ba, upd_ne bd, upd_ne ba]
  exact hb
def fieldName (tag : Str) : Str := if tag = "InvalidCount" then "number" else "position"
def spErrF (K : PySem.W.Frag) (tag nm : Str) : SpE := fun a cls d vs H Q => vs = [.ref a] ∧ ∃ (C dd : Addr) (v : V), cls = .ref C ∧ d = some dd ∧ XfC K C ∧ PySem.W.findIn K (.ref C) "tag" = some none ∧ PySem.W.findIn K (.ref C) nm = some none ∧ H dd = some (.xd [(nm, v), ("tag", .str tag)]) ∧ ∀ H', Same H H' → Q v H'
def spFloorSumX (K : PySem.W.Frag) (C : Addr) : Sp := fun vs H Q E => ∃ (n : Int) (x y : V) (a b c d : Int), vs = [.int n, x, y] ∧ Fr K H x a b ∧ Fr K H y c d ∧ 0 < b ∧ 0 < d ∧ B 1000 n ∧ B 1000 a ∧ B 1000 b ∧ B 1000 c ∧ B 1000 d ∧
  (n < 0 → ∀ cls d' H', Same H H' → ErrIs C [("number", .int n), ("tag", .str "InvalidCount")] cls d' H' → E cls d' H') ∧
  (0 ≤ n → ∀ z H', Same H H' → (∀ R b' M : Int, 0 < M → R * b = a * M → b' * d = c * M → z = FS n.toNat R b' M) → Q (.int z) H')
/-- what an outcome is: the answer, or the tag and the field of one of the errors -/
def TOut (ok : Value → Option Addr → Hp → V → V → Prop) : (XK → Hp → VK → Prop) → Hp → VK → Prop := fun tl H Q => ∀ (E : XK) (Qn : VK) (H1 : Hp), Same H H1 →
  (∀ cls d H', (∃ tag v, ok cls d H' tag v ∧ ∀ p H2, Same H' H2 → H2 p = some (.tup [.non, tag, v]) → Q (.ref p) H2) → E cls d H') →
  (∀ v H', (∀ p H2, Same H' H2 → H2 p = some (.tup [v, .str "", .non]) → Q (.ref p) H2) → Qn v H') → tl E H1 Qn
end EPX
namespace EP
open PySem PySem.Spec PyProof.Rows L2 EPX
def topS (i : Nat) : Stmt := PySem.Challenge.pw_evenpace_k06_sums_of_floors.main.body.getD i (.Pass ⟨0, 0, 0, 0⟩)
abbrev s_gcd : Stmt := topS 7
abbrev N_gcd : List Str := ["one", "other"]
abbrev Ps_gcd : List Str := ["one", "other"]
theorem sc_gcd : FnScope N_gcd Ps_gcd (defScope s_gcd) := ⟨rfl, rfl, rfl, by decide +kernel, rfl, by decide +kernel, by decide +kernel⟩
abbrev s_common_denominator : Stmt := topS 9
abbrev N_common_denominator : List Str := ["values", "result", "value"]
abbrev Ps_common_denominator : List Str := ["values"]
theorem sc_common_denominator : FnScope N_common_denominator Ps_common_denominator (defScope s_common_denominator) := ⟨rfl, rfl, rfl, by decide +kernel, rfl, by decide +kernel, by decide +kernel⟩
abbrev s_whole : Stmt := topS 10
abbrev N_whole : List Str := ["value", "common"]
abbrev Ps_whole : List Str := ["value", "common"]
theorem sc_whole : FnScope N_whole Ps_whole (defScope s_whole) := ⟨rfl, rfl, rfl, by decide +kernel, rfl, by decide +kernel, by decide +kernel⟩
abbrev s_floor_sum : Stmt := topS 11
abbrev N_floor_sum : List Str := ["count", "slope", "offset", "den", "rise", "base", "result", "top"]
abbrev Ps_floor_sum : List Str := ["count", "slope", "offset"]
theorem sc_floor_sum : FnScope N_floor_sum Ps_floor_sum (defScope s_floor_sum) := ⟨rfl, rfl, rfl, by decide +kernel, rfl, by decide +kernel, by decide +kernel⟩
abbrev s_l_source : Stmt := topS 13
abbrev N_l_source : List Str := ["_law_script", "_law_seed", "_law_cell"]
abbrev Ps_l_source : List Str := ["_law_script"]
theorem sc_l_source : FnScope N_l_source Ps_l_source (defScope s_l_source) := ⟨rfl, rfl, rfl, by decide +kernel, rfl, by decide +kernel, by decide +kernel⟩
abbrev s_l_draw : Stmt := topS 14
abbrev N_l_draw : List Str := ["_law_rng", "_law_many", "_law_cell", "_law_got", "_law_seed"]
abbrev Ps_l_draw : List Str := ["_law_rng", "_law_many"]
theorem sc_l_draw : FnScope N_l_draw Ps_l_draw (defScope s_l_draw) := ⟨rfl, rfl, rfl, by decide +kernel, rfl, by decide +kernel, by decide +kernel⟩
abbrev s_l_choice : Stmt := topS 15
abbrev N_l_choice : List Str := ["_law_rng", "_law_some"]
abbrev Ps_l_choice : List Str := ["_law_rng", "_law_some"]
theorem sc_l_choice : FnScope N_l_choice Ps_l_choice (defScope s_l_choice) := ⟨rfl, rfl, rfl, by decide +kernel, rfl, by decide +kernel, by decide +kernel⟩
abbrev s_l_equal : Stmt := topS 16
abbrev N_l_equal : List Str := ["_law_result", "_law_expected", "_law_a", "_law_b"]
abbrev Ps_l_equal : List Str := ["_law_result", "_law_expected"]
theorem sc_l_equal : FnScope N_l_equal Ps_l_equal (defScope s_l_equal) := ⟨rfl, rfl, rfl, by decide +kernel, rfl, by decide +kernel, by decide +kernel⟩
abbrev s_l_error_field : Stmt := topS 17
abbrev N_l_error_field : List Str := ["_law_e"]
abbrev Ps_l_error_field : List Str := ["_law_e"]
theorem sc_l_error_field : FnScope N_l_error_field Ps_l_error_field (defScope s_l_error_field) := ⟨rfl, rfl, rfl, by decide +kernel, rfl, by decide +kernel, by decide +kernel⟩
abbrev s_l_outcome : Stmt := topS 18
abbrev N_l_outcome : List Str := ["_law_ask", "_law_answer", "_law_tag", "_law_field", "_law_e"]
abbrev Ps_l_outcome : List Str := ["_law_ask"]
theorem sc_l_outcome : FnScope N_l_outcome Ps_l_outcome (defScope s_l_outcome) := ⟨rfl, rfl, rfl, by decide +kernel, rfl, by decide +kernel, by decide +kernel⟩
abbrev s_l_error : Stmt := topS 19
abbrev N_l_error : List Str := ["_law_ask"]
abbrev Ps_l_error : List Str := ["_law_ask"]
theorem sc_l_error : FnScope N_l_error Ps_l_error (defScope s_l_error) := ⟨rfl, rfl, rfl, by decide +kernel, rfl, by decide +kernel, by decide +kernel⟩
abbrev s_l_divisor : Stmt := topS 20
abbrev N_l_divisor : List Str := ["_law_one", "_law_other"]
abbrev Ps_l_divisor : List Str := ["_law_one", "_law_other"]
theorem sc_l_divisor : FnScope N_l_divisor Ps_l_divisor (defScope s_l_divisor) := ⟨rfl, rfl, rfl, by decide +kernel, rfl, by decide +kernel, by decide +kernel⟩
abbrev s_l_reduce : Stmt := topS 21
abbrev N_l_reduce : List Str := ["_law_num", "_law_den", "_law_by", "_law_sign"]
abbrev Ps_l_reduce : List Str := ["_law_num", "_law_den"]
theorem sc_l_reduce : FnScope N_l_reduce Ps_l_reduce (defScope s_l_reduce) := ⟨rfl, rfl, rfl, by decide +kernel, rfl, by decide +kernel, by decide +kernel⟩
abbrev s_l_add : Stmt := topS 22
abbrev N_l_add : List Str := ["_law_one", "_law_other"]
abbrev Ps_l_add : List Str := ["_law_one", "_law_other"]
theorem sc_l_add : FnScope N_l_add Ps_l_add (defScope s_l_add) := ⟨rfl, rfl, rfl, by decide +kernel, rfl, by decide +kernel, by decide +kernel⟩
abbrev s_l_times : Stmt := topS 23
abbrev N_l_times : List Str := ["_law_number", "_law_one"]
abbrev Ps_l_times : List Str := ["_law_number", "_law_one"]
theorem sc_l_times : FnScope N_l_times Ps_l_times (defScope s_l_times) := ⟨rfl, rfl, rfl, by decide +kernel, rfl, by decide +kernel, by decide +kernel⟩
abbrev s_l_floor : Stmt := topS 24
abbrev N_l_floor : List Str := ["_law_one"]
abbrev Ps_l_floor : List Str := ["_law_one"]
theorem sc_l_floor : FnScope N_l_floor Ps_l_floor (defScope s_l_floor) := ⟨rfl, rfl, rfl, by decide +kernel, rfl, by decide +kernel, by decide +kernel⟩
abbrev s_l_small : Stmt := topS 25
abbrev N_l_small : List Str := ["_law_rng"]
abbrev Ps_l_small : List Str := ["_law_rng"]
theorem sc_l_small : FnScope N_l_small Ps_l_small (defScope s_l_small) := ⟨rfl, rfl, rfl, by decide +kernel, rfl, by decide +kernel, by decide +kernel⟩
abbrev s_l_wide : Stmt := topS 26
abbrev N_l_wide : List Str := ["_law_rng", "_law_wide_here"]
abbrev Ps_l_wide : List Str := ["_law_rng"]
theorem sc_l_wide : FnScope N_l_wide Ps_l_wide (defScope s_l_wide) := ⟨rfl, rfl, rfl, by decide +kernel, rfl, by decide +kernel, by decide +kernel⟩
abbrev s_law : Stmt := topS 27
abbrev N_law : List Str := ["_law_script", "_law_rng", "_law_turn", "_law_due", "_law_count", "_law_far", "_law_offset", "_law_slope", "_law_k"]
abbrev Ps_law : List Str := ["_law_script"]
theorem sc_law : FnScope N_law Ps_law (defScope s_law) := ⟨rfl, rfl, rfl, by decide +kernel, rfl, by decide +kernel, by decide +kernel⟩
abbrev si_PaceError : Stmt := inClass (topS 1) 0
theorem sci_PaceError : FnScope ["self", "tag"] ["self", "tag"] (defScope si_PaceError) := ⟨rfl, rfl, rfl, by decide +kernel, rfl, by decide +kernel, by decide +kernel⟩
abbrev si_InvalidCount : Stmt := inClass (topS 3) 0
theorem sci_InvalidCount : FnScope ["self", "number"] ["self", "number"] (defScope si_InvalidCount) := ⟨rfl, rfl, rfl, by decide +kernel, rfl, by decide +kernel, by decide +kernel⟩
structure DefT (K : PySem.W.Frag) (mg : Str → Option Value) (n : Str) (s : Stmt) (ps : List Str) where
  f : Addr
  d : FuncData
  F : Fun K n n s f d
  b : Binds K d ps []
  g : mg n = some (.ref f)
set_option maxHeartbeats 8000000 in
structure Txt (K : PySem.W.Frag) (mg : Str → Option Value) where
  D_gcd : DefT K mg "gcd" s_gcd Ps_gcd
  D_common_denominator : DefT K mg "common_denominator" s_common_denominator Ps_common_denominator
  D_whole : DefT K mg "whole" s_whole Ps_whole
  D_floor_sum : DefT K mg "floor_sum" s_floor_sum Ps_floor_sum
  D_l_source : DefT K mg "_law_source" s_l_source Ps_l_source
  D_l_draw : DefT K mg "_law_draw" s_l_draw Ps_l_draw
  D_l_choice : DefT K mg "_law_choice" s_l_choice Ps_l_choice
  D_l_equal : DefT K mg "_law_equal" s_l_equal Ps_l_equal
  D_l_error_field : DefT K mg "_law_error_field" s_l_error_field Ps_l_error_field
  D_l_outcome : DefT K mg "_law_outcome" s_l_outcome Ps_l_outcome
  D_l_error : DefT K mg "_law_error" s_l_error Ps_l_error
  D_l_divisor : DefT K mg "_law_divisor" s_l_divisor Ps_l_divisor
  D_l_reduce : DefT K mg "_law_reduce" s_l_reduce Ps_l_reduce
  D_l_add : DefT K mg "_law_add" s_l_add Ps_l_add
  D_l_times : DefT K mg "_law_times" s_l_times Ps_l_times
  D_l_floor : DefT K mg "_law_floor" s_l_floor Ps_l_floor
  D_l_small : DefT K mg "_law_small" s_l_small Ps_l_small
  D_l_wide : DefT K mg "_law_wide" s_l_wide Ps_l_wide
  D_law : DefT K mg "law" s_law Ps_law
  m_ValueError : mg "ValueError" = none
  m_abs : mg "abs" = none
  m_len : mg "len" = none
  m_list : mg "list" = none
  m_isinstance : mg "isinstance" = none
  m_tuple : mg "tuple" = none
  m_all : mg "all" = none
  m_zip : mg "zip" = none
  m_bool : mg "bool" = none
  m_int : mg "int" = none
  m_str : mg "str" = none
  m_range : mg "range" = none
  m_sum : mg "sum" = none
  c_PaceError : Addr
  gc_PaceError : mg "PaceError" = some (.ref c_PaceError)
  c_NotFound : Addr
  gc_NotFound : mg "NotFound" = some (.ref c_NotFound)
  c_InvalidCount : Addr
  gc_InvalidCount : mg "InvalidCount" = some (.ref c_InvalidCount)
  c_ZeroDenominator : Addr
  gc_ZeroDenominator : mg "ZeroDenominator" = some (.ref c_ZeroDenominator)
  c_EmptyHistory : Addr
  gc_EmptyHistory : mg "EmptyHistory" = some (.ref c_EmptyHistory)
  fi_PaceError : Addr
  di_PaceError : FuncData
  Fi_PaceError : Fun K "__init__" "PaceError.__init__" si_PaceError fi_PaceError di_PaceError
  bi_PaceError : Binds K di_PaceError ["self", "tag"] []
  fi_InvalidCount : Addr
  di_InvalidCount : FuncData
  Fi_InvalidCount : Fun K "__init__" "InvalidCount.__init__" si_InvalidCount fi_InvalidCount di_InvalidCount
  bi_InvalidCount : Binds K di_InvalidCount ["self", "number"] []
  vVE : PySem.W.findCls K (.type "ValueError") (.type "type") "__init__" = some (.val (.builtin "ValueError.__init__"))
  ownP : EPX.OwnFn K c_PaceError fi_PaceError "__init__"
  oexC : OexC K c_InvalidCount
  iC : PySem.W.findIn K (.ref c_InvalidCount) "__init__" = some (some (.ref fi_InvalidCount))
  tI : PySem.W.typeIn K (.ref fi_InvalidCount) = some (.type "function")
  nTag : PySem.W.findIn K (.ref c_InvalidCount) "tag" = some none
  nNum : PySem.W.findIn K (.ref c_InvalidCount) "number" = some none
  xfC : XfC K c_InvalidCount
  exA : PySem.W.exmAny K (.ref c_InvalidCount) [.ref c_PaceError, .ref c_NotFound] = some true
abbrev Txt.f_gcd {K : PySem.W.Frag} {mg : Str → Option Value} (T : Txt K mg) := T.D_gcd.f
abbrev Txt.d_gcd {K : PySem.W.Frag} {mg : Str → Option Value} (T : Txt K mg) := T.D_gcd.d
abbrev Txt.F_gcd {K : PySem.W.Frag} {mg : Str → Option Value} (T : Txt K mg) := T.D_gcd.F
abbrev Txt.b_gcd {K : PySem.W.Frag} {mg : Str → Option Value} (T : Txt K mg) := T.D_gcd.b
abbrev Txt.g_gcd {K : PySem.W.Frag} {mg : Str → Option Value} (T : Txt K mg) := T.D_gcd.g
abbrev Txt.f_common_denominator {K : PySem.W.Frag} {mg : Str → Option Value} (T : Txt K mg) := T.D_common_denominator.f
abbrev Txt.d_common_denominator {K : PySem.W.Frag} {mg : Str → Option Value} (T : Txt K mg) := T.D_common_denominator.d
abbrev Txt.F_common_denominator {K : PySem.W.Frag} {mg : Str → Option Value} (T : Txt K mg) := T.D_common_denominator.F
abbrev Txt.b_common_denominator {K : PySem.W.Frag} {mg : Str → Option Value} (T : Txt K mg) := T.D_common_denominator.b
abbrev Txt.g_common_denominator {K : PySem.W.Frag} {mg : Str → Option Value} (T : Txt K mg) := T.D_common_denominator.g
abbrev Txt.f_whole {K : PySem.W.Frag} {mg : Str → Option Value} (T : Txt K mg) := T.D_whole.f
abbrev Txt.d_whole {K : PySem.W.Frag} {mg : Str → Option Value} (T : Txt K mg) := T.D_whole.d
abbrev Txt.F_whole {K : PySem.W.Frag} {mg : Str → Option Value} (T : Txt K mg) := T.D_whole.F
abbrev Txt.b_whole {K : PySem.W.Frag} {mg : Str → Option Value} (T : Txt K mg) := T.D_whole.b
abbrev Txt.g_whole {K : PySem.W.Frag} {mg : Str → Option Value} (T : Txt K mg) := T.D_whole.g
abbrev Txt.f_floor_sum {K : PySem.W.Frag} {mg : Str → Option Value} (T : Txt K mg) := T.D_floor_sum.f
abbrev Txt.d_floor_sum {K : PySem.W.Frag} {mg : Str → Option Value} (T : Txt K mg) := T.D_floor_sum.d
abbrev Txt.F_floor_sum {K : PySem.W.Frag} {mg : Str → Option Value} (T : Txt K mg) := T.D_floor_sum.F
abbrev Txt.b_floor_sum {K : PySem.W.Frag} {mg : Str → Option Value} (T : Txt K mg) := T.D_floor_sum.b
abbrev Txt.g_floor_sum {K : PySem.W.Frag} {mg : Str → Option Value} (T : Txt K mg) := T.D_floor_sum.g
abbrev Txt.f_l_source {K : PySem.W.Frag} {mg : Str → Option Value} (T : Txt K mg) := T.D_l_source.f
abbrev Txt.d_l_source {K : PySem.W.Frag} {mg : Str → Option Value} (T : Txt K mg) := T.D_l_source.d
abbrev Txt.F_l_source {K : PySem.W.Frag} {mg : Str → Option Value} (T : Txt K mg) := T.D_l_source.F
abbrev Txt.b_l_source {K : PySem.W.Frag} {mg : Str → Option Value} (T : Txt K mg) := T.D_l_source.b
abbrev Txt.g_l_source {K : PySem.W.Frag} {mg : Str → Option Value} (T : Txt K mg) := T.D_l_source.g
abbrev Txt.f_l_draw {K : PySem.W.Frag} {mg : Str → Option Value} (T : Txt K mg) := T.D_l_draw.f
abbrev Txt.d_l_draw {K : PySem.W.Frag} {mg : Str → Option Value} (T : Txt K mg) := T.D_l_draw.d
abbrev Txt.F_l_draw {K : PySem.W.Frag} {mg : Str → Option Value} (T : Txt K mg) := T.D_l_draw.F
abbrev Txt.b_l_draw {K : PySem.W.Frag} {mg : Str → Option Value} (T : Txt K mg) := T.D_l_draw.b
abbrev Txt.g_l_draw {K : PySem.W.Frag} {mg : Str → Option Value} (T : Txt K mg) := T.D_l_draw.g
abbrev Txt.f_l_choice {K : PySem.W.Frag} {mg : Str → Option Value} (T : Txt K mg) := T.D_l_choice.f
abbrev Txt.d_l_choice {K : PySem.W.Frag} {mg : Str → Option Value} (T : Txt K mg) := T.D_l_choice.d
abbrev Txt.F_l_choice {K : PySem.W.Frag} {mg : Str → Option Value} (T : Txt K mg) := T.D_l_choice.F
abbrev Txt.b_l_choice {K : PySem.W.Frag} {mg : Str → Option Value} (T : Txt K mg) := T.D_l_choice.b
abbrev Txt.g_l_choice {K : PySem.W.Frag} {mg : Str → Option Value} (T : Txt K mg) := T.D_l_choice.g
abbrev Txt.f_l_equal {K : PySem.W.Frag} {mg : Str → Option Value} (T : Txt K mg) := T.D_l_equal.f
abbrev Txt.d_l_equal {K : PySem.W.Frag} {mg : Str → Option Value} (T : Txt K mg) := T.D_l_equal.d
abbrev Txt.F_l_equal {K : PySem.W.Frag} {mg : Str → Option Value} (T : Txt K mg) := T.D_l_equal.F
abbrev Txt.b_l_equal {K : PySem.W.Frag} {mg : Str → Option Value} (T : Txt K mg) := T.D_l_equal.b
abbrev Txt.g_l_equal {K : PySem.W.Frag} {mg : Str → Option Value} (T : Txt K mg) := T.D_l_equal.g
abbrev Txt.f_l_error_field {K : PySem.W.Frag} {mg : Str → Option Value} (T : Txt K mg) := T.D_l_error_field.f
abbrev Txt.d_l_error_field {K : PySem.W.Frag} {mg : Str → Option Value} (T : Txt K mg) := T.D_l_error_field.d
abbrev Txt.F_l_error_field {K : PySem.W.Frag} {mg : Str → Option Value} (T : Txt K mg) := T.D_l_error_field.F
abbrev Txt.b_l_error_field {K : PySem.W.Frag} {mg : Str → Option Value} (T : Txt K mg) := T.D_l_error_field.b
abbrev Txt.g_l_error_field {K : PySem.W.Frag} {mg : Str → Option Value} (T : Txt K mg) := T.D_l_error_field.g
abbrev Txt.f_l_outcome {K : PySem.W.Frag} {mg : Str → Option Value} (T : Txt K mg) := T.D_l_outcome.f
abbrev Txt.d_l_outcome {K : PySem.W.Frag} {mg : Str → Option Value} (T : Txt K mg) := T.D_l_outcome.d
abbrev Txt.F_l_outcome {K : PySem.W.Frag} {mg : Str → Option Value} (T : Txt K mg) := T.D_l_outcome.F
abbrev Txt.b_l_outcome {K : PySem.W.Frag} {mg : Str → Option Value} (T : Txt K mg) := T.D_l_outcome.b
abbrev Txt.g_l_outcome {K : PySem.W.Frag} {mg : Str → Option Value} (T : Txt K mg) := T.D_l_outcome.g
abbrev Txt.f_l_error {K : PySem.W.Frag} {mg : Str → Option Value} (T : Txt K mg) := T.D_l_error.f
abbrev Txt.d_l_error {K : PySem.W.Frag} {mg : Str → Option Value} (T : Txt K mg) := T.D_l_error.d
abbrev Txt.F_l_error {K : PySem.W.Frag} {mg : Str → Option Value} (T : Txt K mg) := T.D_l_error.F
abbrev Txt.b_l_error {K : PySem.W.Frag} {mg : Str → Option Value} (T : Txt K mg) := T.D_l_error.b
abbrev Txt.g_l_error {K : PySem.W.Frag} {mg : Str → Option Value} (T : Txt K mg) := T.D_l_error.g
abbrev Txt.f_l_divisor {K : PySem.W.Frag} {mg : Str → Option Value} (T : Txt K mg) := T.D_l_divisor.f
abbrev Txt.d_l_divisor {K : PySem.W.Frag} {mg : Str → Option Value} (T : Txt K mg) := T.D_l_divisor.d
abbrev Txt.F_l_divisor {K : PySem.W.Frag} {mg : Str → Option Value} (T : Txt K mg) := T.D_l_divisor.F
abbrev Txt.b_l_divisor {K : PySem.W.Frag} {mg : Str → Option Value} (T : Txt K mg) := T.D_l_divisor.b
abbrev Txt.g_l_divisor {K : PySem.W.Frag} {mg : Str → Option Value} (T : Txt K mg) := T.D_l_divisor.g
abbrev Txt.f_l_reduce {K : PySem.W.Frag} {mg : Str → Option Value} (T : Txt K mg) := T.D_l_reduce.f
abbrev Txt.d_l_reduce {K : PySem.W.Frag} {mg : Str → Option Value} (T : Txt K mg) := T.D_l_reduce.d
abbrev Txt.F_l_reduce {K : PySem.W.Frag} {mg : Str → Option Value} (T : Txt K mg) := T.D_l_reduce.F
abbrev Txt.b_l_reduce {K : PySem.W.Frag} {mg : Str → Option Value} (T : Txt K mg) := T.D_l_reduce.b
abbrev Txt.g_l_reduce {K : PySem.W.Frag} {mg : Str → Option Value} (T : Txt K mg) := T.D_l_reduce.g
abbrev Txt.f_l_add {K : PySem.W.Frag} {mg : Str → Option Value} (T : Txt K mg) := T.D_l_add.f
abbrev Txt.d_l_add {K : PySem.W.Frag} {mg : Str → Option Value} (T : Txt K mg) := T.D_l_add.d
abbrev Txt.F_l_add {K : PySem.W.Frag} {mg : Str → Option Value} (T : Txt K mg) := T.D_l_add.F
abbrev Txt.b_l_add {K : PySem.W.Frag} {mg : Str → Option Value} (T : Txt K mg) := T.D_l_add.b
abbrev Txt.g_l_add {K : PySem.W.Frag} {mg : Str → Option Value} (T : Txt K mg) := T.D_l_add.g
abbrev Txt.f_l_times {K : PySem.W.Frag} {mg : Str → Option Value} (T : Txt K mg) := T.D_l_times.f
abbrev Txt.d_l_times {K : PySem.W.Frag} {mg : Str → Option Value} (T : Txt K mg) := T.D_l_times.d
abbrev Txt.F_l_times {K : PySem.W.Frag} {mg : Str → Option Value} (T : Txt K mg) := T.D_l_times.F
abbrev Txt.b_l_times {K : PySem.W.Frag} {mg : Str → Option Value} (T : Txt K mg) := T.D_l_times.b
abbrev Txt.g_l_times {K : PySem.W.Frag} {mg : Str → Option Value} (T : Txt K mg) := T.D_l_times.g
abbrev Txt.f_l_floor {K : PySem.W.Frag} {mg : Str → Option Value} (T : Txt K mg) := T.D_l_floor.f
abbrev Txt.d_l_floor {K : PySem.W.Frag} {mg : Str → Option Value} (T : Txt K mg) := T.D_l_floor.d
abbrev Txt.F_l_floor {K : PySem.W.Frag} {mg : Str → Option Value} (T : Txt K mg) := T.D_l_floor.F
abbrev Txt.b_l_floor {K : PySem.W.Frag} {mg : Str → Option Value} (T : Txt K mg) := T.D_l_floor.b
abbrev Txt.g_l_floor {K : PySem.W.Frag} {mg : Str → Option Value} (T : Txt K mg) := T.D_l_floor.g
abbrev Txt.f_l_small {K : PySem.W.Frag} {mg : Str → Option Value} (T : Txt K mg) := T.D_l_small.f
abbrev Txt.d_l_small {K : PySem.W.Frag} {mg : Str → Option Value} (T : Txt K mg) := T.D_l_small.d
abbrev Txt.F_l_small {K : PySem.W.Frag} {mg : Str → Option Value} (T : Txt K mg) := T.D_l_small.F
abbrev Txt.b_l_small {K : PySem.W.Frag} {mg : Str → Option Value} (T : Txt K mg) := T.D_l_small.b
abbrev Txt.g_l_small {K : PySem.W.Frag} {mg : Str → Option Value} (T : Txt K mg) := T.D_l_small.g
abbrev Txt.f_l_wide {K : PySem.W.Frag} {mg : Str → Option Value} (T : Txt K mg) := T.D_l_wide.f
abbrev Txt.d_l_wide {K : PySem.W.Frag} {mg : Str → Option Value} (T : Txt K mg) := T.D_l_wide.d
abbrev Txt.F_l_wide {K : PySem.W.Frag} {mg : Str → Option Value} (T : Txt K mg) := T.D_l_wide.F
abbrev Txt.b_l_wide {K : PySem.W.Frag} {mg : Str → Option Value} (T : Txt K mg) := T.D_l_wide.b
abbrev Txt.g_l_wide {K : PySem.W.Frag} {mg : Str → Option Value} (T : Txt K mg) := T.D_l_wide.g
abbrev Txt.f_law {K : PySem.W.Frag} {mg : Str → Option Value} (T : Txt K mg) := T.D_law.f
abbrev Txt.d_law {K : PySem.W.Frag} {mg : Str → Option Value} (T : Txt K mg) := T.D_law.d
abbrev Txt.F_law {K : PySem.W.Frag} {mg : Str → Option Value} (T : Txt K mg) := T.D_law.F
abbrev Txt.b_law {K : PySem.W.Frag} {mg : Str → Option Value} (T : Txt K mg) := T.D_law.b
abbrev Txt.g_law {K : PySem.W.Frag} {mg : Str → Option Value} (T : Txt K mg) := T.D_law.g
section
variable {P : Program} {w : World} {K : PySem.W.Frag} {mg : Str → Option Value} {base : Heap}
theorem ok_paceInit (T : Txt K mg) : FnOk P w K mg base CX0 1 T.fi_PaceError T.di_PaceError ["self", "tag"] (spPaceInit K) := by
  refine T.Fi_PaceError.ok sci_PaceError (fun vs H Q E h => ?_) (fun cdv A outer s H vs Q E hr h => ?_)
  · obtain ⟨a, C, v, rfl, _⟩ := h; rfl
  · obtain ⟨a, C, v, rfl, hO, ha, hn, q⟩ := h
    refine ⟨_, pss_cons (ps_expr (pe_veinit (by rfl) T.m_ValueError T.vVE (pa_cons (pv 0) (pa_cons (pv 1) pa_nil)))) (pss_one (ps_ost (pv 0) (pv 1))), ?_⟩
    refine ⟨_, rfl, _, rfl, a, C, [v], rfl, by simp, hO, ha, ?_⟩
    exact ⟨_, rfl, _, rfl, a, C, rfl, hO, hn, .inl ⟨ha, fun dx nd ne => q dx nd ne⟩⟩
theorem ok_countInit (T : Txt K mg) : FnOk P w K mg base CX0 2 T.fi_InvalidCount T.di_InvalidCount ["self", "number"] (spFieldInit K "InvalidCount" "number") := by
  refine T.Fi_InvalidCount.ok sci_InvalidCount (fun vs H Q E h => ?_) (fun cdv A outer s H vs Q E hr h => ?_)
  · obtain ⟨a, C, v, rfl, _⟩ := h; rfl
  · obtain ⟨a, C, v, rfl, hO, ha, hn, hn2, q⟩ := h
    refine ⟨_, pss_cons (ps_expr (EPX.pe_ownfn (ok_paceInit T) T.ownP hr (by rfl) T.gc_PaceError T.bi_PaceError pass0 (pa_cons (pv 0) (pa_cons pe_str pa_nil)))) (pss_one (ps_ost (pv 0) (pv 1))), ?_⟩
    refine ⟨_, rfl, a, C, _, rfl, hO, ha, hn, fun dx nd ne => ?_⟩
    refine ⟨_, rfl, _, rfl, a, C, rfl, hO, hn2, .inr ⟨dx, [("tag", .str "InvalidCount")], upd_same, ?_, by simp, q dx nd ne⟩⟩
    rw [upd_ne ne, upd_same]
theorem ok_gcd (T : Txt K mg) : FnOk P w K mg base CX0 1 T.f_gcd T.d_gcd Ps_gcd spGcd := by
  refine T.F_gcd.ok sc_gcd (fun vs H Q E h => ?_) (fun cdv A outer s H vs Q E hr h => ?_)
  · obtain ⟨a, b, rfl, _⟩ := h; rfl
  · obtain ⟨a, b, rfl, q⟩ := h
    refine ⟨_, (pss_cons (ps_par (i := 0) (j := 1) (by rfl) sc_gcd.nd rfl rfl (by decide) rfl rfl (pa_cons (pe_callB call_abs (by rfl) T.m_abs (by decide +kernel) (pa_cons (pv 0) pa_nil)) (pa_cons (pe_callB call_abs (by rfl) T.m_abs (by decide +kernel) (pa_cons (pv 1) pa_nil)) pa_nil)) (by rfl))
      (pss_cons (ps_while PassesOwn.never (pt_cmpR op_ne (pv 1) pe_int (nomark _)) (pss_one (ps_par (i := 0) (j := 1) (by rfl) sc_gcd.nd rfl rfl (by decide) rfl rfl (pa_cons (pv 1) (pa_cons (pe_op op_mod (pv 0) (pv 1)) pa_nil)) (by rfl))))
      (pss_one (ps_ret (pv 0))))), ?_⟩
    refine ⟨.int a, rfl, a, rfl, .int b, rfl, b, rfl, _, _, rfl, ?_⟩
    refine while_by (fun σ H' => H' = H ∧ ∃ x y : Int, σ = [some (.int x), some (.int y)] ∧ 0 ≤ x ∧ 0 ≤ y ∧ Int.gcd x y = Int.gcd a b) (fun σ _ => match σ with | [_, some (.int y)] => y.toNat | _ => 0) ?_ ?_ (fun σ H Q Q' h ⟨v, e, s, k, ek, q⟩ => ⟨v, e, s, k, ek, h _ _ q⟩)
    · refine ⟨rfl, _, _, rfl, ?_, ?_, ?_⟩
      · rw [abs_nat]; omega
      · rw [abs_nat]; omega
      · rw [abs_nat, abs_nat]; unfold Int.gcd; simp only [Int.natAbs_natCast]
    · rintro σ H' ⟨rfl, x, y, rfl, hx, hy, e⟩
      refine ⟨.int y, rfl, rfl, _, rfl, brNe (fun h0 => ?_) (fun h0 => ?_)⟩
      · refine ⟨.int y, rfl, .int x, rfl, .int y, rfl, _, _, rfl, rfl, (by show 0 < y; omega), _, _, rfl, ⟨rfl, _, _, rfl, hy, ?_, ?_⟩, ?_⟩
        · exact Int.emod_nonneg _ h0
        · rw [← e]; exact gcd_step hx (by omega)
        · show (x % y).toNat < y.toNat
          have := Int.emod_lt_of_pos x (show 0 < y by omega)
          have := Int.emod_nonneg x h0
          omega
      · subst h0
        refine ⟨_, rfl, ?_⟩
        have : x = (Int.gcd a b : Int) := by rw [← e]; unfold Int.gcd; simp; omega
        show Q (.int x) _
        rw [this]; exact q
theorem ok_l_divisor (T : Txt K mg) : FnOk P w K mg base CX0 1 T.f_l_divisor T.d_l_divisor Ps_l_divisor spGcd := by
  refine T.F_l_divisor.ok sc_l_divisor (fun vs H Q E h => ?_) (fun cdv A outer s H vs Q E hr h => ?_)
  · obtain ⟨a, b, rfl, _⟩ := h; rfl
  · obtain ⟨a, b, rfl, q⟩ := h
    refine ⟨_, (pss_cons (ps_par (i := 0) (j := 1) (by rfl) sc_l_divisor.nd rfl rfl (by decide) rfl rfl (pa_cons (pe_callB call_abs (by rfl) T.m_abs (by decide +kernel) (pa_cons (pv 0) pa_nil)) (pa_cons (pe_callB call_abs (by rfl) T.m_abs (by decide +kernel) (pa_cons (pv 1) pa_nil)) pa_nil)) (by rfl))
      (pss_cons (ps_while PassesOwn.never (pt_cmpR op_ne (pv 1) pe_int (nomark _)) (pss_one (ps_par (i := 0) (j := 1) (by rfl) sc_l_divisor.nd rfl rfl (by decide) rfl rfl (pa_cons (pv 1) (pa_cons (pe_op op_mod (pv 0) (pv 1)) pa_nil)) (by rfl))))
      (pss_one (ps_ret (pv 0))))), ?_⟩
    refine ⟨.int a, rfl, a, rfl, .int b, rfl, b, rfl, _, _, rfl, ?_⟩
    refine while_by (fun σ H' => H' = H ∧ ∃ x y : Int, σ = [some (.int x), some (.int y)] ∧ 0 ≤ x ∧ 0 ≤ y ∧ Int.gcd x y = Int.gcd a b) (fun σ _ => match σ with | [_, some (.int y)] => y.toNat | _ => 0) ?_ ?_ (fun σ H Q Q' h ⟨v, e, s, k, ek, q⟩ => ⟨v, e, s, k, ek, h _ _ q⟩)
    · refine ⟨rfl, _, _, rfl, ?_, ?_, ?_⟩
      · rw [abs_nat]; omega
      · rw [abs_nat]; omega
      · rw [abs_nat, abs_nat]; unfold Int.gcd; simp only [Int.natAbs_natCast]
    · rintro σ H' ⟨rfl, x, y, rfl, hx, hy, e⟩
      refine ⟨.int y, rfl, rfl, _, rfl, brNe (fun h0 => ?_) (fun h0 => ?_)⟩
      · refine ⟨.int y, rfl, .int x, rfl, .int y, rfl, _, _, rfl, rfl, (by show 0 < y; omega), _, _, rfl, ⟨rfl, _, _, rfl, hy, ?_, ?_⟩, ?_⟩
        · exact Int.emod_nonneg _ h0
        · rw [← e]; exact gcd_step hx (by omega)
        · show (x % y).toNat < y.toNat
          have := Int.emod_lt_of_pos x (show 0 < y by omega)
          have := Int.emod_nonneg x h0
          omega
      · subst h0
        refine ⟨_, rfl, ?_⟩
        have : x = (Int.gcd a b : Int) := by rw [← e]; unfold Int.gcd; simp; omega
        show Q (.int x) _
        rw [this]; exact q
theorem ok_l_reduce (T : Txt K mg) : FnOk P w K mg base CX0 2 T.f_l_reduce T.d_l_reduce Ps_l_reduce (spRed K) := by
  refine T.F_l_reduce.ok sc_l_reduce (fun vs H Q E h => ?_) (fun cdv A outer s H vs Q E hr h => ?_)
  · obtain ⟨n, d, rfl, _⟩ := h; rfl
  · obtain ⟨n, d, rfl, hd, bn, bd, q⟩ := h
    have hg : (0 : Int) < (Int.gcd n d : Int) := by have := gcd_pos (n := n) hd; omega
    have bg : B 8000 (Int.gcd n d : Int) := bd.le (gcd_le hd)
    have b1 : B 1 1 := by unfold B; decide
    have b2 : B 1 (-1) := by unfold B; decide
    refine ⟨_, (pss_cons (ps_set (i := 2) sc_l_reduce.nd rfl (Or.inl rfl) (pe_call (ok_l_divisor T) hr (by rfl) T.g_l_divisor T.F_l_divisor.kp T.b_l_divisor .nil pass0 (pa_cons (pv 0) (pa_cons (pv 1) pa_nil))))
      (pss_cons (ps_set (i := 3) sc_l_reduce.nd rfl (Or.inl rfl) (pe_ifExp (pt_cmpR op_gt (pv 1) pe_int (nomark _)) pe_int (pe_un un_neg pe_int)))
      (pss_one (ps_ret (pe_tup (pa_cons (pe_op op_fdivW (pe_op op_mulW (pv 3) (pv 0)) (pv 2)) (pa_cons (pe_op op_fdivW (pe_op op_mulW (pv 3) (pv 1)) (pv 2)) pa_nil))))))), ?_⟩
    refine ⟨_, rfl, _, rfl, n, d, rfl, ?_⟩
    refine ⟨_, rfl, _, _, rfl, rfl, _, rfl, brI (fun hpos => ?_) (fun hneg => ?_)⟩
    · refine ⟨_, rfl, _, rfl, _, _, rfl, rfl, cm b1 bn, _, rfl, _, _, rfl, rfl, cdW hg bg, _, rfl, _, rfl, _, _, rfl, rfl, cm b1 bd, _, rfl, _, _, rfl, rfl, cdW hg bg, sizeLine2 (by simp), fun p np => ?_⟩
      refine q _ _ (same_upd np) ⟨p, rfl, .inl (.inl ?_)⟩
      rw [upd_same]; dsimp only
      rw [Int.one_mul, Int.one_mul]
      unfold rn rd
      rw [if_neg (by omega), show (d.natAbs : Int) = d by omega]
    · refine ⟨_, rfl, ?_⟩
      refine ⟨_, rfl, _, rfl, _, _, rfl, rfl, cm b2 bn, _, rfl, _, _, rfl, rfl, cdW hg bg, _, rfl, _, rfl, _, _, rfl, rfl, cm b2 bd, _, rfl, _, _, rfl, rfl, cdW hg bg, sizeLine2 (by simp), fun p np => ?_⟩
      refine q _ _ (same_upd np) ⟨p, rfl, .inl (.inl ?_)⟩
      rw [upd_same]; dsimp only
      rw [show (-1 : Int) * n = -n by omega, show (-1 : Int) * d = -d by omega]
      unfold rn rd
      rw [if_pos (by omega), show (d.natAbs : Int) = -d by omega]
theorem ok_l_add (T : Txt K mg) : FnOk P w K mg base CX0 3 T.f_l_add T.d_l_add Ps_l_add (spFF K fun a b c d => (rn (a * d + c * b) (b * d), rd (a * d + c * b) (b * d))) := by
  refine T.F_l_add.ok sc_l_add (fun vs H Q E h => ?_) (fun cdv A outer s H vs Q E hr h => ?_)
  · obtain ⟨x, y, _, _, _, _, rfl, _⟩ := h; rfl
  · obtain ⟨x, y, a, b, c, d, rfl, ⟨p1, rfl, h1⟩, ⟨p2, rfl, h2⟩, hb, hd, ba, bb, bc, bd, q⟩ := h
    refine ⟨_, (pss_one (ps_ret (pe_call (ok_l_reduce T) hr (by rfl) T.g_l_reduce T.F_l_reduce.kp T.b_l_reduce .nil pass0 (pa_cons (pe_op op_add (pe_op op_mulW (pe_ix ix_tup (pv 0) pe_int (fun _ _ => rfl)) (pe_ix ix_tup (pv 1) pe_int (fun _ _ => rfl))) (pe_op op_mulW (pe_ix ix_tup (pv 1) pe_int (fun _ _ => rfl)) (pe_ix ix_tup (pv 0) pe_int (fun _ _ => rfl)))) (pa_cons (pe_op op_mulW (pe_ix ix_tup (pv 0) pe_int (fun _ _ => rfl)) (pe_ix ix_tup (pv 1) pe_int (fun _ _ => rfl))) pa_nil))))), ?_⟩
    exact ⟨_, rfl, _, _, _, _, rfl, rfl, h1, ix0, _, rfl, _, _, _, _, rfl, rfl, h2, ix1, _, _, rfl, rfl, (cm ba bd), _, rfl, _, _, _, _, rfl, rfl, h2, ix0, _, rfl, _, _, _, _, rfl, rfl, h1, ix1, _, _, rfl, rfl, (cm bc bb), _, _, rfl, rfl, _, rfl, _, _, _, _, rfl, rfl, h1, ix1, _, rfl, _, _, _, _, rfl, rfl, h2, ix1, _, _, rfl, rfl, (cm bb bd), _, _, rfl, Int.mul_ne_zero hb hd, ((ba.mul bd).add (bc.mul bb)).mono, (bb.mul bd).mono, q⟩
theorem ok_l_floor (T : Txt K mg) : FnOk P w K mg base CX0 1 T.f_l_floor T.d_l_floor Ps_l_floor (spFloor K) := by
  refine T.F_l_floor.ok sc_l_floor (fun vs H Q E h => ?_) (fun cdv A outer s H vs Q E hr h => ?_)
  · obtain ⟨x, _, _, rfl, _⟩ := h; rfl
  · obtain ⟨x, a, b, rfl, ⟨p1, rfl, h1⟩, hb, bb, q⟩ := h
    refine ⟨_, (pss_one (ps_ret (pe_op op_fdivW (pe_ix ix_tup (pv 0) pe_int (fun _ _ => rfl)) (pe_ix ix_tup (pv 0) pe_int (fun _ _ => rfl))))), ?_⟩
    exact ⟨_, rfl, _, _, _, _, rfl, rfl, h1, ix0, _, rfl, _, _, _, _, rfl, rfl, h1, ix1, _, _, rfl, rfl, cdW hb bb, q⟩
theorem ok_l_times (T : Txt K mg) : FnOk P w K mg base CX0 3 T.f_l_times T.d_l_times Ps_l_times (spTimes K) := by
  refine T.F_l_times.ok sc_l_times (fun vs H Q E h => ?_) (fun cdv A outer s H vs Q E hr h => ?_)
  · obtain ⟨n, x, _, _, rfl, _⟩ := h; rfl
  · obtain ⟨n, x, a, b, rfl, ⟨p1, rfl, h1⟩, hb, bn, ba, bb, q⟩ := h
    refine ⟨_, (pss_one (ps_ret (pe_call (ok_l_reduce T) hr (by rfl) T.g_l_reduce T.F_l_reduce.kp T.b_l_reduce .nil pass0 (pa_cons (pe_op op_mulW (pv 0) (pe_ix ix_tup (pv 1) pe_int (fun _ _ => rfl))) (pa_cons (pe_ix ix_tup (pv 1) pe_int (fun _ _ => rfl)) pa_nil))))), ?_⟩
    exact ⟨_, rfl, _, rfl, _, _, _, _, rfl, rfl, h1, ix0, _, _, rfl, rfl, (cm bn ba), _, rfl, _, _, _, _, rfl, rfl, h1, ix1, _, _, rfl, hb, (bn.mul ba).mono, bb.mono, q⟩
theorem ok_common_denominator (T : Txt K mg) : FnOk P w K mg base CX0 2 T.f_common_denominator T.d_common_denominator Ps_common_denominator (spCden K) := by
  refine T.F_common_denominator.ok sc_common_denominator (fun vs H Q E h => ?_) (fun cdv A outer s H vs Q E hr h => ?_)
  · obtain ⟨l, xs, qs, k, rfl, _⟩ := h; rfl
  · obtain ⟨l, xs, qs, k, rfl, hx, hf, hb, hk, hl, q⟩ := h
    have el := hf.len
    have hqpos := hf.pos
    have turn : ∀ (i : Nat) (x : V), xs[i]? = some x → ∃ a b, Fr K H x a b ∧ 0 < b ∧ B k b ∧ cden (qs.take (i + 1)) 1 = lstep (cden (qs.take i) 1) b := fun i x hx => by
      obtain ⟨a, b, e1, f, p⟩ := hf.get hx
      exact ⟨a, b, f, p, hb _ (List.mem_of_getElem? e1), cden_take e1⟩
    have bstep : ∀ {i : Nat} {r b : Int}, 0 < r → 0 < b → B (1 + k * i) r → B k b → B (1 + k * (i + 1)) (lstep r b) := fun h1 h2 h3 h4 => by
      have := (h3.mul h4).le (lstep_le h1 h2)
      rw [Nat.mul_add, Nat.mul_one, ← Nat.add_assoc]; exact this
    rcases hx with hx | hx
    · refine ⟨_, (pss_cons (ps_set (i := 1) sc_common_denominator.nd rfl (Or.inl rfl) pe_int)
      (pss_cons (ps_for PassesOwn.never rfl (pi_list (pv 0)) (pg_name (i := 2) sc_common_denominator.nd rfl (Or.inl rfl)) (pss_one (ps_set (i := 1) sc_common_denominator.nd rfl (Or.inl rfl) (pe_op op_mulW (pe_op op_fdivW (pv 1) (pe_call (ok_gcd T) hr (by rfl) T.g_gcd T.F_gcd.kp T.b_gcd .nil pass0 (pa_cons (pv 1) (pa_cons (pe_ix ix_tup (pv 2) pe_int (fun _ _ => rfl)) pa_nil)))) (pe_ix ix_tup (pv 2) pe_int (fun _ _ => rfl))))))
      (pss_one (ps_ret (pv 1))))), ?_⟩
      refine ⟨_, rfl, l, rfl, ⟨_, hx⟩, ?_⟩
      refine for_list (K := K) (xs := xs) (fun i σ H' => H' = H ∧ ∃ (r : Int) (z : Option V), σ = [some (.ref l), some (.int r), z] ∧ r = cden (qs.take i) 1 ∧ 0 < r ∧ B (1 + k * i) r) ⟨rfl, 1, none, rfl, rfl, by decide, B.one⟩ (fun i σ H' _ h => h.1 ▸ hx) ?_ ?_
      · rintro i x σ H' hxi ⟨rfl, r, z, rfl, er, hr0, br⟩
        obtain ⟨a, b, ⟨p, rfl, f⟩, pb, bb, e⟩ := turn i x hxi
        have hil : i < qs.length := by have := (List.getElem?_eq_some_iff.mp hxi).1; omega
        have hle : k * i ≤ k * qs.length := Nat.mul_le_mul_left k (by omega)
        have hk1 : k * 1 ≤ k * qs.length := Nat.mul_le_mul_left k (by omega)
        have bg : B k (Int.gcd r b : Int) := bb.le (gcd_le (by omega))
        have bg2 : B 8000 (Int.gcd r b : Int) := bg.mono (by have : k * 1 ≤ k * qs.length := Nat.mul_le_mul_left k (by omega); omega)
        have bq : B (1 + k * i) (r / (Int.gcd r b : Int)) := br.le (div_abs (gcd_posI pb))
        refine ⟨_, rfl, _, rfl, _, rfl, _, _, _, _, rfl, rfl, f, ix1, r, b, rfl, _, _, rfl, rfl, cdW (gcd_posI pb) bg2, _, rfl, _, _, _, _, rfl, rfl, f, ix1, _, _, rfl, rfl, cm bq bb (by omega) hk (by omega), rfl, lstep r b, _, rfl, ?_, lstep_pos hr0 pb, bstep hr0 pb br bb⟩
        rw [e, er]
      · rintro σ H' ⟨rfl, r, z, rfl, er, _⟩
        refine ⟨_, rfl, ?_⟩
        rw [er, el, List.take_length]; exact q
    · refine ⟨_, (pss_cons (ps_set (i := 1) sc_common_denominator.nd rfl (Or.inl rfl) pe_int)
      (pss_cons (ps_for PassesOwn.never rfl (pi_tup (pv 0)) (pg_name (i := 2) sc_common_denominator.nd rfl (Or.inl rfl)) (pss_one (ps_set (i := 1) sc_common_denominator.nd rfl (Or.inl rfl) (pe_op op_mulW (pe_op op_fdivW (pv 1) (pe_call (ok_gcd T) hr (by rfl) T.g_gcd T.F_gcd.kp T.b_gcd .nil pass0 (pa_cons (pv 1) (pa_cons (pe_ix ix_tup (pv 2) pe_int (fun _ _ => rfl)) pa_nil)))) (pe_ix ix_tup (pv 2) pe_int (fun _ _ => rfl))))))
      (pss_one (ps_ret (pv 1))))), ?_⟩
      refine ⟨_, rfl, l, rfl, ⟨_, hx⟩, ?_⟩
      refine for_tup (K := K) (xs := xs) (fun i σ H' => H' = H ∧ ∃ (r : Int) (z : Option V), σ = [some (.ref l), some (.int r), z] ∧ r = cden (qs.take i) 1 ∧ 0 < r ∧ B (1 + k * i) r) ⟨rfl, 1, none, rfl, rfl, by decide, B.one⟩ (fun i σ H' _ h => h.1 ▸ hx) ?_ ?_
      · rintro i x σ H' hxi ⟨rfl, r, z, rfl, er, hr0, br⟩
        obtain ⟨a, b, ⟨p, rfl, f⟩, pb, bb, e⟩ := turn i x hxi
        have hil : i < qs.length := by have := (List.getElem?_eq_some_iff.mp hxi).1; omega
        have hle : k * i ≤ k * qs.length := Nat.mul_le_mul_left k (by omega)
        have hk1 : k * 1 ≤ k * qs.length := Nat.mul_le_mul_left k (by omega)
        have bg : B k (Int.gcd r b : Int) := bb.le (gcd_le (by omega))
        have bg2 : B 8000 (Int.gcd r b : Int) := bg.mono (by have : k * 1 ≤ k * qs.length := Nat.mul_le_mul_left k (by omega); omega)
        have bq : B (1 + k * i) (r / (Int.gcd r b : Int)) := br.le (div_abs (gcd_posI pb))
        refine ⟨_, rfl, _, rfl, _, rfl, _, _, _, _, rfl, rfl, f, ix1, r, b, rfl, _, _, rfl, rfl, cdW (gcd_posI pb) bg2, _, rfl, _, _, _, _, rfl, rfl, f, ix1, _, _, rfl, rfl, cm bq bb (by omega) hk (by omega), rfl, lstep r b, _, rfl, ?_, lstep_pos hr0 pb, bstep hr0 pb br bb⟩
        rw [e, er]
      · rintro σ H' ⟨rfl, r, z, rfl, er, _⟩
        refine ⟨_, rfl, ?_⟩
        rw [er, el, List.take_length]; exact q
def spWhole (K : PySem.W.Frag) : Sp := fun vs H Q _ => ∃ (x : V) (m a b : Int) (n k : Nat), vs = [x, .int m] ∧ Fr K H x a b ∧ 0 < b ∧ B n a ∧ B n b ∧ B k m ∧ 0 < n ∧ 0 < k ∧ n ≤ 9000 ∧ n + k ≤ 1000000 ∧ ∀ v H', v = .int (a * (m / b)) → H' = H → Q v H'
theorem ok_whole (T : Txt K mg) : FnOk P w K mg base CX0 1 T.f_whole T.d_whole Ps_whole (spWhole K) := by
  refine T.F_whole.ok sc_whole (fun vs H Q E h => ?_) (fun cdv A outer s H vs Q E hr h => ?_)
  · obtain ⟨_, _, _, _, _, _, rfl, _⟩ := h; rfl
  · obtain ⟨x, m, a, b, n, k, rfl, ⟨p, rfl, f⟩, pb, ba, bb, bm, n0, k0, h9, h10, q⟩ := h
    refine ⟨_, (pss_one (ps_ret (pe_op op_mulW (pe_ix ix_tup (pv 0) pe_int (fun _ _ => rfl)) (pe_op op_fdivW (pv 1) (pe_ix ix_tup (pv 0) pe_int (fun _ _ => rfl)))))), ?_⟩
    refine ⟨_, rfl, _, _, _, _, rfl, rfl, f, ix0, _, rfl, _, rfl, _, _, _, _, rfl, rfl, f, ix1, _, _, rfl, rfl, cdW pb bb n0 h9, _, _, rfl, rfl, cm ba (bm.le (div_abs pb)) n0 k0 h10, ?_⟩
    exact q _ _ rfl rfl
theorem ok_floor_sum (T : Txt K mg) : FnOk P w K mg base (L2N.CX P w) 4 T.f_floor_sum T.d_floor_sum Ps_floor_sum (spFloorSumX K T.c_InvalidCount) := by
  refine fun_okC T.F_floor_sum sc_floor_sum (fun vs H Q E h => ?_) (fun cdv A outer s H vs Q E hr h => ?_)
  · obtain ⟨n, x, y, _, _, _, _, rfl, _⟩ := h; rfl
  · obtain ⟨n, x, y, a, b, c, d, rfl, f1, f2, hb, hd, bn, ba, bb, bc, bd, qe, q⟩ := h
    refine ⟨_, (pss_cons (ps_if (pt_cmpR op_lt (pv 0) pe_int (nomark _)) (pss_one (L2N.ps_raise rfl (L2N.takes_of rfl rfl rfl rfl) (EPX.pmk_oexN T.oexC T.iC T.tI (ok_countInit T) (hr.mono (by decide)) T.bi_InvalidCount (by rfl) T.gc_InvalidCount (pa_cons (pv 0) pa_nil)))) pss_nil)
      (PSs.nox (pss_cons (ps_set (i := 3) sc_floor_sum.nd rfl (Or.inl rfl) (pe_call (ok_common_denominator T) (hr.mono (by decide)) (by rfl) T.g_common_denominator T.F_common_denominator.kp T.b_common_denominator .nil pass0 (pa_cons (pe_lst (pa_cons (pv 1) (pa_cons (pv 2) pa_nil))) pa_nil)))
      (pss_cons (ps_set (i := 4) sc_floor_sum.nd rfl (Or.inl rfl) (pe_call (ok_whole T) (hr.mono (by decide)) (by rfl) T.g_whole T.F_whole.kp T.b_whole .nil pass0 (pa_cons (pv 1) (pa_cons (pv 3) pa_nil))))
      (pss_cons (ps_set (i := 5) sc_floor_sum.nd rfl (Or.inl rfl) (pe_call (ok_whole T) (hr.mono (by decide)) (by rfl) T.g_whole T.F_whole.kp T.b_whole .nil pass0 (pa_cons (pv 2) (pa_cons (pv 3) pa_nil))))
      (pss_cons (ps_set (i := 6) sc_floor_sum.nd rfl (Or.inl rfl) pe_int)
      (pss_one (ps_while PassesOwn.never (pt_val pe_bl) (pss_cons (ps_aug (i := 6) sc_floor_sum.nd rfl (Or.inl rfl) (pe_op op_add (pe_op op_mulW (pe_op op_fdivW (pe_op op_mulW (pv 0) (pe_op op_sub (pv 0) pe_int)) pe_int) (pe_op op_fdivW (pv 4) (pv 3))) (pe_op op_mulW (pv 0) (pe_op op_fdivW (pv 5) (pv 3)))) ip_add)
      (pss_cons (ps_par (i := 4) (j := 5) (by rfl) sc_floor_sum.nd rfl rfl (by decide) rfl rfl (pa_cons (pe_op op_mod (pv 4) (pv 3)) (pa_cons (pe_op op_mod (pv 5) (pv 3)) pa_nil)) (by rfl))
      (pss_cons (ps_set (i := 7) sc_floor_sum.nd rfl (Or.inl rfl) (pe_op op_add (pe_op op_mulW (pv 4) (pv 0)) (pv 5)))
      (pss_cons (ps_if (pt_cmpR op_lt (pv 7) (pv 3) (nomark _)) (pss_one (ps_ret (pv 6))) pss_nil)
      (pss_cons (ps_par (i := 0) (j := 5) (by rfl) sc_floor_sum.nd rfl rfl (by decide) rfl rfl (pa_cons (pe_op op_fdivW (pv 7) (pv 3)) (pa_cons (pe_op op_mod (pv 7) (pv 3)) pa_nil)) (by rfl))
      (pss_one (ps_par (i := 4) (j := 3) (by rfl) sc_floor_sum.nd rfl rfl (by decide) rfl rfl (pa_cons (pv 3) (pa_cons (pv 4) pa_nil)) (by rfl)))))))))))))))), ?_⟩
    refine ⟨_, rfl, _, _, rfl, rfl, _, rfl, brI (fun hneg => ?_) (fun hpos => ?_)⟩
    · refine ⟨_, rfl, by simp, fun e ne => ?_⟩
      refine ⟨e, _, _, rfl, T.oexC, upd_same, T.nTag, T.nNum, fun dx nd ned => ⟨rfl, dx, _, ?_, upd_same, ?_, ?_⟩⟩
      · rw [upd_ne ned.symm, upd_same]
      · rw [upd_ne ned] at nd; exact nd
      · have nd' : H dx = none := by rw [upd_ne ned] at nd; exact nd
        exact qe hneg _ _ _ (raised (Same.refl _) ne nd' ned) ⟨rfl, dx, rfl, upd_same⟩
    obtain ⟨n, rfl⟩ := Int.eq_ofNat_of_zero_le (show 0 ≤ n by omega)
    have q := q (by omega)
    rw [show (n : Int).toNat = n from Int.toNat_natCast n] at q
    refine ⟨_, rfl, _, rfl, sizeLine2 (by simp), fun l nl => ?_⟩
    have s1 := same_upd (o := HO.lst [x, y]) nl
    have hq : ∀ q ∈ [(a, b), (c, d)], 0 < q.2 := by
      intro q hq; simp only [List.mem_cons, List.not_mem_nil, or_false] at hq; rcases hq with rfl | rfl <;> assumption
    refine ⟨l, _, [(a, b), (c, d)], 1000, rfl, .inl (.inl (.inl upd_same)), .cons (f1.same s1) hb (.cons (f2.same s1) hd .nil), ?_, by decide, by simp, ?_⟩
    · intro q hq; simp only [List.mem_cons, List.not_mem_nil, or_false] at hq; rcases hq with rfl | rfl <;> assumption
    have hden := cden_pos (r := 1) (by decide) hq
    obtain ⟨u, hu⟩ := cden_dvd (r := 1) hq (a, b) (by simp)
    obtain ⟨v, hv⟩ := cden_dvd (r := 1) hq (c, d) (by simp)
    have bden : B 2001 (cden [(a, b), (c, d)] 1) := by
      have p1 := lstep_pos (r := 1) (by decide) hb
      have b1 : B 1001 (lstep 1 b) := (B.one.mul bb).le (lstep_le (by decide) hb)
      exact (b1.mul bd).le (lstep_le p1 hd)
    generalize cden [(a, b), (c, d)] 1 = m at *
    have hu : m = b * u := hu
    have hv : m = d * v := hv
    have eu : m / b = u := by rw [hu]; exact Int.mul_ediv_cancel_left _ (by omega)
    have ev : m / d = v := by rw [hv]; exact Int.mul_ediv_cancel_left _ (by omega)
    have bu : B 2001 u := by rw [← eu]; exact bden.le (div_abs hb)
    have bv : B 2001 v := by rw [← ev]; exact bden.le (div_abs hd)
    obtain ⟨p1, rfl, h1⟩ := f1.same s1
    obtain ⟨p2, rfl, h2⟩ := f2.same s1
    refine ⟨_, rfl, _, rfl, _, m, a, b, 1000, 2001, rfl, ⟨p1, rfl, h1⟩, hb, ba, bb, bden, by decide, by decide, by decide, by decide, fun w1 H1 e1 e2 => ?_⟩
    subst e1 e2
    refine ⟨_, rfl, _, rfl, _, m, c, d, 1000, 2001, rfl, ⟨p2, rfl, h2⟩, hd, bc, bd, bden, by decide, by decide, by decide, by decide, fun w2 H2 e1 e2 => ?_⟩
    subst e1 e2
    have hm0 := hden
    refine while_by (fun σ H' => H' = upd H l (.lst [.ref p1, .ref p2]) ∧ ∃ (cnt : Nat) (den rise bas res : Int) (z : Option V), σ = [some (.int cnt), some (.ref p1), some (.ref p2), some (.int den), some (.int rise), some (.int bas), some (.int res), z] ∧ 0 < den ∧ B 3100 (cnt : Int) ∧ B 3100 den ∧ B 3100 rise ∧ B 3100 bas ∧ res + FS cnt rise bas den = FS n (a * u) (c * v) m) (fun σ _ => match σ with | [_, _, _, some (.int y), _, _, _, _] => y.toNat | _ => 0) ?_ ?_ (fun σ H Q Q' h ⟨c, e, q⟩ => ⟨c, e, h _ _ q⟩)
    · refine ⟨rfl, n, m, a * u, c * v, 0, none, ?_, hden, bn.mono, bden.mono, (ba.mul bu).mono, (bc.mul bv).mono, by omega⟩
      rw [← eu, ← ev]; rfl
    · rintro σ H' ⟨rfl, cnt, den, rise, bas, res, z, rfl, hden, bcnt, bden, brise, bbas, inv⟩
      refine ⟨_, rfl, iteT ?_⟩
      have b2 : B 2 2 := B.of (by decide)
      have bt : B 6300 ((cnt : Int) * (cnt - 1) / 2) := ((bcnt.mul (bcnt.sub (B.one.mono))).mono).le (div_abs (by decide))
      have bq1 : B 3100 (rise / den) := brise.le (div_abs hden)
      have bq2 : B 3100 (bas / den) := bbas.le (div_abs hden)
      refine ⟨_, rfl, _, rfl, _, rfl, _, _, rfl, rfl, _, _, rfl, rfl, cm bcnt (bcnt.sub B.one.mono), _, _, rfl, rfl, cdW (by decide) b2, _, rfl, _, rfl, _, _, rfl, rfl, cdW hden bden, _, _, rfl, rfl, cm bt bq1, _, rfl, _, rfl, _, rfl, _, _, rfl, rfl, cdW hden bden, _, _, rfl, rfl, cm bcnt bq2, _, _, rfl, rfl, _, _, rfl, rfl, ?_⟩
      refine ⟨_, rfl, _, rfl, _, _, rfl, rfl, hden, _, rfl, _, rfl, _, _, rfl, rfl, hden, _, _, rfl, ?_⟩
      have r0 := Int.emod_nonneg rise (show den ≠ 0 by omega)
      have r1 := Int.emod_lt_of_pos rise hden
      have b0 := Int.emod_nonneg bas (show den ≠ 0 by omega)
      have b1 := Int.emod_lt_of_pos bas hden
      have er := Int.mul_ediv_add_emod rise den
      have eb := Int.mul_ediv_add_emod bas den
      have more := FS_more (r := rise % den) (b := bas % den) (x := rise / den) (y := bas / den) hden cnt
      rw [show rise % den + rise / den * den = rise by rw [Int.mul_comm]; omega, show bas % den + bas / den * den = bas by rw [Int.mul_comm]; omega] at more
      have bR : B 3100 (rise % den) := bden.le (by omega)
      have bB : B 3100 (bas % den) := bden.le (by omega)
      have bRc := bR.mul bcnt
      refine ⟨_, rfl, _, rfl, _, _, rfl, rfl, cm bR bcnt, _, rfl, _, _, rfl, rfl, ?_⟩
      have c0 : (0 : Int) ≤ (rise % den) * cnt := Int.mul_nonneg r0 (Int.natCast_nonneg cnt)
      refine ⟨_, rfl, _, rfl, _, _, rfl, rfl, _, rfl, brI (fun hlt => ?_) (fun hge => ?_)⟩
      · refine ⟨_, rfl, ?_⟩
        refine q _ _ s1 fun RR b' M hM e1 e2 => ?_
        have z0 := FS_small (n := cnt) r0 b0 hlt
        have fin : FS n (a * u) (c * v) m = FS n RR b' M := FS_congr hm0 hM (by grind) (by grind)
        show res + ((cnt : Int) * (cnt - 1) / 2 * (rise / den) + (cnt : Int) * (bas / den)) = _
        rw [← fin, ← inv, more, z0]
        have t1 : (cnt : Int) * (cnt - 1) / 2 * (rise / den) = rise / den * ((cnt : Int) * (cnt - 1) / 2) := Int.mul_comm ..
        have t2 : (cnt : Int) * (bas / den) = bas / den * cnt := Int.mul_comm ..
        omega
      · have hR : 0 < (rise % den) := by
          rcases Int.lt_or_eq_of_le r0 with h | h
          · exact h
          · rw [← h, Int.zero_mul] at hge; omega
        have hflip := FS_flip (n := cnt) hR r1 b0 b1
        have hc0 := Int.ediv_nonneg (show 0 ≤ (rise % den) * (cnt : Int) + (bas % den) by omega) (Int.le_of_lt hden)
        have hcl : ((rise % den) * (cnt : Int) + (bas % den)) / den ≤ cnt := by
          have h1 : (rise % den) * (cnt : Int) ≤ (den - 1) * cnt := Int.mul_le_mul_of_nonneg_right (by omega) (Int.natCast_nonneg cnt)
          have h2 : (den - 1) * (cnt : Int) = cnt * den - cnt := by grind
          have h3 : ((cnt : Int) + 1) * den = cnt * den + den := by grind
          have h4 := Int.ediv_lt_of_lt_mul (a := (rise % den) * (cnt : Int) + (bas % den)) (b := (cnt : Int) + 1) hden (by omega)
          omega
        obtain ⟨cn, hcn⟩ := Int.eq_ofNat_of_zero_le hc0
        have m0 := Int.emod_nonneg ((rise % den) * (cnt : Int) + (bas % den)) (show den ≠ 0 by omega)
        have m1 := Int.emod_lt_of_pos ((rise % den) * (cnt : Int) + (bas % den)) hden
        refine ⟨_, rfl, _, rfl, _, _, rfl, rfl, cdW hden bden, _, rfl, _, rfl, _, _, rfl, rfl, hden, _, _, rfl, _, rfl, _, rfl, _, _, rfl, ⟨rfl, cn, (rise % den), den, ((rise % den) * (cnt : Int) + (bas % den)) % den, res + ((cnt : Int) * (cnt - 1) / 2 * (rise / den) + (cnt : Int) * (bas / den)), some (.int ((rise % den) * cnt + bas % den)), ?_, hR, ?_, bR, bden, ?_, ?_⟩, ?_⟩
        · rw [← hcn]; rfl
        · exact bcnt.le (by omega)
        · exact bden.le (by omega)
        · rw [hflip, hcn] at more
          rw [← inv, more]
          have t1 : (cnt : Int) * (cnt - 1) / 2 * (rise / den) = rise / den * ((cnt : Int) * (cnt - 1) / 2) := Int.mul_comm ..
          have t2 : (cnt : Int) * (bas / den) = bas / den * cnt := Int.mul_comm ..
          rw [Int.toNat_natCast]
          omega
        · show (rise % den).toNat < den.toNat
          omega
theorem ok_l_source (T : Txt K mg) : FnOk P w K mg base CX0 1 T.f_l_source T.d_l_source Ps_l_source (spSource K) := by
  refine T.F_l_source.ok sc_l_source (fun vs H Q E h => ?_) (fun cdv A outer s H vs Q E hr h => ?_)
  · obtain ⟨a, ns, rfl, _⟩ := h; rfl
  · obtain ⟨a, ns, rfl, hS, hlen, q⟩ := h
    refine ⟨_, (pss_cons (ps_set (i := 1) sc_l_source.nd rfl (Or.inl rfl) (pe_op op_add pe_int (pe_op op_mulW pe_int (pe_callB call_len_seq (by rfl) T.m_len PySem.boot_len (pa_cons (pe_slice sl_list (pv 0) po_none (po_some pe_int)) pa_nil)))))
      (pss_cons (ps_for PassesOwn.never rfl (pi_list (pe_slice sl_list (pv 0) po_none (po_some pe_int))) (pg_name (i := 2) sc_l_source.nd rfl (Or.inl rfl)) (pss_one (ps_set (i := 1) sc_l_source.nd rfl (Or.inl rfl) (pe_op op_mod (pe_op op_add (pe_op op_add (pe_op op_mulW (pv 1) pe_int) (pe_op op_mod (pv 2) pe_int)) pe_int) pe_int))))
      (pss_one (ps_ret (pe_lst (pa_cons (pe_callTy call_list_of (by rfl) T.m_list (by decide +kernel) (pa_cons (pe_slice sl_list (pv 0) po_none (po_some pe_int)) pa_nil)) (pa_cons pe_int (pa_cons pe_int (pa_cons (pv 1) pa_nil))))))))), ?_⟩
    have bc : B 7 59 := by unfold B; decide
    have bm : B 32 48271 := by unfold B; decide
    have ecut : cutV (ns.map V.int) none (some 63) = ns.map V.int := by
      unfold cutV
      rw [HT.sIx_none, show HT.sIx (ns.map V.int).length (ns.map V.int).length (some 63) = min 63 (ns.map V.int).length from HT.sIx_nat _ _ 63, List.drop_zero, List.length_map, List.take_of_length_le]
      rw [List.length_map]; omega
    refine ⟨.ref a, rfl, 63, rfl, a, _, rfl, hS, fun c nc => ?_⟩
    rw [ecut]
    have s1 := same_upd (o := HO.lst (ns.map V.int)) nc
    refine ⟨c, _, rfl, .inl (.inl (.inl upd_same)), _, _, rfl, rfl, ?_, _, _, rfl, rfl, ?_⟩
    · rw [List.length_map]; exact cm (n := 7) (m := 7) bc (show (ns.length : Int).natAbs < 2 ^ 7 by omega)
    refine ⟨.ref a, rfl, 63, rfl, a, _, rfl, Evl.ex_l s1 hS, fun c2 nc2 => ?_⟩
    rw [ecut]
    have s2 := same_upd (o := HO.lst (ns.map V.int)) nc2
    refine ⟨c2, rfl, ⟨_, .inl (.inl upd_same)⟩, ?_⟩
    refine for_list (K := K) (xs := ns.map V.int) (fun i σ H' => Same H H' ∧ (H' c2 = some (.lst (ns.map V.int))) ∧ ∃ (sd : Int) (z : Option V), σ = [some (.ref a), some (.int sd), z] ∧ 0 ≤ sd ∧ sd < 2147483563) ?_ ?_ ?_ ?_
    · refine ⟨s1.trans s2, upd_same, _, none, rfl, ?_, ?_⟩
      · rw [List.length_map]; omega
      · rw [List.length_map]; omega
    · rintro i σ H' _ ⟨_, h, _⟩; exact .inl (.inl h)
    · rintro i x σ H' hx ⟨sH, hc2, sd, z, rfl, h0, h1⟩
      obtain ⟨n, hn, rfl⟩ : ∃ n, ns[i]? = some n ∧ V.int n = x := by
        rw [List.getElem?_map] at hx
        cases e : ns[i]? with
        | none => rw [e] at hx; cases hx
        | some n => rw [e] at hx; exact ⟨n, rfl, Option.some.inj hx⟩
      have bs : B 31 sd := by unfold B; omega
      refine ⟨_, rfl, _, _, rfl, rfl, cm bs bm, _, rfl, _, _, rfl, rfl, (by decide : (0:Int) < 2147483563), _, _, rfl, rfl, _, _, rfl, rfl, _, _, rfl, rfl, (by decide : (0:Int) < 2147483563), sH, hc2, _, _, rfl, ?_, ?_⟩
      · exact Int.emod_nonneg _ (by decide)
      · exact Int.emod_lt_of_pos _ (by decide)
    · rintro σ H' ⟨sH, hc2, sd, z, rfl, h0, h1⟩
      refine ⟨.ref a, rfl, 63, rfl, a, _, rfl, Evl.ex_l sH hS, fun c3 nc3 => ?_⟩
      rw [ecut]
      have s3 := same_upd (o := HO.lst (ns.map V.int)) nc3
      refine ⟨c3, _, rfl, .inl (.inl (.inl upd_same)), fun L nL => ?_⟩
      have s4 := same_upd (o := HO.lst (ns.map V.int)) nL
      refine ⟨_, rfl, sizeLine2 (by simp), fun r nr => ?_⟩
      have s5 := same_upd (o := HO.lst [.ref L, .int 0, .int 0, .int sd]) nr
      refine q r _ (((sH.trans s3).trans s4).trans s5) ⟨L, ns, 0, 0, sd, upd_same, ?_, ?_, by omega, by omega, by omega, h0, h1⟩
      · exact s5 _ _ upd_same
      · intro e; subst e; rw [upd_same] at nr; cases nr
theorem ok_l_draw (T : Txt K mg) : FnOk P w K mg base CX0 1 T.f_l_draw T.d_l_draw Ps_l_draw spDraw := by
  refine T.F_l_draw.ok sc_l_draw (fun vs H Q E h => ?_) (fun cdv A outer s H vs Q E hr h => ?_)
  · obtain ⟨a, m, rfl, _⟩ := h; rfl
  · obtain ⟨r, m, rfl, hm, bm, h0R, q⟩ := h
    obtain ⟨L, ns, i, c, sd, hr0, hL, nL, hi, hl, hc, hs0, hs1⟩ := id h0R
    have hrH := hr0
    refine ⟨_, (pss_cons (ps_if (PW.pt (pw_and (pt_cmpR op_eq (pe_ix ix_list (pv 0) pe_int (fun _ _ => rfl)) pe_int (nomark _)) (pw_and1 (pt_cmpR op_lt (pe_ix ix_list (pv 0) pe_int (fun _ _ => rfl)) (pe_callB call_len_seq (by rfl) T.m_len PySem.boot_len (pa_cons (pe_ix ix_list (pv 0) pe_int (fun _ _ => rfl)) pa_nil)) (nomark _))))) (pss_cons (ps_set (i := 2) sc_l_draw.nd rfl (Or.inl rfl) (pe_ix ix_list (pe_ix ix_list (pv 0) pe_int (fun _ _ => rfl)) (pe_ix ix_list (pv 0) pe_int (fun _ _ => rfl)) (fun _ _ => rfl)))
      (pss_cons (ps_asg (pe_op op_add (pe_ix ix_list (pv 0) pe_int (fun _ _ => rfl)) pe_int) (pg_sub (pv 0) pe_int set_list))
      (pss_one (ps_if (pt_cmpR op_ge (pv 2) (pe_op op_pow pe_int pe_int) (nomark _)) (pss_one (ps_asg (pv 2) (pg_sub (pv 0) pe_int set_list))) (pss_one (ps_asg (pe_op op_mod (pe_op op_add (pe_op op_add (pe_op op_mulW (pe_ix ix_list (pv 0) pe_int (fun _ _ => rfl)) pe_int) (pe_op op_mulW (pe_op op_mod (pv 2) pe_int) pe_int)) (pe_ix ix_list (pv 0) pe_int (fun _ _ => rfl))) pe_int) (pg_sub (pv 0) pe_int set_list))))))) pss_nil)
      (pss_cons (ps_if (pt_cmpR op_gt (pe_ix ix_list (pv 0) pe_int (fun _ _ => rfl)) pe_int (nomark _)) (pss_cons (ps_set (i := 3) sc_l_draw.nd rfl (Or.inl rfl) (pe_op op_mod (pe_ix ix_list (pv 0) pe_int (fun _ _ => rfl)) (pv 1)))
      (pss_cons (ps_asg (pe_op op_fdivW (pe_ix ix_list (pv 0) pe_int (fun _ _ => rfl)) (pv 1)) (pg_sub (pv 0) pe_int set_list))
      (pss_one (ps_ret (pv 3))))) pss_nil)
      (pss_cons (ps_set (i := 4) sc_l_draw.nd rfl (Or.inl rfl) (pe_ix ix_list (pv 0) pe_int (fun _ _ => rfl)))
      (pss_cons (ps_asg (pe_op op_mod (pe_op op_add (pe_op op_add (pe_op op_mulW (pv 4) (pv 4)) (pe_op op_mulW (pv 4) pe_int)) pe_int) pe_int) (pg_sub (pv 0) pe_int set_list))
      (pss_one (ps_ret (pe_op op_mod (pe_op op_add (pe_op op_fdivW (pe_ix ix_list (pv 0) pe_int (fun _ _ => rfl)) pe_int) (pe_op op_mulW (pe_op op_mod (pe_ix ix_list (pv 0) pe_int (fun _ _ => rfl)) pe_int) pe_int)) (pv 1)))))))), ?_⟩
    refine seq_by (fun σ H' => ∃ (i c sd : Int) (z1 : Option V), σ = [some (.ref r), some (.int m), z1, none, none] ∧ Gw r H H' ∧ H' r = some (.lst [.ref L, .int i, .int c, .int sd]) ∧ H' L = some (.lst (ns.map V.int)) ∧ 0 ≤ i ∧ 0 ≤ c ∧ 0 ≤ sd ∧ sd < 2147483563) ?_ (fun fin => ?_)
    · rintro σ H' ⟨i, c, sd, z1, rfl, g, hr0, hL, hi, hc, hs0, hs1⟩
      have hR : SqL K H' r [.ref L, .int i, .int c, .int sd] := .inl (.inl hr0)
      have mo : ∀ (c' sd' : Int), 0 ≤ c' → 0 ≤ sd' → sd' < 2147483563 → Mo r H (upd H' r (.lst [.ref L, .int i, .int c', .int sd'])) := fun c' sd' h1 h2 h3 =>
        ⟨fun a o n e => by rw [upd_ne n]; exact g a o n e, h0R, fun L' hL' => by
          obtain ⟨_, _, _, _, e1, _⟩ := hL'
          rw [hrH] at e1; cases e1
          exact ⟨ns, i, c', sd', upd_same, by rw [upd_ne nL]; exact hL, nL, hi, hl, h1, h2, h3⟩⟩
      refine ⟨_, rfl, _, _, _, _, rfl, rfl, hR, ix2, _, _, rfl, rfl, _, rfl, brI (fun hp => ?_) (fun hp => ?_)⟩
      · refine ⟨_, rfl, _, _, _, _, rfl, rfl, hR, ix2, _, rfl, _, _, rfl, rfl, hm, ?_⟩
        refine ⟨_, rfl, _, _, _, _, rfl, rfl, hR, ix2, _, rfl, _, _, rfl, rfl, cdW hm bm, _, rfl, r, _, _, 2, rfl, rfl, hr0, rfl, ?_⟩
        refine ⟨_, rfl, ?_⟩
        refine q _ _ (Int.emod_nonneg _ (by omega)) (Int.emod_lt_of_pos _ hm) ?_
        exact mo _ _ (Int.ediv_nonneg hc (by omega)) hs0 hs1
      · refine ⟨_, rfl, _, _, _, _, rfl, rfl, hR, ix3, ?_⟩
        have bs : B 31 sd := by unfold B; omega
        have b4 : B 20 40123 := by unfold B; decide
        have h1 := Int.emod_nonneg (sd * sd + sd * 40123 + 70001) (show (2147483563 : Int) ≠ 0 by decide)
        have h2 := Int.emod_lt_of_pos (sd * sd + sd * 40123 + 70001) (show (0 : Int) < 2147483563 by decide)
        refine ⟨_, rfl, _, rfl, _, _, rfl, rfl, cm bs bs, _, rfl, _, _, rfl, rfl, cm bs b4, _, _, rfl, rfl, _, _, rfl, rfl, _, _, rfl, rfl, (by decide : (0 : Int) < 2147483563), _, rfl, r, _, _, 3, rfl, rfl, hr0, rfl, ?_⟩
        have hR2 : SqL K (upd H' r (.lst [.ref L, .int i, .int c, .int ((sd * sd + sd * 40123 + 70001) % 2147483563)])) r [.ref L, .int i, .int c, .int ((sd * sd + sd * 40123 + 70001) % 2147483563)] := .inl (.inl upd_same)
        have b5 : B 7 59 := by unfold B; decide
        have b6 : ∀ e : Int, B 13 (e % 8111) := fun e => by unfold B; have := Int.emod_nonneg e (show (8111 : Int) ≠ 0 by decide); have := Int.emod_lt_of_pos e (show (0 : Int) < 8111 by decide); omega
        have b7 : B 8 229 := by unfold B; decide
        refine ⟨_, rfl, _, _, _, _, rfl, rfl, hR2, ix3, _, _, rfl, rfl, cdW (by decide) b5, _, rfl, _, _, _, _, rfl, rfl, hR2, ix3, _, _, rfl, rfl, (by decide : (0 : Int) < 8111), _, _, rfl, rfl, cm (b6 _) b7, _, _, rfl, rfl, _, rfl, _, _, rfl, rfl, hm, ?_⟩
        exact q _ _ (Int.emod_nonneg _ (by omega)) (Int.emod_lt_of_pos _ hm) (mo _ _ hc h1 h2)
    · have hR : SqL K H r [.ref L, .int i, .int c, .int sd] := .inl (.inl hr0)
      have hLL : SqL K H L (ns.map V.int) := .inl (.inl hL)
      refine ⟨_, rfl, _, _, _, _, rfl, rfl, hR, ix2, rfl, _, rfl, brEq (fun hc0 => ?_) (fun hc0 => ?_)⟩
      · refine ⟨_, rfl, _, _, _, _, rfl, rfl, hR, ix1, _, rfl, _, _, _, _, rfl, rfl, hR, ix0, L, _, rfl, .inl hLL, _, _, rfl, rfl, _, rfl, brI (fun hlt => ?_) (fun hlt => ?_)⟩
        · rw [List.length_map] at hlt
          obtain ⟨k, rfl⟩ := Int.eq_ofNat_of_zero_le hi
          have hk : k < ns.length := by omega
          refine ⟨_, rfl, _, _, _, _, rfl, rfl, hR, ix0, _, rfl, _, _, _, _, rfl, rfl, hR, ix1, L, _, _, .int ns[k], rfl, rfl, hLL, atI_nat (by rw [List.getElem?_map, List.getElem?_eq_getElem hk]; rfl), ?_⟩
          refine ⟨_, rfl, _, _, _, _, rfl, rfl, hR, ix1, _, _, rfl, rfl, _, rfl, r, _, _, 1, rfl, rfl, hr0, rfl, ?_⟩
          have hR2 : SqL K (upd H r (.lst [.ref L, .int (k + 1), .int c, .int sd])) r [.ref L, .int (k + 1), .int c, .int sd] := .inl (.inl upd_same)
          refine ⟨_, rfl, _, _, rfl, rfl, (⟨by decide, by decide, by decide⟩ : CPow 10 18), _, _, rfl, rfl, _, rfl, brI (fun hbig => ?_) (fun hbig => ?_)⟩
          · refine ⟨_, rfl, _, rfl, r, _, _, 2, rfl, rfl, upd_same, rfl, ?_⟩
            refine fin _ _ ⟨k + 1, ns[k], sd, _, rfl, fun a o n e => ?_, ?_, ?_, by omega, ?_, hs0, hs1⟩
            · rw [upd_ne n, upd_ne n]; exact e
            · rw [upd_same]; rfl
            · rw [upd_ne nL, upd_ne nL]; exact hL
            · have : (10 : Int) ^ (18 : Int).toNat ≤ ns[k] := hbig
              have h10 : (0 : Int) ≤ 10 ^ (18 : Int).toNat := by decide
              omega
          · have bs : B 31 sd := by unfold B; omega
            have b4 : B 20 40692 := by unfold B; decide
            have b6 : B 32 (ns[k] % 2147483563) := by unfold B; have := Int.emod_nonneg ns[k] (show (2147483563 : Int) ≠ 0 by decide); have := Int.emod_lt_of_pos ns[k] (show (0 : Int) < 2147483563 by decide); omega
            have b7 : B 8 67 := by unfold B; decide
            refine ⟨_, rfl, _, _, _, _, rfl, rfl, hR2, ix3, _, _, rfl, rfl, cm bs b4, _, rfl, _, _, rfl, rfl, (by decide : (0 : Int) < 2147483563), _, _, rfl, rfl, cm b6 b7, _, _, rfl, rfl, _, rfl, _, _, _, _, rfl, rfl, hR2, ix1, _, _, rfl, rfl, _, _, rfl, rfl, (by decide : (0 : Int) < 2147483563), _, rfl, r, _, _, 3, rfl, rfl, upd_same, rfl, ?_⟩
            refine fin _ _ ⟨k + 1, c, (sd * 40692 + ns[k] % 2147483563 * 67 + (k + 1)) % 2147483563, _, rfl, fun a o n e => ?_, ?_, ?_, by omega, hc, Int.emod_nonneg _ (by decide), Int.emod_lt_of_pos _ (by decide)⟩
            · rw [upd_ne n, upd_ne n]; exact e
            · rw [upd_same]; rfl
            · rw [upd_ne nL, upd_ne nL]; exact hL
        · exact fin _ _ ⟨i, c, sd, _, rfl, fun a o n e => e, hr0, hL, hi, hc, hs0, hs1⟩
      · exact fin _ _ ⟨i, c, sd, _, rfl, fun a o n e => e, hr0, hL, hi, hc, hs0, hs1⟩
theorem ok_l_choice (T : Txt K mg) : FnOk P w K mg base CX0 2 T.f_l_choice T.d_l_choice Ps_l_choice (spChoice K) := by
  refine T.F_l_choice.ok sc_l_choice (fun vs H Q E h => ?_) (fun cdv A outer s H vs Q E hr h => ?_)
  · obtain ⟨a, l, xs, rfl, _⟩ := h; rfl
  · obtain ⟨r, l, xs, rfl, hx, hlr, h0, hl, hR, q⟩ := h
    refine ⟨_, (pss_one (ps_ret (pe_ix ix_list (pv 1) (pe_call (ok_l_draw T) hr (by rfl) T.g_l_draw T.F_l_draw.kp T.b_l_draw .nil pass0 (pa_cons (pv 0) (pa_cons (pe_callB call_len_seq (by rfl) T.m_len PySem.boot_len (pa_cons (pv 1) pa_nil)) pa_nil))) (fun _ _ => rfl)))), ?_⟩
    refine ⟨_, rfl, _, rfl, _, rfl, l, xs, rfl, .inl hx, r, _, rfl, by omega, ?_, hR, fun x H' x0 x1 mo => ?_⟩
    · show B 2000 (xs.length : Int)
      exact B.mono (n := 20) (show (xs.length : Int).natAbs < 2 ^ 20 by omega)
    · obtain ⟨j, rfl⟩ := Int.eq_ofNat_of_zero_le x0
      have hj : j < xs.length := by omega
      exact ⟨l, xs, _, xs[j], rfl, rfl, sql_mo mo hlr hx, atI_nat (List.getElem?_eq_getElem hj), q _ _ (List.getElem_mem hj) mo⟩
theorem ok_l_equal (T : Txt K mg) : ∀ n : Nat, FnOk P w K mg base CX0 (n + 1) T.f_l_equal T.d_l_equal Ps_l_equal (spEqual K n) := by
  intro n
  induction n with
  | zero =>
    refine T.F_l_equal.ok sc_l_equal (fun vs H Q E h => ?_) (fun cdv A outer s H vs Q E hr h => ?_)
    · obtain ⟨x, y, d, rfl, _⟩ := h; rfl
    · obtain ⟨x, y, d, rfl, h1, h2, hd, hw, q⟩ := h
      exact absurd hd (Nat.not_lt_zero _)
  | succ n IH =>
    refine T.F_l_equal.ok sc_l_equal (fun vs H Q E h => ?_) (fun cdv A outer s H vs Q E hr h => ?_)
    · obtain ⟨x, y, d, rfl, _⟩ := h; rfl
    · obtain ⟨x, y, d, rfl, h1, h2, hd, hw, q⟩ := h
      refine ⟨_, (pss_cons (ps_if (pt_cmpR op_isN (pv 1) pe_non (nomark _)) (pss_one (ps_ret (pe_cmpR op_isN (pv 0) pe_non (nomark _)))) pss_nil)
      (pss_cons (ps_if (PW.pt (pw_or (pt_val (pe_callB call_isi (by rfl) T.m_isinstance (by decide +kernel) (pa_cons (pv 1) (pa_cons (pe_bltn (v := .ty "list") (u := .type "list") (by rfl) T.m_list (by decide +kernel) rfl) pa_nil)))) (pw_or1 (pt_val (pe_callB call_isi (by rfl) T.m_isinstance (by decide +kernel) (pa_cons (pv 1) (pa_cons (pe_bltn (v := .ty "tuple") (u := .type "tuple") (by rfl) T.m_tuple (by decide +kernel) rfl) pa_nil))))))) (pss_cons (ps_if (PW.pt (pw_or (pt_cmpR op_ne (pe_callB call_isi (by rfl) T.m_isinstance (by decide +kernel) (pa_cons (pv 0) (pa_cons (pe_bltn (v := .ty "list") (u := .type "list") (by rfl) T.m_list (by decide +kernel) rfl) pa_nil))) (pe_callB call_isi (by rfl) T.m_isinstance (by decide +kernel) (pa_cons (pv 1) (pa_cons (pe_bltn (v := .ty "list") (u := .type "list") (by rfl) T.m_list (by decide +kernel) rfl) pa_nil))) (nomark _)) (pw_or1 (pt_cmpR op_ne (pe_callB call_isi (by rfl) T.m_isinstance (by decide +kernel) (pa_cons (pv 0) (pa_cons (pe_bltn (v := .ty "tuple") (u := .type "tuple") (by rfl) T.m_tuple (by decide +kernel) rfl) pa_nil))) (pe_callB call_isi (by rfl) T.m_isinstance (by decide +kernel) (pa_cons (pv 1) (pa_cons (pe_bltn (v := .ty "tuple") (u := .type "tuple") (by rfl) T.m_tuple (by decide +kernel) rfl) pa_nil))) (nomark _))))) (pss_one (ps_ret pe_bl)) pss_nil)
      (pss_one (ps_ret (pe_and (pe_cmpR op_eq (pe_callB call_len_seq (by rfl) T.m_len PySem.boot_len (pa_cons (pv 0) pa_nil)) (pe_callB call_len_seq (by rfl) T.m_len PySem.boot_len (pa_cons (pv 1) pa_nil)) (nomark _)) (pe_one (pe_callB (cr_all rfl) (by rfl) T.m_all (by decide +kernel) (pa_cons (pe_lc (own := [("_law_a", 2), ("_law_b", 3)]) (g := (gTup K 2 (gCons (gName 2) (gCons (gName 3) gNil)))) (tt := tYes) rfl sc_l_equal.nd (RZ.pi_zipA (by rfl) T.m_zip (pa_cons (pv 0) (pa_cons (pv 1) pa_nil))) (blkOk_by (N := N_l_equal) (sc := defScope s_l_equal) (by decide +kernel)) (fun _ _ _ _ _ => (pg_tup rfl (pgs_cons (pg_name (i := 2) sc_l_equal.nd rfl (Or.inl rfl)) (pgs_cons (pg_name (i := 3) sc_l_equal.nd rfl (Or.inl rfl)) pgs_nil)))) (fun _ _ _ _ _ => pts_nil) (fun _ _ _ _ _ => (pe_call IH hr (by rfl) T.g_l_equal T.F_l_equal.kp T.b_l_equal .nil pass0 (pa_cons (pv 2) (pa_cons (pv 3) pa_nil))))) pa_nil))))))) pss_nil)
      (pss_cons (ps_if (PW.pt (pw_or (pt_cmpR op_ne (pe_callB call_isi (by rfl) T.m_isinstance (by decide +kernel) (pa_cons (pv 1) (pa_cons (pe_bltn (v := .ty "bool") (u := .type "bool") (by rfl) T.m_bool (by decide +kernel) rfl) pa_nil))) (pe_callB call_isi (by rfl) T.m_isinstance (by decide +kernel) (pa_cons (pv 0) (pa_cons (pe_bltn (v := .ty "bool") (u := .type "bool") (by rfl) T.m_bool (by decide +kernel) rfl) pa_nil))) (nomark _)) (pw_or1 (pt_cmpR op_ne (pe_callB call_isi (by rfl) T.m_isinstance (by decide +kernel) (pa_cons (pv 1) (pa_cons (pe_bltn (v := .ty "int") (u := .type "int") (by rfl) T.m_int (by decide +kernel) rfl) pa_nil))) (pe_callB call_isi (by rfl) T.m_isinstance (by decide +kernel) (pa_cons (pv 0) (pa_cons (pe_bltn (v := .ty "int") (u := .type "int") (by rfl) T.m_int (by decide +kernel) rfl) pa_nil))) (nomark _))))) (pss_one (ps_ret pe_bl)) pss_nil)
      (pss_one (ps_ret (pe_and (pe_cmpR op_eq (pe_callB call_isi (by rfl) T.m_isinstance (by decide +kernel) (pa_cons (pv 0) (pa_cons (pe_bltn (v := .ty "str") (u := .type "str") (by rfl) T.m_str (by decide +kernel) rfl) pa_nil))) (pe_callB call_isi (by rfl) T.m_isinstance (by decide +kernel) (pa_cons (pv 1) (pa_cons (pe_bltn (v := .ty "str") (u := .type "str") (by rfl) T.m_str (by decide +kernel) rfl) pa_nil))) (nomark _)) (pe_one (pe_cmpR op_eq (pv 0) (pv 1) (nomark _))))))))), ?_⟩
      cases d with
      | none =>
        cases h1; cases h2
        refine ⟨_, rfl, rfl, _, rfl, iteT ?_⟩
        exact ⟨_, rfl, rfl, q _ (Same.refl _)⟩
      | bool b =>
        cases h1; cases h2
        have ty : TyX K H (.bl b) (.type "bool") := .base (.bl b)
        refine ⟨_, rfl, rfl, _, rfl, iteF ?_⟩
        refine ⟨_, rfl, _, _, _, _, _, rfl, .ty _, ty, kt_bool_list, _, rfl, iteF ⟨_, rfl, _, _, _, _, _, rfl, .ty _, ty, kt_bool_tuple, _, rfl, iteF ?_⟩⟩
        refine ⟨_, rfl, _, _, _, _, _, rfl, .ty _, ty, kt_bool_bool, _, rfl, _, _, _, _, _, rfl, .ty _, ty, kt_bool_bool, rfl, _, rfl, iteF ⟨_, rfl, _, _, _, _, _, rfl, .ty _, ty, kt_bool_int, _, rfl, _, _, _, _, _, rfl, .ty _, ty, kt_bool_int, rfl, _, rfl, iteF ?_⟩⟩
        refine ⟨_, rfl, _, _, _, _, _, rfl, .ty _, ty, kt_bool_str, _, rfl, _, _, _, _, _, rfl, .ty _, ty, kt_bool_str, rfl, _, rfl, iteT ?_⟩
        refine ⟨_, rfl, _, rfl, rfl, ?_⟩
        rw [decide_eq_true rfl]; exact q _ (Same.refl _)
      | int b =>
        cases h1; cases h2
        have ty : TyX K H (.int b) (.type "int") := .base (.int b)
        refine ⟨_, rfl, rfl, _, rfl, iteF ?_⟩
        refine ⟨_, rfl, _, _, _, _, _, rfl, .ty _, ty, kt_int_list, _, rfl, iteF ⟨_, rfl, _, _, _, _, _, rfl, .ty _, ty, kt_int_tuple, _, rfl, iteF ?_⟩⟩
        refine ⟨_, rfl, _, _, _, _, _, rfl, .ty _, ty, kt_int_bool, _, rfl, _, _, _, _, _, rfl, .ty _, ty, kt_int_bool, rfl, _, rfl, iteF ⟨_, rfl, _, _, _, _, _, rfl, .ty _, ty, kt_int_int, _, rfl, _, _, _, _, _, rfl, .ty _, ty, kt_int_int, rfl, _, rfl, iteF ?_⟩⟩
        refine ⟨_, rfl, _, _, _, _, _, rfl, .ty _, ty, kt_int_str, _, rfl, _, _, _, _, _, rfl, .ty _, ty, kt_int_str, rfl, _, rfl, iteT ?_⟩
        refine ⟨_, rfl, _, rfl, rfl, ?_⟩
        rw [decide_eq_true rfl]; exact q _ (Same.refl _)
      | str b =>
        cases h1; cases h2
        have ty : TyX K H (.str b) (.type "str") := .base (.str b)
        refine ⟨_, rfl, rfl, _, rfl, iteF ?_⟩
        refine ⟨_, rfl, _, _, _, _, _, rfl, .ty _, ty, kt_str_list, _, rfl, iteF ⟨_, rfl, _, _, _, _, _, rfl, .ty _, ty, kt_str_tuple, _, rfl, iteF ?_⟩⟩
        refine ⟨_, rfl, _, _, _, _, _, rfl, .ty _, ty, kt_str_bool, _, rfl, _, _, _, _, _, rfl, .ty _, ty, kt_str_bool, rfl, _, rfl, iteF ⟨_, rfl, _, _, _, _, _, rfl, .ty _, ty, kt_str_int, _, rfl, _, _, _, _, _, rfl, .ty _, ty, kt_str_int, rfl, _, rfl, iteF ?_⟩⟩
        refine ⟨_, rfl, _, _, _, _, _, rfl, .ty _, ty, kt_str_str, _, rfl, _, _, _, _, _, rfl, .ty _, ty, kt_str_str, rfl, _, rfl, iteT ?_⟩
        refine ⟨_, rfl, _, rfl, rfl, ?_⟩
        rw [decide_eq_true rfl]; exact q _ (Same.refl _)
      | dict b => cases h1
      | list ds =>
        cases h1 with
        | @lst p xs _ hs ha =>
        cases h2 with
        | @lst p2 ys _ hs2 ha2 =>
        have ty : TyX K H (.ref p) (.type "list") := ty_list hs
        have ty2 : TyX K H (.ref p2) (.type "list") := ty_list hs2
        have e1 := DpAll_len ha
        have e2 := DpAll_len ha2
        refine ⟨_, rfl, rfl, _, rfl, iteF ?_⟩
        refine ⟨_, rfl, _, _, _, _, _, rfl, .ty _, ty2, kt_list_list, _, rfl, iteT (iteT ?_)⟩
        refine ⟨_, rfl, _, _, _, _, _, rfl, .ty _, ty, kt_list_list, _, rfl, _, _, _, _, _, rfl, .ty _, ty2, kt_list_list, rfl, _, rfl, iteF ⟨_, rfl, _, _, _, _, _, rfl, .ty _, ty, kt_list_tuple, _, rfl, _, _, _, _, _, rfl, .ty _, ty2, kt_list_tuple, rfl, _, rfl, iteF ?_⟩⟩
        refine ⟨_, rfl, p, xs, rfl, .inl hs, _, rfl, p2, ys, rfl, .inl hs2, rfl, _, rfl, brEq (fun _ => ?_) (fun z => absurd (by omega) z)⟩
        refine ⟨_, rfl, _, rfl, p, p2, xs, ys, rfl, .inl ⟨hs, hs2, fun D nD => ?_⟩⟩
        refine lc_it (walk_zip (n := ds.length) (by omega)) (fun i H' => Same H H' ∧ H' D = some (.lst (List.replicate i (.bl true)))) ⟨same_upd nD, upd_same⟩ (fun i H' _ h => ⟨Evl.ex_l h.1 hs, Evl.ex_l h.1 hs2⟩) ?_ ?_
        · rintro i x H1 H2 hi ⟨sH, hD⟩ ⟨U, x1, x2, rfl, nU, rfl, g1, g2⟩
          have sU := same_upd (o := HO.tup [x1, x2]) nU
          obtain ⟨d1, k1, q1⟩ := DpAll_get ha g1
          obtain ⟨d2, k2, q2⟩ := DpAll_get ha2 g2
          rw [k1] at k2; cases k2
          have hdep := deps_get k1
          refine ⟨U, [x1, x2], rfl, .inl (.inl upd_same), rfl, x1, [x2], rfl, x2, [], rfl, rfl, rfl, ?_⟩
          refine ⟨_, rfl, _, rfl, x1, x2, d1, rfl, Dp_same (sH.trans sU) q1, Dp_same (sH.trans sU) q2, by unfold dep at hd; omega, by unfold wd at hw; have := wds_get k1; omega, fun H4 s4 => ?_⟩
          refine ⟨_, s4 _ _ (sU _ _ hD), ?_, ?_, ?_⟩
          · rw [List.length_replicate]; exact Nat.lt_of_lt_of_le (show i < 1000000 by unfold wd at hw; omega) (by decide)
          · intro b o e
            have nb : b ≠ D := fun z => by subst z; rw [nD] at e; cases e
            rw [upd_ne nb]; exact s4 _ _ (sU _ _ (sH _ _ e))
          · rw [upd_same, List.replicate_succ']
        · rintro H1 ⟨sH, hD⟩
          refine ⟨D, List.replicate ds.length true, rfl, .inl (.inl ?_), ?_⟩
          · rw [List.map_replicate]; exact hD
          · rw [all_true]; exact q _ sH
      | tuple ds =>
        cases h1 with
        | @tup p xs _ hs ha =>
        cases h2 with
        | @tup p2 ys _ hs2 ha2 =>
        have ty : TyX K H (.ref p) (.type "tuple") := ty_tuple hs
        have ty2 : TyX K H (.ref p2) (.type "tuple") := ty_tuple hs2
        have e1 := DpAll_len ha
        have e2 := DpAll_len ha2
        refine ⟨_, rfl, rfl, _, rfl, iteF ?_⟩
        refine ⟨_, rfl, _, _, _, _, _, rfl, .ty _, ty2, kt_tuple_list, _, rfl, iteF ⟨_, rfl, _, _, _, _, _, rfl, .ty _, ty2, kt_tuple_tuple, _, rfl, iteT ?_⟩⟩
        refine ⟨_, rfl, _, _, _, _, _, rfl, .ty _, ty, kt_tuple_list, _, rfl, _, _, _, _, _, rfl, .ty _, ty2, kt_tuple_list, rfl, _, rfl, iteF ⟨_, rfl, _, _, _, _, _, rfl, .ty _, ty, kt_tuple_tuple, _, rfl, _, _, _, _, _, rfl, .ty _, ty2, kt_tuple_tuple, rfl, _, rfl, iteF ?_⟩⟩
        refine ⟨_, rfl, p, xs, rfl, .inr hs, _, rfl, p2, ys, rfl, .inr hs2, rfl, _, rfl, brEq (fun _ => ?_) (fun z => absurd (by omega) z)⟩
        refine ⟨_, rfl, _, rfl, p, p2, xs, ys, rfl, .inr ⟨hs, hs2, fun D nD => ?_⟩⟩
        refine lc_it (walk_zipT (n := ds.length) (by omega)) (fun i H' => Same H H' ∧ H' D = some (.lst (List.replicate i (.bl true)))) ⟨same_upd nD, upd_same⟩ (fun i H' _ h => ⟨Evl.ex_t h.1 hs, Evl.ex_t h.1 hs2⟩) ?_ ?_
        · rintro i x H1 H2 hi ⟨sH, hD⟩ ⟨U, x1, x2, rfl, nU, rfl, g1, g2⟩
          have sU := same_upd (o := HO.tup [x1, x2]) nU
          obtain ⟨d1, k1, q1⟩ := DpAll_get ha g1
          obtain ⟨d2, k2, q2⟩ := DpAll_get ha2 g2
          rw [k1] at k2; cases k2
          have hdep := deps_get k1
          refine ⟨U, [x1, x2], rfl, .inl (.inl upd_same), rfl, x1, [x2], rfl, x2, [], rfl, rfl, rfl, ?_⟩
          refine ⟨_, rfl, _, rfl, x1, x2, d1, rfl, Dp_same (sH.trans sU) q1, Dp_same (sH.trans sU) q2, by unfold dep at hd; omega, by unfold wd at hw; have := wds_get k1; omega, fun H4 s4 => ?_⟩
          refine ⟨_, s4 _ _ (sU _ _ hD), ?_, ?_, ?_⟩
          · rw [List.length_replicate]; exact Nat.lt_of_lt_of_le (show i < 1000000 by unfold wd at hw; omega) (by decide)
          · intro b o e
            have nb : b ≠ D := fun z => by subst z; rw [nD] at e; cases e
            rw [upd_ne nb]; exact s4 _ _ (sU _ _ (sH _ _ e))
          · rw [upd_same, List.replicate_succ']
        · rintro H1 ⟨sH, hD⟩
          refine ⟨D, List.replicate ds.length true, rfl, .inl (.inl ?_), ?_⟩
          · rw [List.map_replicate]; exact hD
          · rw [all_true]; exact q _ sH
theorem ok_l_small (T : Txt K mg) : FnOk P w K mg base CX0 3 T.f_l_small T.d_l_small Ps_l_small (spDrawn K 5) := by
  refine T.F_l_small.ok sc_l_small (fun vs H Q E h => ?_) (fun cdv A outer s H vs Q E hr h => ?_)
  · obtain ⟨r, rfl, _⟩ := h; rfl
  · obtain ⟨r, rfl, hR, q⟩ := h
    refine ⟨_, (pss_one (ps_ret (pe_call (ok_l_reduce T) hr (by rfl) T.g_l_reduce T.F_l_reduce.kp T.b_l_reduce .nil pass0 (pa_cons (pe_op op_sub (pe_call (ok_l_draw T) (hr.mono (by decide)) (by rfl) T.g_l_draw T.F_l_draw.kp T.b_l_draw .nil pass0 (pa_cons (pv 0) (pa_cons pe_int pa_nil))) pe_int) (pa_cons (pe_call (ok_l_choice T) hr (by rfl) T.g_l_choice T.F_l_choice.kp T.b_l_choice .nil pass0 (pa_cons (pv 0) (pa_cons (pe_lst (pa_cons pe_int (pa_cons pe_int (pa_cons pe_int (pa_cons pe_int (pa_cons pe_int pa_nil)))))) pa_nil))) pa_nil))))), ?_⟩
    refine ⟨_, rfl, r, 25, rfl, by decide, (B.of (n := 10) (by decide)).mono, hR, fun x H1 x0 x1 m1 => ?_⟩
    refine ⟨_, _, rfl, rfl, _, rfl, sizeLine2 (by simp), fun l nl => ?_⟩
    have m2 := Mo.new (o := HO.lst [.int 1, .int 1, .int 2, .int 3, .int 4]) m1.b nl
    refine ⟨r, l, _, rfl, .inl (.inl upd_same), m1.b.ne nl, by simp, by simp, m2.b, fun y H2 hy m3 => ?_⟩
    obtain ⟨d, rfl, hd⟩ : ∃ d : Int, y = .int d ∧ 1 ≤ d ∧ d ≤ 4 := by
      simp only [List.mem_cons, List.not_mem_nil, or_false] at hy
      rcases hy with rfl | rfl | rfl | rfl | rfl <;> exact ⟨_, rfl, by decide, by decide⟩
    have bn : B 5 (x - 12) := B.of (by omega)
    have bd : B 5 d := B.of (by omega)
    refine ⟨_, d, rfl, by omega, bn.mono, bd.mono, fun v H3 s f => ?_⟩
    exact q v _ _ H3 (((m1.trans m2).trans m3).trans (.same m3.b s)) (.red (by omega) f bn bd)
theorem ok_l_wide (T : Txt K mg) : FnOk P w K mg base CX0 4 T.f_l_wide T.d_l_wide Ps_l_wide (spDrawn K 40) := by
  refine T.F_l_wide.ok sc_l_wide (fun vs H Q E h => ?_) (fun cdv A outer s H vs Q E hr h => ?_)
  · obtain ⟨r, rfl, _⟩ := h; rfl
  · obtain ⟨r, rfl, hR, q⟩ := h
    refine ⟨_, (pss_cons (ps_set (i := 1) sc_l_wide.nd rfl (Or.inl rfl) (pe_call (ok_l_reduce T) (hr.mono (by decide)) (by rfl) T.g_l_reduce T.F_l_reduce.kp T.b_l_reduce .nil pass0 (pa_cons (pe_op op_add (pe_op op_sub (pe_call (ok_l_draw T) (hr.mono (by decide)) (by rfl) T.g_l_draw T.F_l_draw.kp T.b_l_draw .nil pass0 (pa_cons (pv 0) (pa_cons (pe_op op_sub (pe_op op_mulW pe_int (pe_op op_pow pe_int pe_int)) pe_int) pa_nil))) (pe_op op_pow pe_int pe_int)) pe_int) (pa_cons (pe_op op_add pe_int (pe_call (ok_l_draw T) (hr.mono (by decide)) (by rfl) T.g_l_draw T.F_l_draw.kp T.b_l_draw .nil pass0 (pa_cons (pv 0) (pa_cons (pe_op op_sub (pe_op op_pow pe_int pe_int) pe_int) pa_nil)))) pa_nil))))
      (pss_one (ps_ret (pe_call (ok_l_choice T) (hr.mono (by decide)) (by rfl) T.g_l_choice T.F_l_choice.kp T.b_l_choice .nil pass0 (pa_cons (pv 0) (pa_cons (pe_lst (pa_cons (pv 1) (pa_cons (pe_call (ok_l_small T) hr (by rfl) T.g_l_small T.F_l_small.kp T.b_l_small .nil pass0 (pa_cons (pv 0) pa_nil)) (pa_cons (pe_call (ok_l_small T) hr (by rfl) T.g_l_small T.F_l_small.kp T.b_l_small .nil pass0 (pa_cons (pv 0) pa_nil)) (pa_cons (pe_tup (pa_cons pe_int (pa_cons pe_int pa_nil))) (pa_cons (pe_tup (pa_cons pe_int (pa_cons pe_int pa_nil))) (pa_cons (pe_tup (pa_cons (pe_op op_sub (pe_op op_pow pe_int pe_int) pe_int) (pa_cons pe_int pa_nil))) pa_nil))))))) pa_nil)))))), ?_⟩
    have c12 : CPow 10 12 := ⟨by decide, by decide, by decide⟩
    have b2 : B 2 2 := B.of (by decide)
    have b12 : B 40 (10 ^ (12 : Int).toNat) := B.of (by decide)
    refine ⟨_, rfl, _, _, rfl, rfl, c12, _, _, rfl, rfl, cm b2 b12, _, _, rfl, rfl, r, _, rfl, by decide, (B.of (n := 41) (by decide)).mono, hR, fun x H1 x0 x1 m1 => ?_⟩
    refine ⟨_, _, rfl, rfl, c12, _, _, rfl, rfl, _, _, rfl, rfl, _, rfl, _, _, rfl, rfl, c12, _, _, rfl, rfl, r, _, rfl, by decide, (B.of (n := 41) (by decide)).mono, m1.b, fun y H2 y0 y1 m2 => ?_⟩
    simp only [Int.reduceToNat, Int.reducePow, Int.reduceMul, Int.reduceSub] at x1 y1
    have bn : B 40 (x - 10 ^ (12 : Int).toNat + 1) := B.of (by simp only [Int.reduceToNat, Int.reducePow, Nat.reducePow]; omega)
    have bd : B 40 (1 + y) := B.of (by simp only [Nat.reducePow]; omega)
    refine ⟨_, _, rfl, rfl, _, _, rfl, by omega, bn.mono, bd.mono, fun v H3 s f => ?_⟩
    have fv : Fq K H3 40 v _ _ := .red (by omega) f bn bd
    have m3 := (m1.trans m2).trans (.same m2.b s)
    refine ⟨_, rfl, _, rfl, _, rfl, r, rfl, m3.b, fun v4 a4 b4 H4 m4 f4 => ?_⟩
    refine ⟨_, rfl, r, rfl, m4.b, fun v5 a5 b5 H5 m5 f5 => ?_⟩
    refine ⟨sizeLine2 (by simp), fun p6 n6 => ?_⟩
    have m6 := Mo.new (o := HO.tup [.int 0, .int 1]) m5.b n6
    have f6 : Fq K (upd H5 p6 (.tup [.int 0, .int 1])) 40 (.ref p6) 0 1 := .lit upd_same (by decide) (B.of (by decide)) (B.of (by decide)) rfl
    refine ⟨sizeLine2 (by simp), fun p7 n7 => ?_⟩
    have m7 := Mo.new (o := HO.tup [.int 1, .int 1]) m6.b n7
    have f7 : Fq K (upd (upd H5 p6 (.tup [.int 0, .int 1])) p7 (.tup [.int 1, .int 1])) 40 (.ref p7) 1 1 := .lit upd_same (by decide) (B.of (by decide)) (B.of (by decide)) rfl
    refine ⟨_, _, rfl, rfl, c12, _, _, rfl, rfl, sizeLine2 (by simp), fun p8 n8 => ?_⟩
    have m8 := Mo.new (o := HO.tup [.int (10 ^ (12 : Int).toNat - 1), .int 1]) m7.b n8
    have f8 := Fq.lit (K := K) (k := 40) (upd_same (H := upd (upd H5 p6 (.tup [.int 0, .int 1])) p7 (.tup [.int 1, .int 1])) (a := p8) (o := HO.tup [.int (10 ^ (12 : Int).toNat - 1), .int 1])) (by decide) (B.of (by decide)) (B.of (by decide)) (by decide)
    refine ⟨sizeLine2 (by simp), fun l nl => ?_⟩
    have m9 := Mo.new (o := HO.lst [v, v4, v5, .ref p6, .ref p7, .ref p8]) m8.b nl
    refine ⟨r, l, _, rfl, .inl (.inl upd_same), m8.b.ne nl, by simp, by simp, m9.b, fun y H9 hy m10 => ?_⟩
    have mm := m9.trans m10
    have mall := (((((m3.trans m4).trans m5).trans m6).trans m7).trans m8).trans mm
    simp only [List.mem_cons, List.not_mem_nil, or_false] at hy
    rcases hy with rfl | rfl | rfl | rfl | rfl | rfl
    · exact q _ _ _ _ mall (((((fv.mo m4).mo m5).mo m6).mo m7).mo m8 |>.mo mm)
    · exact q _ _ _ _ mall (((((f4.mono.mo m5).mo m6).mo m7).mo m8).mo mm)
    · exact q _ _ _ _ mall ((((f5.mono.mo m6).mo m7).mo m8).mo mm)
    · exact q _ _ _ _ mall (((f6.mo m7).mo m8).mo mm)
    · exact q _ _ _ _ mall ((f7.mo m8).mo mm)
    · exact q _ _ _ _ mall (f8.mo mm)
end
end EP
namespace EP
open PySem PySem.Spec PyProof.Rows L2 EPX
section
variable {P : Program} {w : World} {K : PySem.W.Frag} {mg : Str → Option Value} {base : Heap}
theorem ok_l_error_field (T : Txt K mg) : EPX.FnE P w K mg base 1 T.f_l_error_field T.d_l_error_field Ps_l_error_field (spErrF K "InvalidCount" "number") := by
  refine EPX.fn_ofE T.F_l_error_field sc_l_error_field (fun a cls d vs H Q h => ?_) (fun cdv A outer s H vs Q p cls d hz hfs hr h => ?_)
  · obtain ⟨rfl, _⟩ := h; rfl
  · obtain ⟨rfl, C, dd, v, rfl, rfl, hxf, hnt, hnn, hdd, q⟩ := h
    have hp : p ∈ (L2H.cxH CX0 P w K mg base N_l_error_field (Str.ofString "_law_error_field") (defScope s_l_error_field) T.f_l_error_field cdv A outer s H E0 p).pn := List.mem_cons_self ..
    refine ⟨_, (pss_cons (ps_if (pt_cmpR op_in_seq (EPX.pe_xe hp hz hfs (pv 0)) (pe_tup (pa_cons pe_str (pa_cons pe_str pa_nil))) (by rfl)) (pss_one (ps_ret (EPX.pe_xe hp hz hfs (pv 0)))) pss_nil)
      (pss_cons (ps_if (pt_cmpR op_in_seq (EPX.pe_xe hp hz hfs (pv 0)) (pe_tup (pa_cons pe_str (pa_cons pe_str (pa_cons pe_str pa_nil)))) (by rfl)) (pss_one (ps_ret (EPX.pe_xe hp hz hfs (pv 0)))) pss_nil)
      (pss_cons (ps_if (pt_cmpR op_in_seq (EPX.pe_xe hp hz hfs (pv 0)) (pe_tup (pa_cons pe_str (pa_cons pe_str (pa_cons pe_str pa_nil)))) (by rfl)) (pss_one (ps_ret (EPX.pe_xe hp hz hfs (pv 0)))) pss_nil)
      (pss_cons (ps_if (pt_cmpR op_in_seq (EPX.pe_xe hp hz hfs (pv 0)) (pe_tup (pa_cons pe_str (pa_cons pe_str pa_nil))) (by rfl)) (pss_one (ps_ret (EPX.pe_xe hp hz hfs (pv 0)))) pss_nil)
      (pss_cons (ps_if (pt_cmpR op_in_seq (EPX.pe_xe hp hz hfs (pv 0)) (pe_tup (pa_cons pe_str (pa_cons pe_str pa_nil))) (by rfl)) (pss_one (ps_ret (pe_ifExp (pt_cmpR op_eq (EPX.pe_xe hp hz hfs (pv 0)) pe_str (nomark _)) (EPX.pe_xe hp hz hfs (pv 0)) (EPX.pe_xe hp hz hfs (pv 0))))) pss_nil)
      (pss_cons (ps_if (pt_cmpR op_in_seq (EPX.pe_xe hp hz hfs (pv 0)) (pe_tup (pa_cons pe_str (pa_cons pe_str pa_nil))) (by rfl)) (pss_one (ps_ret (pe_ifExp (pt_cmpR op_eq (EPX.pe_xe hp hz hfs (pv 0)) pe_str (nomark _)) (EPX.pe_xe hp hz hfs (pv 0)) (EPX.pe_xe hp hz hfs (pv 0))))) pss_nil)
      (pss_one (ps_ret (pe_ifExp (pt_cmpR op_eq (EPX.pe_xe hp hz hfs (pv 0)) pe_str (nomark _)) (EPX.pe_xe hp hz hfs (pv 0)) pe_non))))))))), ?_⟩
    refine ⟨_, rfl, rfl, C, dd, _, _, rfl, rfl, hxf, hnt, hdd, rfl, sizeLine2 (by simp), fun p0 n0 => ?_⟩
    have s0 := same_upd (o := HO.tup [.str "InvalidGate", .str "ParseError"]) n0
    have hdd := s0 _ _ hdd
    refine ⟨p0, _, rfl, .inr (.inl (.inl upd_same)), rfl, by decide +kernel, _, rfl, brF (by decide +kernel) ?_⟩
    refine ⟨_, rfl, rfl, C, dd, _, _, rfl, rfl, hxf, hnt, hdd, rfl, sizeLine2 (by simp), fun p1 n1 => ?_⟩
    have s1 := same_upd (o := HO.tup [.str "SamePlace", .str "NotBarring", .str "UnknownGate"]) n1
    have hdd := s1 _ _ hdd
    refine ⟨p1, _, rfl, .inr (.inl (.inl upd_same)), rfl, by decide +kernel, _, rfl, brF (by decide +kernel) ?_⟩
    refine ⟨_, rfl, rfl, C, dd, _, _, rfl, rfl, hxf, hnt, hdd, rfl, sizeLine2 (by simp), fun p2 n2 => ?_⟩
    have s2 := same_upd (o := HO.tup [.str "InvalidName", .str "DuplicateName", .str "UnknownRoad"]) n2
    have hdd := s2 _ _ hdd
    refine ⟨p2, _, rfl, .inr (.inl (.inl upd_same)), rfl, by decide +kernel, _, rfl, brF (by decide +kernel) ?_⟩
    refine ⟨_, rfl, rfl, C, dd, _, _, rfl, rfl, hxf, hnt, hdd, rfl, sizeLine2 (by simp), fun p3 n3 => ?_⟩
    have s3 := same_upd (o := HO.tup [.str "NotCrossed", .str "TooMany"]) n3
    have hdd := s3 _ _ hdd
    refine ⟨p3, _, rfl, .inr (.inl (.inl upd_same)), rfl, by decide +kernel, _, rfl, brF (by decide +kernel) ?_⟩
    refine ⟨_, rfl, rfl, C, dd, _, _, rfl, rfl, hxf, hnt, hdd, rfl, sizeLine2 (by simp), fun p4 n4 => ?_⟩
    have s4 := same_upd (o := HO.tup [.str "CapacityExceeded", .str "TooWide"]) n4
    have hdd := s4 _ _ hdd
    refine ⟨p4, _, rfl, .inr (.inl (.inl upd_same)), rfl, by decide +kernel, _, rfl, brF (by decide +kernel) ?_⟩
    refine ⟨_, rfl, rfl, C, dd, _, _, rfl, rfl, hxf, hnt, hdd, rfl, sizeLine2 (by simp), fun p5 n5 => ?_⟩
    have s5 := same_upd (o := HO.tup [.str "InvalidFactor", .str "InvalidCount"]) n5
    have hdd := s5 _ _ hdd
    refine ⟨p5, _, rfl, .inr (.inl (.inl upd_same)), rfl, by decide +kernel, _, rfl, brT (by decide +kernel) ?_⟩
    refine ⟨_, rfl, rfl, C, dd, _, _, rfl, rfl, hxf, hnt, hdd, rfl, rfl, _, rfl, brF (by decide +kernel) ?_⟩
    exact ⟨_, rfl, rfl, C, dd, _, _, rfl, rfl, hxf, hnn, hdd, rfl, q _ (((((s0.trans s1).trans s2).trans s3).trans s4).trans s5)⟩
/-- the errors that an outcome tells here -/
def okErr (C : Addr) : Value → Option Addr → Hp → V → V → Prop := fun cls d H tag v => tag = .str "InvalidCount" ∧ ErrIs C [("number", v), ("tag", .str "InvalidCount")] cls d H
theorem ok_l_outcome (T : Txt K mg) {X : Cx} {q : Str} (hK : X.K = K) (hm : X.mg = mg) : EPX.Takes1 X 4 N_l_outcome "_law_outcome" s_l_outcome T.f_l_outcome "_law_ask" q (TOut (okErr T.c_InvalidCount)) := by
  subst hK hm
  intro cdg f c' A0 outer0 s0 H0 Q tl hr act hc h
  refine ⟨_, pss_cons (ps_asg (pe_tup (pa_cons pe_non (pa_cons pe_str (pa_cons pe_non pa_nil)))) (pg_tup (by rfl) (pgs_cons (pg_name (i := 1) sc_l_outcome.nd rfl (Or.inl rfl)) (pgs_cons (pg_name (i := 2) sc_l_outcome.nd rfl (Or.inl rfl)) (pgs_cons (pg_name (i := 3) sc_l_outcome.nd rfl (Or.inl rfl)) pgs_nil)))))
    (pss_cons (EPX.ps_try_pairs (i := 4)
        (ts := fun a cls d => tPar 2 3 (tCons (EPX.tXe X.K a cls d "tag" (tVar 4)) (tCons (fun σ H Q => tCons (tVar 4) tNil σ H fun vs H1 => spErrF X.K "InvalidCount" "number" a cls d vs H1 Q) tNil)))
        (ts' := fun a cls d => tAsg (EPX.tXe X.K a cls d "tag" (tVar 4)) (gName 2))
        rfl rfl sc_l_outcome.nd rfl rfl ⟨by rfl, by decide, .inl T.gc_PaceError⟩ ⟨by rfl, by decide, .inl T.gc_NotFound⟩ ⟨by rfl, by decide, .inl T.gc_ZeroDenominator⟩ ⟨by rfl, by decide, .inl T.gc_EmptyHistory⟩
        (fun W pn xe tk _ => pss_one (ps_set (i := 1) sc_l_outcome.nd rfl (Or.inl rfl) (act W pn xe _ _ tk)))
        (fun a oe cls d pn hz hfs => pss_one (EPX.ps_parH (i := 2) (j := 3) ⟨(a, oe), ⟨rfl, hfs.elim fun vs hv => ⟨vs, hv, hz.2.2 vs hv⟩⟩, List.mem_cons_self ..⟩ sc_l_outcome.nd rfl rfl (by decide) rfl rfl (pa_cons (EPX.pe_xe (X := (cxOf CX0 X.prog X.w X.K X.mg X.base N_l_outcome (Str.ofString "_law_outcome") (defScope s_l_outcome) T.f_l_outcome cdg A0 outer0 s0 H0 E0).nox.suite a ((a, oe) :: pn)) (p := (a, oe)) (List.mem_cons_self ..) hz hfs (pv 4)) (pa_cons (EPX.pe_callE (X := (cxOf CX0 X.prog X.w X.K X.mg X.base N_l_outcome (Str.ofString "_law_outcome") (defScope s_l_outcome) T.f_l_outcome cdg A0 outer0 s0 H0 E0).nox.suite a ((a, oe) :: pn)) (p := (a, oe)) (ok_l_error_field T) (L2H.roomH_mark (hr.mono (by decide)) _) (List.mem_cons_self ..) hz hfs (by rfl) T.g_l_error_field T.F_l_error_field.kp T.b_l_error_field (pa_cons (pv 4) pa_nil)) pa_nil)) (by rfl)))
        (fun a oe cls d pn hz hfs => pss_one (ps_set (i := 2) sc_l_outcome.nd rfl (Or.inl rfl) (EPX.pe_xe (X := (cxOf CX0 X.prog X.w X.K X.mg X.base N_l_outcome (Str.ofString "_law_outcome") (defScope s_l_outcome) T.f_l_outcome cdg A0 outer0 s0 H0 E0).nox.suite a ((a, oe) :: pn)) (p := (a, oe)) (List.mem_cons_self ..) hz hfs (pv 4)))))
    (pss_one (ps_ret (pe_tup (pa_cons (pv 1) (pa_cons (pv 2) (pa_cons (pv 3) pa_nil))))))), ?_⟩
  refine ⟨sizeLine2 (by simp), fun p0 n0 => ⟨p0, _, rfl, .inl (.inl upd_same), rfl, _, _, rfl, _, _, rfl, _, _, rfl, rfl, ?_⟩⟩
  have s0' := same_upd (o := HO.tup [.non, .str "", .non]) n0
  refine ⟨rfl, s0' _ _ hc, ?_⟩
  refine h _ _ _ s0' (fun cls d H' hh => ?_) (fun v H' hh => ?_)
  · obtain ⟨tag, v, ⟨rfl, rfl, dd, rfl, hdd⟩, k⟩ := hh
    refine ⟨true, T.exA, fun _ a na => ?_, fun z => by cases z⟩
    refine ⟨_, rfl, rfl, _, dd, _, _, rfl, rfl, T.xfC, T.nTag, hdd, rfl, ?_⟩
    refine ⟨_, rfl, rfl, _, dd, v, rfl, rfl, T.xfC, T.nTag, T.nNum, hdd, fun H2 s2 => ?_⟩
    refine ⟨_, _, rfl, ?_⟩
    refine ⟨_, rfl, _, rfl, _, rfl, sizeLine2 (by simp), fun p np => ?_⟩
    exact k p _ (s2.trans (same_upd np)) upd_same
  · refine ⟨_, rfl, _, rfl, _, rfl, sizeLine2 (by simp), fun p np => ?_⟩
    exact hh p _ (same_upd np) upd_same
end
end EP
namespace EP
open PySem PySem.Spec PyProof.Rows L2 EPX
section
variable {P : Program} {w : World} {K : PySem.W.Frag} {mg : Str → Option Value} {base : Heap}
theorem tout_mono {ok : Value → Option Addr → Hp → V → V → Prop} {tl : XK → Hp → VK → Prop} {H : Hp} {Q Q' : VK} (h : TOut ok tl H Q) (k : ∀ v H', Q v H' → Q' v H') : TOut ok tl H Q' :=
  fun E Qn H1 s hE hQ => h E Qn H1 s (fun cls d H' ⟨tag, v, o, z⟩ => hE cls d H' ⟨tag, v, o, fun p H2 a b => k _ _ (z p H2 a b)⟩) (fun v H' z => hQ v H' fun p H2 a b => k _ _ (z p H2 a b))
theorem cut1 {xs : List V} (h : 1 < xs.length) : cutV xs (some 1) none = xs.drop 1 := by
  unfold cutV
  rw [HT.sIx_none, show HT.sIx xs.length 0 (some 1) = min 1 xs.length from HT.sIx_nat _ _ 1, Nat.min_eq_left (by omega), List.take_of_length_le]
  rw [List.length_drop]; omega
theorem ok_l_error (T : Txt K mg) {X : Cx} {q : Str} {ok : Value → Option Addr → Hp → V → V → Prop} (hK : X.K = K) (hm : X.mg = mg) (cdg : Value) (f c' : Addr) (A0 : Around) (outer0 : List Env) (s0 : Shared) (H0 : Hp) (Q : VK) (tl : XK → Hp → VK → Prop)
    (callY : ∀ (q1 q2 q3 : Pos), PE (cxOf CX0 X.prog X.w X.K X.mg X.base N_l_error "_law_error" (defScope s_l_error) T.f_l_error cdg A0 outer0 s0 H0 E0).nox (.Call (.Name "_law_outcome" q1) [.Name "_law_ask" q2] [] q3) (fun σZ HZ Q => σZ[0]? = some (some (.ref f)) ∧ HZ c' = some (LamX.CodeO c' q) ∧ TOut ok tl HZ Q))
    (hc : H0 c' = some (LamX.CodeO c' q)) (h : TOut ok tl H0 (fun v H' => ∃ p xs, v = .ref p ∧ SqT X.K H' p xs ∧ 1 < xs.length ∧ xs.length < 1000 ∧ ∀ l, H' l = none → Q (.ref l) (upd H' l (.tup (xs.drop 1))))) :
    ∃ t, PSs (cxOf CX0 X.prog X.w X.K X.mg X.base N_l_error "_law_error" (defScope s_l_error) T.f_l_error cdg A0 outer0 s0 H0 E0).nox (defBody s_l_error) t ∧ t { nx := fun _ H' => Q .non H', rt := Q } (L2.start N_l_error [.ref f]) H0 := by
  refine ⟨_, pss_one (ps_ret (pe_slice sl_tup (callY _ _ _) (po_some pe_int) po_none)), ?_⟩
  refine ⟨rfl, hc, tout_mono h fun v H' hh => ?_⟩
  obtain ⟨p, xs, rfl, hx, h1, _, k⟩ := hh
  refine ⟨1, rfl, p, xs, rfl, hx, fun z => ?_, fun l nl => ?_⟩
  · have := z.1
    rw [show HT.sIx xs.length 0 (some 1) = min 1 xs.length from HT.sIx_nat _ _ 1] at this
    omega
  · rw [cut1 h1]; exact k l nl
end
end EP
namespace EP
open PySem PySem.Spec PyProof.Rows L2 EPX
section
variable {P : Program} {w : World} {K : PySem.W.Frag} {mg : Str → Option Value} {base : Heap}
theorem fun_okT {P : Program} {w : World} {K : PySem.W.Frag} {mg : Str → Option Value} {base : Heap} {CX : CXT} {x qual : Str} {st : Stmt} {f c : Addr} {fd : FuncData} {N ps : List Str} {k : Nat} {sp : Sp} (F : Fun K x qual st f fd) (hc : fd.code = .ref c) (S : FnScope N ps (defScope st)) (len : ∀ vs H Q E, sp vs H Q E → vs.length = ps.length)
    (hbody : ∀ (A : Around) (outer : List Env) (s : Shared) (H : Hp) (vs : List V) (Q : VK) (E : XK), Room k (A.deeper (envOfC qual (defScope st) s.heap.objs.size f (.ref c))) → sp vs H Q E →
      ∃ t, PSs (cxOf CX P w K mg base N qual (defScope st) f (.ref c) A outer s H E).nox (defBody st) t ∧ t { nx := fun _ H' => Q .non H', rt := Q } (L2.start N vs) H) : FnOk P w K mg base CX (k + 1) f fd ps sp := by
  obtain ⟨oc, od, kV, doc, pm, an, cdv, ct, osl, rfl, lk, hcd⟩ := F.ex
  obtain rfl : cdv = .ref c := hc
  exact fn_of lk hcd S len fun A outer s H vs Q E hr hsp => by
    obtain ⟨t, h1, h2⟩ := hbody A outer s H vs Q E hr hsp
    exact ⟨t, h1.nox, h2⟩
abbrev lamQ : Str := (envOfC (Str.ofString "law") (defScope s_law) 0 0 .none).qual ++ "<lambda>"
def spLaw6 (K : PySem.W.Frag) (PT : Addr) : Sp := fun vs H Q _ => ∃ (a : Addr) (ns : List Int), vs = [.ref a] ∧ SqL K H a (ns.map V.int) ∧ ns.length ≤ 63 ∧ H PT = some (.tbl #[]) ∧ ∀ H', Q (.bl true) H'
theorem Tabs_same {TT : List (Addr × Str)} {H H' : Hp} (t : LamX.Tabs TT H) (s : Same H H') : LamX.Tabs TT H' := fun p hp => (t p hp).ext fun b o e => s b o e
theorem sql_xt {K : PySem.W.Frag} {H H' : Hp} {a : Addr} {xs : List V} (h : SqL K H a xs) (e : LamX.ExtN H H') : SqL K H' a xs := by
  rcases h with (h | ⟨o, h⟩) | h
  · exact .inl (.inl (e _ _ h fun ps z => by cases z))
  · exact .inl (.inr ⟨o, e _ _ h fun ps z => by cases z⟩)
  · exact .inr h
mutual
theorem Dp_xt {K : PySem.W.Frag} {H H' : Hp} (s : LamX.ExtN H H') : ∀ {v : V} {d : PyData}, Dp K H v d → Dp K H' v d
  | _, _, .non => .non
  | _, _, .bl b => .bl b
  | _, _, .int i => .int i
  | _, _, .str x => .str x
  | _, _, .lst h a => .lst (sql_xt h s) (DpAll_xt s a)
  | _, _, .tup h a => .tup (sqt_xt h s) (DpAll_xt s a)
theorem DpAll_xt {K : PySem.W.Frag} {H H' : Hp} (s : LamX.ExtN H H') : ∀ {v : List V} {d : List PyData}, DpAll K H v d → DpAll K H' v d
  | _, _, .nil => .nil
  | _, _, .cons h a => .cons (Dp_xt s h) (DpAll_xt s a)
end
set_option maxHeartbeats 8000000 in
theorem ok_law (T : Txt K mg) {c PT : Addr} (hcode : T.d_law.code = .ref c) (TB : LamX.TabB base mg c PT) : FnOk P w K mg base CX0 9 T.f_law T.d_law Ps_law (spLaw6 K PT) := by
  refine fun_okT T.F_law hcode sc_law (fun vs H Q E h => ?_) (fun A outer s H vs Q E hr h => ?_)
  · obtain ⟨a, ns, rfl, _⟩ := h; rfl
  · obtain ⟨sc, ns, rfl, hS, hlen, hPT, q⟩ := h
    let TT : List (Addr × Str) := [(PT, lamQ)]
    have t0 : LamX.Tabs TT H := fun p hp => by
      obtain rfl := List.mem_singleton.mp hp
      exact ⟨#[], hPT, trivial, fun pos cv e => by cases e⟩
    refine ⟨_, (pss_cons (ps_set (i := 1) sc_law.nd rfl (Or.inl rfl) (pe_call (ok_l_source T) (hr.mono (by decide)) (by rfl) T.g_l_source T.F_l_source.kp T.b_l_source .nil pass0 (pa_cons (pv 0) pa_nil)))
      (pss_cons (ps_for PassesOwn.never rfl (pi_range1 rfl T.m_range (pa_cons pe_int pa_nil)) (pg_name (i := 2) sc_law.nd rfl (Or.inl rfl)) (pss_cons (ps_asg (pe_tup (pa_cons (pe_op op_sub (pe_call (ok_l_draw T) (hr.mono (by decide)) (by rfl) T.g_l_draw T.F_l_draw.kp T.b_l_draw .nil pass0 (pa_cons (pv 1) (pa_cons pe_int pa_nil))) pe_int) (pa_cons (pe_call (ok_l_wide T) (hr.mono (by decide)) (by rfl) T.g_l_wide T.F_l_wide.kp T.b_l_wide .nil pass0 (pa_cons (pv 1) pa_nil)) (pa_cons (pe_call (ok_l_wide T) (hr.mono (by decide)) (by rfl) T.g_l_wide T.F_l_wide.kp T.b_l_wide .nil pass0 (pa_cons (pv 1) pa_nil)) pa_nil)))) (pg_tup (by rfl) (pgs_cons (pg_name (i := 4) sc_law.nd rfl (Or.inr rfl)) (pgs_cons (pg_name (i := 7) sc_law.nd rfl (Or.inr rfl)) (pgs_cons (pg_name (i := 6) sc_law.nd rfl (Or.inr rfl)) pgs_nil)))))
      (pss_cons (ps_set (i := 3) sc_law.nd rfl (Or.inl rfl) (pe_tup (pa_cons pe_non (pa_cons pe_str (pa_cons (pv 4) pa_nil)))))
      (pss_cons (ps_if (pt_cmpR op_ge (pv 4) pe_int (nomark _)) (pss_one (ps_set (i := 3) sc_law.nd rfl (Or.inl rfl) (pe_tup (pa_cons (pe_callB (cr_sum rfl) (by rfl) T.m_sum (by decide +kernel) (pa_cons (pe_lc (own := [("_law_k", 8)]) (g := (gName 8)) (tt := tYes) rfl sc_law.nd (pi_range1 rfl T.m_range (pa_cons (pv 4) pa_nil)) (blkOk_by (N := N_law) (sc := defScope s_law) (by decide +kernel)) (fun _ _ _ _ _ => (pg_name (i := 8) sc_law.nd rfl (Or.inl rfl))) (fun _ _ _ _ _ => pts_nil) (fun _ _ _ _ _ => (pe_call (ok_l_floor T) (hr.mono (by decide)) (by rfl) T.g_l_floor T.F_l_floor.kp T.b_l_floor .nil pass0 (pa_cons (pe_call (ok_l_add T) (hr.mono (by decide)) (by rfl) T.g_l_add T.F_l_add.kp T.b_l_add .nil pass0 (pa_cons (pe_call (ok_l_times T) (hr.mono (by decide)) (by rfl) T.g_l_times T.F_l_times.kp T.b_l_times .nil pass0 (pa_cons (pv 8) (pa_cons (pv 7) pa_nil))) (pa_cons (pv 6) pa_nil))) pa_nil)))) pa_nil)) (pa_cons pe_str (pa_cons pe_non pa_nil)))))) pss_nil)
      (pss_one (ps_if (pt_not (pt_val (pe_call (ok_l_equal T 3) (hr.mono (by decide)) (by rfl) T.g_l_equal T.F_l_equal.kp T.b_l_equal .nil pass0 (pa_cons (EPX.pe_lam1 (T := TT) T.F_l_outcome (by rfl) T.g_l_outcome T.b_l_outcome sc_l_outcome rfl (Or.inl rfl) (ok_l_outcome T rfl rfl) TB rfl (List.mem_singleton.mpr rfl) (fun p hp _ => by rw [List.mem_singleton.mp hp]; rfl) (hr.mono (by decide)) (LamX.lamS_by (by rfl)) (by rfl) (fun _ _ _ _ _ => by rfl) (fun AL outerL sL HL EL fL cL hrL => (pe_call (ok_floor_sum T) (hrL.mono (by decide)) (by rfl) T.g_floor_sum T.F_floor_sum.kp T.b_floor_sum .nil (L2N.passes_call (L2N.takes_of rfl rfl rfl rfl) (fun _ _ _ _ h => h)) (pa_cons (pv 4) (pa_cons (pv 7) (pa_cons (pv 6) pa_nil)))))) (pa_cons (pv 3) pa_nil))))) (pss_one (ps_ret pe_bl)) pss_nil))))))
      (pss_cons (ps_set (i := 5) sc_law.nd rfl (Or.inr rfl) (pe_op op_sub (pe_op op_sub pe_int pe_int) (pe_call (ok_l_draw T) (hr.mono (by decide)) (by rfl) T.g_l_draw T.F_l_draw.kp T.b_l_draw .nil pass0 (pa_cons (pv 1) (pa_cons (pe_op op_pow pe_int pe_int) pa_nil)))))
      (pss_one (ps_ret (pe_call (ok_l_equal T 3) (hr.mono (by decide)) (by rfl) T.g_l_equal T.F_l_equal.kp T.b_l_equal .nil pass0 (pa_cons (EPX.pe_lam2 (T := TT) T.F_l_error (by rfl) T.g_l_error T.b_l_error sc_l_error rfl (Or.inl rfl) T.F_l_outcome rfl T.g_l_outcome T.b_l_outcome sc_l_outcome rfl (Or.inl rfl) (ok_l_outcome T rfl rfl) (ok_l_error T rfl rfl) TB rfl (List.mem_singleton.mpr rfl) (fun p hp _ => by rw [List.mem_singleton.mp hp]; rfl) (hr.mono (by decide)) (LamX.lamS_by (by rfl)) (by rfl) (fun _ _ _ _ _ => by rfl) (fun AL outerL sL HL EL fL cL hrL => (pe_call (ok_floor_sum T) (hrL.mono (by decide)) (by rfl) T.g_floor_sum T.F_floor_sum.kp T.b_floor_sum .nil (L2N.passes_call (L2N.takes_of rfl rfl rfl rfl) (fun _ _ _ _ h => h)) (pa_cons (pv 5) (pa_cons (pe_tup (pa_cons pe_int (pa_cons pe_int pa_nil))) (pa_cons (pe_tup (pa_cons pe_int (pa_cons pe_int pa_nil))) pa_nil)))))) (pa_cons (pe_tup (pa_cons pe_str (pa_cons (pv 5) pa_nil))) pa_nil)))))))), ?_⟩
    refine ⟨_, rfl, sc, ns, rfl, hS, hlen, fun r H0 s0 hR => ?_⟩
    refine ⟨4, rfl, by decide, by decide, ?_⟩
    refine for_range (n := 4) (fun i σ H' => Rng H' r ∧ LamX.Tabs TT H' ∧ ∃ z2 z3 z4 z5 z6 z7 z8, σ = [some (.ref sc), some (.ref r), z2, z3, z4, z5, z6, z7, z8]) ⟨hR, Tabs_same t0 s0, _, _, _, _, _, _, _, rfl⟩ ?_ ?_
    · rintro i σ Hi hi ⟨hR, ti, z2, z3, z4, z5, z6, z7, z8, rfl⟩
      refine ⟨_, rfl, r, 64, rfl, by decide, (B.of (n := 10) (by decide)).mono, hR, fun x H1 x0 x1 m1 => ?_⟩
      refine ⟨_, _, rfl, rfl, _, rfl, r, rfl, m1.b, fun v1 a b H2 m2 f1 => ?_⟩
      refine ⟨_, rfl, r, rfl, m2.b, fun v2 c d H3 m3 f2 => ?_⟩
      refine ⟨sizeLine2 (by simp), fun p np => ⟨p, _, rfl, .inl (.inl upd_same), rfl, _, _, rfl, _, _, rfl, _, _, rfl, rfl, ?_⟩⟩
      have m4 := Mo.new (o := HO.tup [.int (x - 3), v1, v2]) m3.b np
      refine ⟨_, rfl, sizeLine2 (by simp), fun p1 n1 => ?_⟩
      have m5 := Mo.new (o := HO.tup [.non, .str "InvalidCount", .int (x - 3)]) m4.b n1
      have f1 := ((f1.mo m3).mo m4).mo m5
      have f2 := (f2.mo m4).mo m5
      have t5 : LamX.Tabs TT _ := Tabs_mo (Tabs_mo (Tabs_mo (Tabs_mo (Tabs_mo ti m1) m2) m3) m4) m5
      have hR := m5.b
      have d5 : Dp K (upd (upd H3 p (HO.tup [.int (x - 3), v1, v2])) p1 (HO.tup [.non, .str "InvalidCount", .int (x - 3)])) (.ref p1) (.tuple [.none, .str "InvalidCount", .int (x - 3)]) := .tup (.inl (.inl upd_same)) (.cons .non (.cons (.str _) (.cons (.int _) .nil)))
      generalize upd (upd H3 p (HO.tup [.int (x - 3), v1, v2])) p1 (HO.tup [.non, .str "InvalidCount", .int (x - 3)]) = H5 at *
      clear m1 m2 m3 m4 m5 ti np n1
      have hM : 0 < b * d := Int.mul_pos f1.p f2.p
      have r1 : Rv a b (a * d) (b * d) := by unfold Rv; grind
      have r2 : Rv c d (c * b) (b * d) := by unfold Rv; grind
      have hb0 : b ≠ 0 := Int.ne_of_gt f1.p
      have hd0 : d ≠ 0 := Int.ne_of_gt f2.p
      dsimp only [gName]
      refine seq_by (t := tIfS _ _ _) (u := tIfS _ _ _) (fun σ H' => ∃ (pd : Addr) (z8 : Option V), σ = [some (.ref sc), some (.ref r), some (.int (0 + (i : Nat))), some (.ref pd), some (.int (x - 3)), z5, some v2, some v1, z8] ∧ Same H5 H' ∧ (x - 3 < 0 → Dp K H' (.ref pd) (.tuple [.none, .str "InvalidCount", .int (x - 3)])) ∧ (0 ≤ x - 3 → Dp K H' (.ref pd) (.tuple [.int (FS (x - 3).toNat (a * d) (c * b) (b * d)), .str "", .none]))) ?_ (fun fin => ?_)
      · rintro σ H' ⟨pd, z8, rfl, s5, dn, dp⟩
        have f1 := f1.same s5
        have f2 := f2.same s5
        have hR := hR.same s5
        refine ⟨Tabs_same t5 s5, fun H6 e6 t6 => ?_⟩
        have f1 := Fq_xt f1 e6
        have f2 := Fq_xt f2 e6
        have hR := Rng_xt hR e6
        intro E1 Qn H7 s7 hE hQ
        have f1 := f1.same s7
        have f2 := f2.same s7
        have bx : B 10 (x - 3) := B.of (by simp only [Nat.reducePow]; omega)
        refine ⟨_, rfl, _, rfl, _, rfl, x - 3, v1, v2, a, b, c, d, rfl, f1.f, f2.f, f1.p, f2.p, bx.mono, f1.ba.mono, f1.bb.mono, f2.ba.mono, f2.bb.mono, fun hneg cls d' H8 s8 er => ?_, fun hpos z H8 s8 hz => ?_⟩
        · refine hE _ _ _ ⟨_, _, ⟨rfl, er⟩, fun p H9 s9 hp => ?_⟩
          have sA := (s7.trans s8).trans s9
          refine ⟨_, rfl, _, _, .tuple [.none, .str "InvalidCount", .int (x - 3)], rfl, .tup (.inl (.inl hp)) (.cons .non (.cons (.str _) (.cons (.int _) .nil))), Dp_same sA (Dp_xt e6 (dn hneg)), by simp [dep, deps], by simp [wd, wds], fun HB sB => ⟨_, rfl, iteF ?_⟩⟩
          exact ⟨(hR.same sA).same sB, Tabs_same (Tabs_same t6 sA) sB, _, _, _, _, _, _, _, rfl⟩
        · refine hQ _ _ fun p H9 s9 hp => ?_
          have sA := (s7.trans s8).trans s9
          have ez := hz _ _ _ hM r1.fs r2.fs
          refine ⟨_, rfl, _, _, .tuple [.int z, .str "", .none], rfl, .tup (.inl (.inl hp)) (.cons (.int _) (.cons (.str _) (.cons .non .nil))), ?_, by simp [dep, deps], by simp [wd, wds], fun HB sB => ⟨_, rfl, iteF ?_⟩⟩
          · rw [ez]; exact Dp_same sA (Dp_xt e6 (dp hpos))
          exact ⟨(hR.same sA).same sB, Tabs_same (Tabs_same t6 sA) sB, _, _, _, _, _, _, _, rfl⟩
      · refine ⟨_, rfl, _, _, rfl, rfl, _, rfl, brI (fun hpos => ?_) (fun hneg => ?_)⟩
        · refine ⟨_, rfl, _, rfl, by omega, by omega, fun D nD => ?_⟩
          refine lc_it (walk_range (n := (x - 3).toNat)) (fun i H' => Same H5 H' ∧ H' D = some (.lst ((List.range i).map fun (k : Nat) => V.int ((a * d * k + c * b) / (b * d))))) ⟨same_upd nD, upd_same⟩ (fun _ _ _ _ => trivial) ?_ ?_
          · rintro i y H1 H2 hi ⟨sH, hD⟩ ⟨rfl, rfl⟩
            refine ⟨rfl, ?_⟩
            have f1 := f1.same sH
            have f2 := f2.same sH
            have bi : B 10 ((0 : Int) + (i : Nat)) := B.of (by simp only [Nat.reducePow]; omega)
            refine ⟨_, rfl, _, rfl, _, _, a, b, rfl, f1.f, hb0, bi.mono, f1.ba.mono, f1.bb.mono, fun v3 H8 s8 f3 => ?_⟩
            have q3 := Rv.red hb0 (r1.times (n := (0 : Int) + (i : Nat)))
            have g3 : Fq K H8 77 v3 _ _ := .red hb0 f3 (bi.mul f1.ba).mono f1.bb.mono
            have f2' := f2.same s8
            refine ⟨_, rfl, v3, _, _, _, c, d, rfl, g3.f, f2'.f, Int.ne_of_gt g3.p, hd0, g3.ba.mono, g3.bb.mono, f2'.ba.mono, f2'.bb.mono, fun v4 H9 s9 f4 => ?_⟩
            dsimp only at f4
            have hdd := Int.mul_ne_zero (Int.ne_of_gt g3.p) hd0
            have q4 := Rv.red hdd (q3.add r2)
            have g4 : Fq K H9 200 v4 _ _ := .red hdd f4 (((g3.ba.mul f2'.bb).mono (m := 150)).add ((f2'.ba.mul g3.bb).mono (m := 150))).mono (g3.bb.mul f2'.bb).mono
            refine ⟨v4, _, _, rfl, g4.f, g4.p, g4.bb.mono, ?_⟩
            rw [q4.floor g4.p hM]
            refine ⟨_, s9 _ _ (s8 _ _ hD), ?_, ?_, ?_⟩
            · rw [List.length_map, List.length_range]; exact Nat.lt_of_lt_of_le (show i < 1000 by omega) (by decide)
            · intro y o e
              rw [upd_ne (ne_of_none e nD)]; exact s9 _ _ (s8 _ _ (sH _ _ e))
            · rw [upd_same, List.range_succ, List.map_append]
              have : ((0 + (i : Nat)) * (a * d) + c * b : Int) = a * d * (i : Nat) + c * b := by grind
              rw [this]; rfl
          · rintro H1 ⟨sH, hD⟩
            refine ⟨D, (List.range (x - 3).toNat).map (fun (k : Nat) => (a * d * k + c * b) / (b * d)), rfl, .inl (.inl ?_), sizeLine2 (by simp), fun p2 n2 => ?_⟩
            · rw [List.map_map]; exact hD
            · refine fin _ _ ⟨p2, _, rfl, sH.trans (same_upd n2), fun h => absurd h (by omega), fun _ => ?_⟩
              rw [show FS (x - 3).toNat (a * d) (c * b) (b * d) = ((List.range (x - 3).toNat).map (fun (k : Nat) => (a * d * k + c * b) / (b * d))).sum from (Sm_sum _ _).symm]
              exact .tup (.inl (.inl upd_same)) (.cons (.int _) (.cons (.str _) (.cons .non .nil)))
        · exact fin _ _ ⟨p1, _, rfl, Same.refl _, fun _ => d5, fun h => absurd h (by omega)⟩
    · rintro σ H' ⟨hR, ti, z2, z3, z4, z5, z6, z7, z8, rfl⟩
      have c29 : CPow 10 29 := ⟨by decide, by decide, by decide⟩
      refine ⟨_, _, rfl, rfl, _, rfl, _, _, rfl, rfl, c29, r, _, rfl, by decide, (B.of (n := 100) (by decide)).mono, hR, fun x H1 x0 x1 m1 => ⟨_, _, rfl, rfl, ?_⟩⟩
      simp only [Int.reduceToNat, Int.reducePow] at x1
      refine ⟨Tabs_mo ti m1, fun H6 e6 t6 => ?_⟩
      intro E1 Qn H7 s7 hE hQ
      have bx : B 100 (0 - 1 - x) := B.of (by simp only [Nat.reducePow]; omega)
      refine ⟨_, rfl, sizeLine2 (by simp), fun pa na => ⟨sizeLine2 (by simp), fun pb nb => ?_⟩⟩
      have sa := same_upd (o := HO.tup [.int 0, .int 1]) nb
      refine ⟨0 - 1 - x, .ref pa, .ref pb, 1, 2, 0, 1, rfl, ⟨pa, rfl, .inl (.inl (sa _ _ upd_same))⟩, ⟨pb, rfl, .inl (.inl upd_same)⟩, by decide, by decide, bx.mono, (B.of (n := 2) (by decide)).mono, (B.of (n := 2) (by decide)).mono, (B.of (n := 2) (by decide)).mono, (B.of (n := 2) (by decide)).mono, fun hneg cls d' H8 s8 er => ?_, fun hpos => absurd hpos (by omega)⟩
      refine hE _ _ _ ⟨_, _, ⟨rfl, er⟩, fun p H9 s9 hp => ?_⟩
      refine ⟨p, _, rfl, .inl (.inl hp), by simp, by simp, fun l nl => ?_⟩
      refine ⟨_, rfl, sizeLine2 (by simp), fun pe ne => ?_⟩
      have se := same_upd (o := HO.tup [.str "InvalidCount", .int (0 - 1 - x)]) ne
      refine ⟨_, _, .tuple [.str "InvalidCount", .int (0 - 1 - x)], rfl, .tup (.inl (.inl (se _ _ upd_same))) (.cons (.str _) (.cons (.int _) .nil)), .tup (.inl (.inl upd_same)) (.cons (.str _) (.cons (.int _) .nil)), by simp [dep, deps], by simp [wd, wds], fun HB sB => q HB⟩
end
end EP
namespace EP
open PySem PySem.Spec PyProof.Rows L2 EPX
set_option maxHeartbeats 8000000 in
theorem all_mk {l : PySem.W.OpenLaw} {w : World} {K : PySem.W.Frag} {h : Heap} {mg : Str → Option Value} {fa : Addr} (X : K.In h) (G : h.Ns mainGlobals mg) (hfa : mg "law" = some (.ref fa))
    {f0 : Addr} {od0 an0 : Option Addr} {sl0 : Array (Option Value)} {oc0 kV0 dc0 pm0 cd0 ct0 : Value}
    (a0 : PySem.W.nsIn K mainGlobals "gcd" = some (some (.ref f0))) (l0 : K.lookup f0 = some ⟨oc0, od0, .func (PySem.W.fnOf "gcd" "gcd" (defArgs s_gcd) (defBody s_gcd) (defScope s_gcd) .none kV0 dc0 pm0 an0 cd0 ct0), sl0⟩) (c0 : PySem.W.codeIn K cd0 "gcd" = true) (k0 : PySem.W.keepIn K (.ref f0) = true)
    {f1 : Addr} {od1 an1 : Option Addr} {sl1 : Array (Option Value)} {oc1 kV1 dc1 pm1 cd1 ct1 : Value}
    (a1 : PySem.W.nsIn K mainGlobals "common_denominator" = some (some (.ref f1))) (l1 : K.lookup f1 = some ⟨oc1, od1, .func (PySem.W.fnOf "common_denominator" "common_denominator" (defArgs s_common_denominator) (defBody s_common_denominator) (defScope s_common_denominator) .none kV1 dc1 pm1 an1 cd1 ct1), sl1⟩) (c1 : PySem.W.codeIn K cd1 "common_denominator" = true) (k1 : PySem.W.keepIn K (.ref f1) = true)
    {f2 : Addr} {od2 an2 : Option Addr} {sl2 : Array (Option Value)} {oc2 kV2 dc2 pm2 cd2 ct2 : Value}
    (a2 : PySem.W.nsIn K mainGlobals "whole" = some (some (.ref f2))) (l2 : K.lookup f2 = some ⟨oc2, od2, .func (PySem.W.fnOf "whole" "whole" (defArgs s_whole) (defBody s_whole) (defScope s_whole) .none kV2 dc2 pm2 an2 cd2 ct2), sl2⟩) (c2 : PySem.W.codeIn K cd2 "whole" = true) (k2 : PySem.W.keepIn K (.ref f2) = true)
    {f3 : Addr} {od3 an3 : Option Addr} {sl3 : Array (Option Value)} {oc3 kV3 dc3 pm3 cd3 ct3 : Value}
    (a3 : PySem.W.nsIn K mainGlobals "floor_sum" = some (some (.ref f3))) (l3 : K.lookup f3 = some ⟨oc3, od3, .func (PySem.W.fnOf "floor_sum" "floor_sum" (defArgs s_floor_sum) (defBody s_floor_sum) (defScope s_floor_sum) .none kV3 dc3 pm3 an3 cd3 ct3), sl3⟩) (c3 : PySem.W.codeIn K cd3 "floor_sum" = true) (k3 : PySem.W.keepIn K (.ref f3) = true)
    {f4 : Addr} {od4 an4 : Option Addr} {sl4 : Array (Option Value)} {oc4 kV4 dc4 pm4 cd4 ct4 : Value}
    (a4 : PySem.W.nsIn K mainGlobals "_law_source" = some (some (.ref f4))) (l4 : K.lookup f4 = some ⟨oc4, od4, .func (PySem.W.fnOf "_law_source" "_law_source" (defArgs s_l_source) (defBody s_l_source) (defScope s_l_source) .none kV4 dc4 pm4 an4 cd4 ct4), sl4⟩) (c4 : PySem.W.codeIn K cd4 "_law_source" = true) (k4 : PySem.W.keepIn K (.ref f4) = true)
    {f5 : Addr} {od5 an5 : Option Addr} {sl5 : Array (Option Value)} {oc5 kV5 dc5 pm5 cd5 ct5 : Value}
    (a5 : PySem.W.nsIn K mainGlobals "_law_draw" = some (some (.ref f5))) (l5 : K.lookup f5 = some ⟨oc5, od5, .func (PySem.W.fnOf "_law_draw" "_law_draw" (defArgs s_l_draw) (defBody s_l_draw) (defScope s_l_draw) .none kV5 dc5 pm5 an5 cd5 ct5), sl5⟩) (c5 : PySem.W.codeIn K cd5 "_law_draw" = true) (k5 : PySem.W.keepIn K (.ref f5) = true)
    {f6 : Addr} {od6 an6 : Option Addr} {sl6 : Array (Option Value)} {oc6 kV6 dc6 pm6 cd6 ct6 : Value}
    (a6 : PySem.W.nsIn K mainGlobals "_law_choice" = some (some (.ref f6))) (l6 : K.lookup f6 = some ⟨oc6, od6, .func (PySem.W.fnOf "_law_choice" "_law_choice" (defArgs s_l_choice) (defBody s_l_choice) (defScope s_l_choice) .none kV6 dc6 pm6 an6 cd6 ct6), sl6⟩) (c6 : PySem.W.codeIn K cd6 "_law_choice" = true) (k6 : PySem.W.keepIn K (.ref f6) = true)
    {f7 : Addr} {od7 an7 : Option Addr} {sl7 : Array (Option Value)} {oc7 kV7 dc7 pm7 cd7 ct7 : Value}
    (a7 : PySem.W.nsIn K mainGlobals "_law_equal" = some (some (.ref f7))) (l7 : K.lookup f7 = some ⟨oc7, od7, .func (PySem.W.fnOf "_law_equal" "_law_equal" (defArgs s_l_equal) (defBody s_l_equal) (defScope s_l_equal) .none kV7 dc7 pm7 an7 cd7 ct7), sl7⟩) (c7 : PySem.W.codeIn K cd7 "_law_equal" = true) (k7 : PySem.W.keepIn K (.ref f7) = true)
    {f8 : Addr} {od8 an8 : Option Addr} {sl8 : Array (Option Value)} {oc8 kV8 dc8 pm8 cd8 ct8 : Value}
    (a8 : PySem.W.nsIn K mainGlobals "_law_error_field" = some (some (.ref f8))) (l8 : K.lookup f8 = some ⟨oc8, od8, .func (PySem.W.fnOf "_law_error_field" "_law_error_field" (defArgs s_l_error_field) (defBody s_l_error_field) (defScope s_l_error_field) .none kV8 dc8 pm8 an8 cd8 ct8), sl8⟩) (c8 : PySem.W.codeIn K cd8 "_law_error_field" = true) (k8 : PySem.W.keepIn K (.ref f8) = true)
    {f9 : Addr} {od9 an9 : Option Addr} {sl9 : Array (Option Value)} {oc9 kV9 dc9 pm9 cd9 ct9 : Value}
    (a9 : PySem.W.nsIn K mainGlobals "_law_outcome" = some (some (.ref f9))) (l9 : K.lookup f9 = some ⟨oc9, od9, .func (PySem.W.fnOf "_law_outcome" "_law_outcome" (defArgs s_l_outcome) (defBody s_l_outcome) (defScope s_l_outcome) .none kV9 dc9 pm9 an9 cd9 ct9), sl9⟩) (c9 : PySem.W.codeIn K cd9 "_law_outcome" = true) (k9 : PySem.W.keepIn K (.ref f9) = true)
    {f10 : Addr} {od10 an10 : Option Addr} {sl10 : Array (Option Value)} {oc10 kV10 dc10 pm10 cd10 ct10 : Value}
    (a10 : PySem.W.nsIn K mainGlobals "_law_error" = some (some (.ref f10))) (l10 : K.lookup f10 = some ⟨oc10, od10, .func (PySem.W.fnOf "_law_error" "_law_error" (defArgs s_l_error) (defBody s_l_error) (defScope s_l_error) .none kV10 dc10 pm10 an10 cd10 ct10), sl10⟩) (c10 : PySem.W.codeIn K cd10 "_law_error" = true) (k10 : PySem.W.keepIn K (.ref f10) = true)
    {f11 : Addr} {od11 an11 : Option Addr} {sl11 : Array (Option Value)} {oc11 kV11 dc11 pm11 cd11 ct11 : Value}
    (a11 : PySem.W.nsIn K mainGlobals "_law_divisor" = some (some (.ref f11))) (l11 : K.lookup f11 = some ⟨oc11, od11, .func (PySem.W.fnOf "_law_divisor" "_law_divisor" (defArgs s_l_divisor) (defBody s_l_divisor) (defScope s_l_divisor) .none kV11 dc11 pm11 an11 cd11 ct11), sl11⟩) (c11 : PySem.W.codeIn K cd11 "_law_divisor" = true) (k11 : PySem.W.keepIn K (.ref f11) = true)
    {f12 : Addr} {od12 an12 : Option Addr} {sl12 : Array (Option Value)} {oc12 kV12 dc12 pm12 cd12 ct12 : Value}
    (a12 : PySem.W.nsIn K mainGlobals "_law_reduce" = some (some (.ref f12))) (l12 : K.lookup f12 = some ⟨oc12, od12, .func (PySem.W.fnOf "_law_reduce" "_law_reduce" (defArgs s_l_reduce) (defBody s_l_reduce) (defScope s_l_reduce) .none kV12 dc12 pm12 an12 cd12 ct12), sl12⟩) (c12 : PySem.W.codeIn K cd12 "_law_reduce" = true) (k12 : PySem.W.keepIn K (.ref f12) = true)
    {f13 : Addr} {od13 an13 : Option Addr} {sl13 : Array (Option Value)} {oc13 kV13 dc13 pm13 cd13 ct13 : Value}
    (a13 : PySem.W.nsIn K mainGlobals "_law_add" = some (some (.ref f13))) (l13 : K.lookup f13 = some ⟨oc13, od13, .func (PySem.W.fnOf "_law_add" "_law_add" (defArgs s_l_add) (defBody s_l_add) (defScope s_l_add) .none kV13 dc13 pm13 an13 cd13 ct13), sl13⟩) (c13 : PySem.W.codeIn K cd13 "_law_add" = true) (k13 : PySem.W.keepIn K (.ref f13) = true)
    {f14 : Addr} {od14 an14 : Option Addr} {sl14 : Array (Option Value)} {oc14 kV14 dc14 pm14 cd14 ct14 : Value}
    (a14 : PySem.W.nsIn K mainGlobals "_law_times" = some (some (.ref f14))) (l14 : K.lookup f14 = some ⟨oc14, od14, .func (PySem.W.fnOf "_law_times" "_law_times" (defArgs s_l_times) (defBody s_l_times) (defScope s_l_times) .none kV14 dc14 pm14 an14 cd14 ct14), sl14⟩) (c14 : PySem.W.codeIn K cd14 "_law_times" = true) (k14 : PySem.W.keepIn K (.ref f14) = true)
    {f15 : Addr} {od15 an15 : Option Addr} {sl15 : Array (Option Value)} {oc15 kV15 dc15 pm15 cd15 ct15 : Value}
    (a15 : PySem.W.nsIn K mainGlobals "_law_floor" = some (some (.ref f15))) (l15 : K.lookup f15 = some ⟨oc15, od15, .func (PySem.W.fnOf "_law_floor" "_law_floor" (defArgs s_l_floor) (defBody s_l_floor) (defScope s_l_floor) .none kV15 dc15 pm15 an15 cd15 ct15), sl15⟩) (c15 : PySem.W.codeIn K cd15 "_law_floor" = true) (k15 : PySem.W.keepIn K (.ref f15) = true)
    {f16 : Addr} {od16 an16 : Option Addr} {sl16 : Array (Option Value)} {oc16 kV16 dc16 pm16 cd16 ct16 : Value}
    (a16 : PySem.W.nsIn K mainGlobals "_law_small" = some (some (.ref f16))) (l16 : K.lookup f16 = some ⟨oc16, od16, .func (PySem.W.fnOf "_law_small" "_law_small" (defArgs s_l_small) (defBody s_l_small) (defScope s_l_small) .none kV16 dc16 pm16 an16 cd16 ct16), sl16⟩) (c16 : PySem.W.codeIn K cd16 "_law_small" = true) (k16 : PySem.W.keepIn K (.ref f16) = true)
    {f17 : Addr} {od17 an17 : Option Addr} {sl17 : Array (Option Value)} {oc17 kV17 dc17 pm17 cd17 ct17 : Value}
    (a17 : PySem.W.nsIn K mainGlobals "_law_wide" = some (some (.ref f17))) (l17 : K.lookup f17 = some ⟨oc17, od17, .func (PySem.W.fnOf "_law_wide" "_law_wide" (defArgs s_l_wide) (defBody s_l_wide) (defScope s_l_wide) .none kV17 dc17 pm17 an17 cd17 ct17), sl17⟩) (c17 : PySem.W.codeIn K cd17 "_law_wide" = true) (k17 : PySem.W.keepIn K (.ref f17) = true)
    {f18 : Addr} {od18 an18 : Option Addr} {sl18 : Array (Option Value)} {oc18 kV18 dc18 pm18 cd18 ct18 : Value}
    (a18 : PySem.W.nsIn K mainGlobals "law" = some (some (.ref f18))) (l18 : K.lookup f18 = some ⟨oc18, od18, .func (PySem.W.fnOf "law" "law" (defArgs s_law) (defBody s_law) (defScope s_law) .none kV18 dc18 pm18 an18 cd18 ct18), sl18⟩) (c18 : PySem.W.codeIn K cd18 "law" = true) (k18 : PySem.W.keepIn K (.ref f18) = true)
    (z0 : PySem.W.nsIn K mainGlobals "ValueError" = some none)
    (z1 : PySem.W.nsIn K mainGlobals "abs" = some none)
    (z2 : PySem.W.nsIn K mainGlobals "len" = some none)
    (z3 : PySem.W.nsIn K mainGlobals "list" = some none)
    (z4 : PySem.W.nsIn K mainGlobals "isinstance" = some none)
    (z5 : PySem.W.nsIn K mainGlobals "tuple" = some none)
    (z6 : PySem.W.nsIn K mainGlobals "all" = some none)
    (z7 : PySem.W.nsIn K mainGlobals "zip" = some none)
    (z8 : PySem.W.nsIn K mainGlobals "bool" = some none)
    (z9 : PySem.W.nsIn K mainGlobals "int" = some none)
    (z10 : PySem.W.nsIn K mainGlobals "str" = some none)
    (z11 : PySem.W.nsIn K mainGlobals "range" = some none)
    (z12 : PySem.W.nsIn K mainGlobals "sum" = some none)
    {c_PaceError : Addr} (ac_PaceError : PySem.W.nsIn K mainGlobals "PaceError" = some (some (.ref c_PaceError)))
    {c_NotFound : Addr} (ac_NotFound : PySem.W.nsIn K mainGlobals "NotFound" = some (some (.ref c_NotFound)))
    {c_InvalidCount : Addr} (ac_InvalidCount : PySem.W.nsIn K mainGlobals "InvalidCount" = some (some (.ref c_InvalidCount)))
    {c_ZeroDenominator : Addr} (ac_ZeroDenominator : PySem.W.nsIn K mainGlobals "ZeroDenominator" = some (some (.ref c_ZeroDenominator)))
    {c_EmptyHistory : Addr} (ac_EmptyHistory : PySem.W.nsIn K mainGlobals "EmptyHistory" = some (some (.ref c_EmptyHistory)))
    {fi_PaceError : Addr} {odi0 ani0 : Option Addr} {sli0 : Array (Option Value)} {oci0 kVi0 dci0 pmi0 cdi0 cti0 : Value}
    (li0 : K.lookup fi_PaceError = some ⟨oci0, odi0, .func (PySem.W.fnOf "__init__" "PaceError.__init__" (defArgs si_PaceError) (defBody si_PaceError) (defScope si_PaceError) .none kVi0 dci0 pmi0 ani0 cdi0 cti0), sli0⟩) (ci0 : PySem.W.codeIn K cdi0 "PaceError.__init__" = true) (ki0 : PySem.W.keepIn K (.ref fi_PaceError) = true)
    {fi_InvalidCount : Addr} {odi1 ani1 : Option Addr} {sli1 : Array (Option Value)} {oci1 kVi1 dci1 pmi1 cdi1 cti1 : Value}
    (li1 : K.lookup fi_InvalidCount = some ⟨oci1, odi1, .func (PySem.W.fnOf "__init__" "InvalidCount.__init__" (defArgs si_InvalidCount) (defBody si_InvalidCount) (defScope si_InvalidCount) .none kVi1 dci1 pmi1 ani1 cdi1 cti1), sli1⟩) (ci1 : PySem.W.codeIn K cdi1 "InvalidCount.__init__" = true) (ki1 : PySem.W.keepIn K (.ref fi_InvalidCount) = true)
    {nmC qC : Str} {NC : Addr} {bsC bmC : List Value} {snC : List Str} {subC : List Value} {abC : Bool} {colC : Option Bool} {ddC : Option Addr} {k0C k1C k2C k3C k5C : Option Value}
    {mcP : Value}
    (ownGa : PySem.W.specialIn K (.ref c_PaceError) "__getattribute__" = some (some (.builtin "type.__getattribute__")))
    (ownTy : PySem.W.typeIn K (.ref c_PaceError) = some mcP)
    (ownRd : PySem.W.readsIn K c_PaceError mcP = true)
    (ownFi : PySem.W.findCls K (.ref c_PaceError) mcP "__init__" = some (.val (.ref fi_PaceError)))
    (oxL : K.lookup c_InvalidCount = some (excClassObj nmC qC c_InvalidCount NC bsC bmC true snC subC abC colC ddC k0C k1C k2C k3C k5C "ValueError.__new__"))
    (oxB : PySem.HandSPX.refsVE bmC = true)
    (oxSa : PySem.W.findIn K (.ref c_InvalidCount) "__setattr__" = some (some (.builtin "object.__setattr__")))
    (oxEx : PySem.W.subIn K (.ref c_InvalidCount) (.type "BaseException") = some true)
    (oxTy : PySem.W.typeIn K (.ref c_InvalidCount) = some (.type "type"))
    (oxK : PySem.W.keepIn K (.ref c_InvalidCount) = true)
    (xfGa : PySem.W.findIn K (.ref c_InvalidCount) "__getattribute__" = some (some (.builtin "BaseException.__getattribute__")))
    (xfGg : PySem.W.findIn K (.ref c_InvalidCount) "__getattr__" = some none)
    (xfHd : PySem.W.hasDictIn K c_InvalidCount = true)
    (eP1 : PySem.W.subIn K (.ref c_PaceError) (.type "BaseException") = some true)
    (eP2 : PySem.W.isClsIn K c_PaceError = true)
    (eP3 : PySem.W.typeIn K (.ref c_PaceError) = some (.type "type"))
    (eP4 : PySem.W.subIn K (.ref c_InvalidCount) (.ref c_PaceError) = some true)
    (eN1 : PySem.W.subIn K (.ref c_NotFound) (.type "BaseException") = some true)
    (eN2 : PySem.W.isClsIn K c_NotFound = true)
    (eN3 : PySem.W.typeIn K (.ref c_NotFound) = some (.type "type"))
    (eN4 : PySem.W.subIn K (.ref c_InvalidCount) (.ref c_NotFound) = some false)
    (vVE : PySem.W.findCls K (.type "ValueError") (.type "type") "__init__" = some (.val (.builtin "ValueError.__init__")))
    (iC : PySem.W.findIn K (.ref c_InvalidCount) "__init__" = some (some (.ref fi_InvalidCount)))
    (tI : PySem.W.typeIn K (.ref fi_InvalidCount) = some (.type "function"))
    (nTag : PySem.W.findIn K (.ref c_InvalidCount) "tag" = some none)
    (nNum : PySem.W.findIn K (.ref c_InvalidCount) "number" = some none)
    {cL PT : Addr} {eL : Value} {ddL : Option Addr} {vsL : Array Value} {slL : Array (Option Value)} (own : LamX.OwnTab K fa h) (hcd : cd18 = .ref cL) (lcL : K.lookup cL = some ⟨eL, ddL, .fields vsL, slL⟩) (pcL : vsL[11]? = some (.ref PT)) (nPT : K.lookup PT = none) (hdL : PySem.W.codeHdIn K cL PT = true)
    : LamX.LawAtS l w K CX0 9 63 "_law_script" mg fa h := by
  have e := hfa.symm.trans (PySem.W.mg_of X G a18)
  cases e
  have F0 := fun_mk (st := s_gcd) l0 c0 k0
  have b0 := F0.binds (ps := ["one", "other"]) fun _ _ _ _ _ _ us hl => match us, hl with | [_, _], _ => rfl
  have F1 := fun_mk (st := s_common_denominator) l1 c1 k1
  have b1 := F1.binds (ps := ["values"]) fun _ _ _ _ _ _ us hl => match us, hl with | [_], _ => rfl
  have F2 := fun_mk (st := s_whole) l2 c2 k2
  have b2 := F2.binds (ps := ["value", "common"]) fun _ _ _ _ _ _ us hl => match us, hl with | [_, _], _ => rfl
  have F3 := fun_mk (st := s_floor_sum) l3 c3 k3
  have b3 := F3.binds (ps := ["count", "slope", "offset"]) fun _ _ _ _ _ _ us hl => match us, hl with | [_, _, _], _ => rfl
  have F4 := fun_mk (st := s_l_source) l4 c4 k4
  have b4 := F4.binds (ps := ["_law_script"]) fun _ _ _ _ _ _ us hl => match us, hl with | [_], _ => rfl
  have F5 := fun_mk (st := s_l_draw) l5 c5 k5
  have b5 := F5.binds (ps := ["_law_rng", "_law_many"]) fun _ _ _ _ _ _ us hl => match us, hl with | [_, _], _ => rfl
  have F6 := fun_mk (st := s_l_choice) l6 c6 k6
  have b6 := F6.binds (ps := ["_law_rng", "_law_some"]) fun _ _ _ _ _ _ us hl => match us, hl with | [_, _], _ => rfl
  have F7 := fun_mk (st := s_l_equal) l7 c7 k7
  have b7 := F7.binds (ps := ["_law_result", "_law_expected"]) fun _ _ _ _ _ _ us hl => match us, hl with | [_, _], _ => rfl
  have F8 := fun_mk (st := s_l_error_field) l8 c8 k8
  have b8 := F8.binds (ps := ["_law_e"]) fun _ _ _ _ _ _ us hl => match us, hl with | [_], _ => rfl
  have F9 := fun_mk (st := s_l_outcome) l9 c9 k9
  have b9 := F9.binds (ps := ["_law_ask"]) fun _ _ _ _ _ _ us hl => match us, hl with | [_], _ => rfl
  have F10 := fun_mk (st := s_l_error) l10 c10 k10
  have b10 := F10.binds (ps := ["_law_ask"]) fun _ _ _ _ _ _ us hl => match us, hl with | [_], _ => rfl
  have F11 := fun_mk (st := s_l_divisor) l11 c11 k11
  have b11 := F11.binds (ps := ["_law_one", "_law_other"]) fun _ _ _ _ _ _ us hl => match us, hl with | [_, _], _ => rfl
  have F12 := fun_mk (st := s_l_reduce) l12 c12 k12
  have b12 := F12.binds (ps := ["_law_num", "_law_den"]) fun _ _ _ _ _ _ us hl => match us, hl with | [_, _], _ => rfl
  have F13 := fun_mk (st := s_l_add) l13 c13 k13
  have b13 := F13.binds (ps := ["_law_one", "_law_other"]) fun _ _ _ _ _ _ us hl => match us, hl with | [_, _], _ => rfl
  have F14 := fun_mk (st := s_l_times) l14 c14 k14
  have b14 := F14.binds (ps := ["_law_number", "_law_one"]) fun _ _ _ _ _ _ us hl => match us, hl with | [_, _], _ => rfl
  have F15 := fun_mk (st := s_l_floor) l15 c15 k15
  have b15 := F15.binds (ps := ["_law_one"]) fun _ _ _ _ _ _ us hl => match us, hl with | [_], _ => rfl
  have F16 := fun_mk (st := s_l_small) l16 c16 k16
  have b16 := F16.binds (ps := ["_law_rng"]) fun _ _ _ _ _ _ us hl => match us, hl with | [_], _ => rfl
  have F17 := fun_mk (st := s_l_wide) l17 c17 k17
  have b17 := F17.binds (ps := ["_law_rng"]) fun _ _ _ _ _ _ us hl => match us, hl with | [_], _ => rfl
  have F18 := fun_mk (st := s_law) l18 c18 k18
  have b18 := F18.binds (ps := ["_law_script"]) fun _ _ _ _ _ _ us hl => match us, hl with | [_], _ => rfl
  have Fi0 := fun_mk (st := si_PaceError) li0 ci0 ki0
  have bi0 := Fi0.binds (ps := ["self", "tag"]) fun _ _ _ _ _ _ us hl => match us, hl with | [_, _], _ => rfl
  have Fi1 := fun_mk (st := si_InvalidCount) li1 ci1 ki1
  have bi1 := Fi1.binds (ps := ["self", "number"]) fun _ _ _ _ _ _ us hl => match us, hl with | [_, _], _ => rfl
  subst hcd
  refine ⟨PySem.W.fnOf "law" "law" (defArgs s_law) (defBody s_law) (defScope s_law) .none kV18 dc18 pm18 an18 (.ref cL) ct18, [(cL, PT)], spLaw6 K PT, fun p hp => ?_, fun p hp => ?_, fun p hp => ?_, fun s v => .of_eq rfl, fun H a ns hl _ hH hS => ⟨a, ns, rfl, hS, hl, hH (cL, PT) (List.mem_singleton.mpr rfl), fun _ => rfl⟩, fun base _ _ hT => ok_law ⟨⟨_, _, F0, b0, PySem.W.mg_of X G a0⟩, ⟨_, _, F1, b1, PySem.W.mg_of X G a1⟩, ⟨_, _, F2, b2, PySem.W.mg_of X G a2⟩, ⟨_, _, F3, b3, PySem.W.mg_of X G a3⟩, ⟨_, _, F4, b4, PySem.W.mg_of X G a4⟩, ⟨_, _, F5, b5, PySem.W.mg_of X G a5⟩, ⟨_, _, F6, b6, PySem.W.mg_of X G a6⟩, ⟨_, _, F7, b7, PySem.W.mg_of X G a7⟩, ⟨_, _, F8, b8, PySem.W.mg_of X G a8⟩, ⟨_, _, F9, b9, PySem.W.mg_of X G a9⟩, ⟨_, _, F10, b10, PySem.W.mg_of X G a10⟩, ⟨_, _, F11, b11, PySem.W.mg_of X G a11⟩, ⟨_, _, F12, b12, PySem.W.mg_of X G a12⟩, ⟨_, _, F13, b13, PySem.W.mg_of X G a13⟩, ⟨_, _, F14, b14, PySem.W.mg_of X G a14⟩, ⟨_, _, F15, b15, PySem.W.mg_of X G a15⟩, ⟨_, _, F16, b16, PySem.W.mg_of X G a16⟩, ⟨_, _, F17, b17, PySem.W.mg_of X G a17⟩, ⟨_, _, F18, b18, PySem.W.mg_of X G a18⟩, PySem.W.mg_none_of X G z0, PySem.W.mg_none_of X G z1, PySem.W.mg_none_of X G z2, PySem.W.mg_none_of X G z3, PySem.W.mg_none_of X G z4, PySem.W.mg_none_of X G z5, PySem.W.mg_none_of X G z6, PySem.W.mg_none_of X G z7, PySem.W.mg_none_of X G z8, PySem.W.mg_none_of X G z9, PySem.W.mg_none_of X G z10, PySem.W.mg_none_of X G z11, PySem.W.mg_none_of X G z12, _, PySem.W.mg_of X G ac_PaceError, _, PySem.W.mg_of X G ac_NotFound, _, PySem.W.mg_of X G ac_InvalidCount, _, PySem.W.mg_of X G ac_ZeroDenominator, _, PySem.W.mg_of X G ac_EmptyHistory, _, _, Fi0, bi0, _, _, Fi1, bi1, vVE, (⟨ownGa, ⟨_, ownTy, ownRd, ownFi⟩, ki0⟩), (⟨⟨_, _, _, _, _, _, _, _, _, _, _, _, _, _, _, oxL, oxB⟩, oxSa, oxEx, oxTy, oxK⟩), iC, tI, nTag, nNum, (⟨xfGa, xfGg, oxEx, xfHd⟩), (EPX.exm_two (EPX.exm_one eP1 eP2 eP3 eP4) (EPX.exm_one eN1 eN2 eN3 eN4))⟩ rfl (hT (cL, PT) (List.mem_singleton.mpr rfl))⟩
  · obtain rfl := List.mem_singleton.mp hp; exact own cL PT _ _ _ _ _ _ l18 rfl rfl lcL pcL
  · obtain rfl := List.mem_singleton.mp hp; exact nPT
  · obtain rfl := List.mem_singleton.mp hp; exact PySem.W.codeHd_of_K X hdL
end EP
namespace EP
open PySem PySem.Spec PyProof.Rows L2 EPX
end EP
open PySem PySem.W PyProof.Rows
set_option maxHeartbeats 0 in
theorem PySem.Challenge.cw_evenpace_k06_sums_of_floors_holds : PySem.Challenge.rw_evenpace_k06_sums_of_floors.Holds := by
  w_on; o_law; k_head; (case hw => w_witness2)
  k_fill
  refine LamX.walk_ofOwn (l := PySem.Challenge.rw_evenpace_k06_sums_of_floors) (n := 63) (k := 9) (x := "_law_script") (CX := fun _ => L2.CX0) rfl (by decide) rfl ⟨rfl, by decide, by decide⟩ (by decide +kernel) (fun w h Y => PySem.W.km_in_of Y) ?F (fun _ _ _ _ _ h => h)
  case F =>
    intro w mg fa h Y KX G hmg own
    refine' EP.all_mk KX G hmg ?a0 ?l0 ?c0 ?k0 ?a1 ?l1 ?c1 ?k1 ?a2 ?l2 ?c2 ?k2 ?a3 ?l3 ?c3 ?k3 ?a4 ?l4 ?c4 ?k4 ?a5 ?l5 ?c5 ?k5 ?a6 ?l6 ?c6 ?k6 ?a7 ?l7 ?c7 ?k7 ?a8 ?l8 ?c8 ?k8 ?a9 ?l9 ?c9 ?k9 ?a10 ?l10 ?c10 ?k10 ?a11 ?l11 ?c11 ?k11 ?a12 ?l12 ?c12 ?k12 ?a13 ?l13 ?c13 ?k13 ?a14 ?l14 ?c14 ?k14 ?a15 ?l15 ?c15 ?k15 ?a16 ?l16 ?c16 ?k16 ?a17 ?l17 ?c17 ?k17 ?a18 ?l18 ?c18 ?k18 ?z0 ?z1 ?z2 ?z3 ?z4 ?z5 ?z6 ?z7 ?z8 ?z9 ?z10 ?z11 ?z12 ?ac_PaceError ?ac_NotFound ?ac_InvalidCount ?ac_ZeroDenominator ?ac_EmptyHistory ?li0 ?ci0 ?ki0 ?li1 ?ci1 ?ki1 ?ownGa ?ownTy ?ownRd ?ownFi ?oxL ?oxB ?oxSa ?oxEx ?oxTy ?oxK ?xfGa ?xfGg ?xfHd ?eP1 ?eP2 ?eP3 ?eP4 ?eN1 ?eN2 ?eN3 ?eN4 ?vVE ?iC ?tI ?nTag ?nNum own ?hcd ?lcL ?pcL ?nPT ?hdL
    (case a0 => k_is)
    (case l0 => k_is)
    (case c0 => k_is)
    (case k0 => k_is)
    (case a1 => k_is)
    (case l1 => k_is)
    (case c1 => k_is)
    (case k1 => k_is)
    (case a2 => k_is)
    (case l2 => k_is)
    (case c2 => k_is)
    (case k2 => k_is)
    (case a3 => k_is)
    (case l3 => k_is)
    (case c3 => k_is)
    (case k3 => k_is)
    (case a4 => k_is)
    (case l4 => k_is)
    (case c4 => k_is)
    (case k4 => k_is)
    (case a5 => k_is)
    (case l5 => k_is)
    (case c5 => k_is)
    (case k5 => k_is)
    (case a6 => k_is)
    (case l6 => k_is)
    (case c6 => k_is)
    (case k6 => k_is)
    (case a7 => k_is)
    (case l7 => k_is)
    (case c7 => k_is)
    (case k7 => k_is)
    (case a8 => k_is)
    (case l8 => k_is)
    (case c8 => k_is)
    (case k8 => k_is)
    (case a9 => k_is)
    (case l9 => k_is)
    (case c9 => k_is)
    (case k9 => k_is)
    (case a10 => k_is)
    (case l10 => k_is)
    (case c10 => k_is)
    (case k10 => k_is)
    (case a11 => k_is)
    (case l11 => k_is)
    (case c11 => k_is)
    (case k11 => k_is)
    (case a12 => k_is)
    (case l12 => k_is)
    (case c12 => k_is)
    (case k12 => k_is)
    (case a13 => k_is)
    (case l13 => k_is)
    (case c13 => k_is)
    (case k13 => k_is)
    (case a14 => k_is)
    (case l14 => k_is)
    (case c14 => k_is)
    (case k14 => k_is)
    (case a15 => k_is)
    (case l15 => k_is)
    (case c15 => k_is)
    (case k15 => k_is)
    (case a16 => k_is)
    (case l16 => k_is)
    (case c16 => k_is)
    (case k16 => k_is)
    (case a17 => k_is)
    (case l17 => k_is)
    (case c17 => k_is)
    (case k17 => k_is)
    (case a18 => k_is)
    (case l18 => k_is)
    (case c18 => k_is)
    (case k18 => k_is)
    (case z0 => k_is)
    (case z1 => k_is)
    (case z2 => k_is)
    (case z3 => k_is)
    (case z4 => k_is)
    (case z5 => k_is)
    (case z6 => k_is)
    (case z7 => k_is)
    (case z8 => k_is)
    (case z9 => k_is)
    (case z10 => k_is)
    (case z11 => k_is)
    (case z12 => k_is)
    (case ac_PaceError => k_is)
    (case ac_NotFound => k_is)
    (case ac_InvalidCount => k_is)
    (case ac_ZeroDenominator => k_is)
    (case ac_EmptyHistory => k_is)
    (case ownGa => first | k_is | rfl | kernel_rfl)
    (case ownTy => first | k_is | rfl | kernel_rfl)
    (case ownRd => first | k_is | rfl | kernel_rfl)
    (case ownFi => first | k_is | rfl | kernel_rfl)
    (case oxL => first | k_is | rfl | kernel_rfl)
    (case oxB => first | k_is | rfl | kernel_rfl)
    (case oxSa => first | k_is | rfl | kernel_rfl)
    (case oxEx => first | k_is | rfl | kernel_rfl)
    (case oxTy => first | k_is | rfl | kernel_rfl)
    (case oxK => first | k_is | rfl | kernel_rfl)
    (case xfGa => first | k_is | rfl | kernel_rfl)
    (case xfGg => first | k_is | rfl | kernel_rfl)
    (case xfHd => first | k_is | rfl | kernel_rfl)
    (case eP1 => first | k_is | rfl | kernel_rfl)
    (case eP2 => first | k_is | rfl | kernel_rfl)
    (case eP3 => first | k_is | rfl | kernel_rfl)
    (case eP4 => first | k_is | rfl | kernel_rfl)
    (case eN1 => first | k_is | rfl | kernel_rfl)
    (case eN2 => first | k_is | rfl | kernel_rfl)
    (case eN3 => first | k_is | rfl | kernel_rfl)
    (case eN4 => first | k_is | rfl | kernel_rfl)
    (case vVE => first | k_is | rfl | kernel_rfl)
    (case iC => first | k_is | rfl | kernel_rfl)
    (case tI => first | k_is | rfl | kernel_rfl)
    (case nTag => first | k_is | rfl | kernel_rfl)
    (case nNum => first | k_is | rfl | kernel_rfl)
    (case li0 => k_is)
    (case ci0 => k_is)
    (case ki0 => k_is)
    (case li1 => k_is)
    (case ci1 => k_is)
    (case ki1 => k_is)
    (case hcd => rfl)
    (case lcL => k_is)
    (case pcL => rfl)
    (case nPT => first | rfl | kernel_rfl)
    (case hdL => first | rfl | kernel_rfl)
