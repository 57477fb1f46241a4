import PyProof.Rows.All
import Wide.All
import OpenK.AllK
import Wide.FinOn
import HandS.ForMost
import HandS.Wide
import HandS.IsInst
import HandS.Zip
import HandS.Walk
import HandS.Flow
import HandS.Evl
import HandS.Defaults
import HandS.NoneIn
import PySem.Challenge.RW_evenpace_k05_solutions_of_congruences
set_option Elab.async false
set_option linter.all false
set_option maxRecDepth 100000
set_option autoImplicit false
namespace EP
open PySem PySem.Spec PyProof.Rows L2
/-! ### wide floor division by a divisor of either sign -/
def CDivZ (_ j : Int) : Prop := j ≠ 0 ∧ j.natAbs.log2 < 9000
theorem op_fdivZ {X : Cx} : OpR X (binaryOp .FloorDiv) (rI CDivZ fun i j => .int (i.fdiv j)) := opI fun _ _ _ _ _ _ _ hc q => floordiv_int hc.1 q (.inl (PyProof.noPylong_of_log2 hc.2))
/-! ### heaps -/
def Gw (r : Addr) (H H' : Hp) : Prop := ∀ a o, a ≠ r → H a = some o → H' a = some o
def RngL (L : Addr) (H : Hp) (r : Addr) : Prop := ∃ (ns : List Int) (i c s : Int), H r = some (.lst [.ref L, .int i, .int c, .int s]) ∧ H L = some (.lst (ns.map V.int)) ∧ L ≠ r ∧ 0 ≤ i ∧ ns.length < 100 ∧ 0 ≤ c ∧ 0 ≤ s ∧ s < 2147483563
def Rng (H : Hp) (r : Addr) : Prop := ∃ L, RngL L H r
/-- from H to H' only the generator at r changed; new things may have come -/
structure Mo (r : Addr) (H H' : Hp) : Prop where
  g : Gw r H H'
  a : Rng H r
  l : ∀ L, RngL L H r → RngL L H' r
theorem Mo.b {r : Addr} {H H' : Hp} (m : Mo r H H') : Rng H' r := by
  obtain ⟨L, h⟩ := m.a
  exact ⟨L, m.l L h⟩
theorem RngL.same {L : Addr} {H H' : Hp} {r : Addr} (h : RngL L H r) (s : Same H H') : RngL L H' r := by
  obtain ⟨ns, i, c, sd, h1, h2, h3⟩ := h
  exact ⟨ns, i, c, sd, s _ _ h1, s _ _ h2, h3⟩
theorem Rng.same {H H' : Hp} {r : Addr} (h : Rng H r) (s : Same H H') : Rng H' r := by
  obtain ⟨L, h⟩ := h
  exact ⟨L, h.same s⟩
theorem Mo.same {H H' : Hp} {r : Addr} (h : Rng H r) (s : Same H H') : Mo r H H' := ⟨fun a o _ e => s a o e, h, fun _ h => h.same s⟩
theorem Mo.refl {H : Hp} {r : Addr} (h : Rng H r) : Mo r H H := ⟨fun a o _ e => e, h, fun _ h => h⟩
theorem Mo.trans {H H1 H2 : Hp} {r : Addr} (x : Mo r H H1) (y : Mo r H1 H2) : Mo r H H2 := ⟨fun a o n e => y.g a o n (x.g a o n e), x.a, fun L h => y.l L (x.l L h)⟩
/-- what is new since H may change -/
theorem Mo.mut {r D : Addr} {H H' : Hp} {o : HO} (m : Mo r H H') (n : H D = none) : Mo r H (upd H' D o) := by
  refine ⟨fun a u ha e => ?_, m.a, fun L h => ?_⟩
  · rw [upd_ne (ne_of_none e n)]; exact m.g a u ha e
  · obtain ⟨_, _, _, _, e1, e2, _⟩ := id h
    obtain ⟨ns, i, c, sd, h1, h2, h3⟩ := m.l L h
    refine ⟨ns, i, c, sd, ?_, ?_, h3⟩
    · rw [upd_ne (ne_of_none e1 n)]; exact h1
    · rw [upd_ne (ne_of_none e2 n)]; exact h2
theorem same_upd {H : Hp} {p : Addr} {o : HO} (h : H p = none) : Same H (upd H p o) := fun b x e => by
  rw [upd_ne (ne_of_none e h)]
  exact e
theorem Mo.new {H : Hp} {r p : Addr} {o : HO} (h : Rng H r) (n : H p = none) : Mo r H (upd H p o) := .same h (same_upd n)
theorem sqt_mo {K : PySem.W.Frag} {H H' : Hp} {r a : Addr} {xs : List V} (m : Mo r H H') (h : SqT K H a xs) : SqT K H' a xs := by
  rcases h with h | h
  · left
    obtain ⟨L, ns, i, c, sd, h1, _⟩ := m.a
    rcases h with h | ⟨o, h⟩
    · refine .inl (m.g a _ (fun e => ?_) h)
      subst e; rw [h1] at h; cases h
    · refine .inr ⟨o, m.g a _ (fun e => ?_) h⟩
      subst e; rw [h1] at h; cases h
  · exact .inr h
theorem sql_mo {K : PySem.W.Frag} {H H' : Hp} {r a : Addr} {xs : List V} (m : Mo r H H') (n : a ≠ r) (h : SqL K H a xs) : SqL K H' a xs := by
  rcases h with h | h
  · left
    rcases h with h | ⟨o, h⟩
    · exact .inl (m.g a _ n h)
    · exact .inr ⟨o, m.g a _ n h⟩
  · exact .inr h
/-! ### fractions -/
def Fr (K : PySem.W.Frag) (H : Hp) (v : V) (a b : Int) : Prop := ∃ p, v = .ref p ∧ SqT K H p [.int a, .int b]
theorem Fr.mo {K : PySem.W.Frag} {H H' : Hp} {r : Addr} {v : V} {a b : Int} (h : Fr K H v a b) (m : Mo r H H') : Fr K H' v a b := by
  obtain ⟨p, e, h⟩ := h
  exact ⟨p, e, sqt_mo m h⟩
theorem Fr.same {K : PySem.W.Frag} {H H' : Hp} {v : V} {a b : Int} (h : Fr K H v a b) (m : Same H H') : Fr K H' v a b := by
  obtain ⟨p, e, h⟩ := h
  exact ⟨p, e, Evl.ex_t m h⟩
theorem sizeLine2 {n : Nat} (h : n ≤ 1000) : n ≤ sizeLine := Nat.le_trans h (by decide)
end EP
namespace EP
open PySem PySem.Spec PyProof.Rows L2
/-! ### tests -/
theorem brI {p A B : Prop} [Decidable p] (h1 : p → A) (h2 : ¬ p → B) : if decide p = true then A else B := by
  by_cases h : p
  · rw [if_pos (decide_eq_true h)]; exact h1 h
  · rw [if_neg (by simpa using h)]; exact h2 h
theorem brEq {i j : Int} {A B : Prop} (h1 : i = j → A) (h2 : i ≠ j → B) : if decide (V.int i = V.int j) = true then A else B :=
  brI (fun h => h1 (V.int.inj h)) (fun h => h2 fun e => h (by rw [e]))
theorem brNe {i j : Int} {A B : Prop} (h1 : i ≠ j → A) (h2 : i = j → B) : if (!decide (V.int i = V.int j)) = true then A else B := by
  by_cases h : i = j
  · subst h; rw [if_neg (by simp)]; exact h2 rfl
  · rw [if_pos (by simpa using h)]; exact h1 h
/-! ### items -/
theorem ix0 {x : V} {xs : List V} : atI (x :: xs) 0 = some x := atI_nat (j := 0) rfl
theorem ix1 {x y : V} {xs : List V} : atI (x :: y :: xs) 1 = some y := atI_nat (j := 1) rfl
theorem ix2 {x y z : V} {xs : List V} : atI (x :: y :: z :: xs) 2 = some z := atI_nat (j := 2) rfl
theorem ix3 {x y z u : V} {xs : List V} : atI (x :: y :: z :: u :: xs) 3 = some u := atI_nat (j := 3) rfl
/-! ### sizes -/
def B (n : Nat) (x : Int) : Prop := x.natAbs < 2 ^ n
theorem B.one : B 1 1 := by unfold B; decide
theorem B.mono {n m : Nat} {x : Int} (h : B n x) (l : n ≤ m := by decide) : B m x := Nat.lt_of_lt_of_le h (Nat.pow_le_pow_right (by decide) l)
theorem B.mul {n m : Nat} {x y : Int} (h : B n x) (k : B m y) : B (n + m) (x * y) := wide_lt h k
theorem B.add {n : Nat} {x y : Int} (h : B n x) (k : B n y) : B (n + 1) (x + y) := by
  unfold B at *
  rw [Nat.pow_succ]; omega
theorem B.sub {n : Nat} {x y : Int} (h : B n x) (k : B n y) : B (n + 1) (x - y) := by
  unfold B at *
  rw [Nat.pow_succ]; omega
theorem B.neg {n : Nat} {x : Int} (h : B n x) : B n (-x) := by unfold B at *; omega
theorem B.le {n : Nat} {x y : Int} (h : B n y) (k : x.natAbs ≤ y.natAbs) : B n x := Nat.lt_of_le_of_lt k h
theorem B.log {n : Nat} {x : Int} (h : B n x) (h0 : 0 < n := by decide) : x.natAbs.log2 < n := PySem.Flt.log2_lt_of h0 h
theorem cm {n m : Nat} {x y : Int} (h : B n x) (k : B m y) (h0 : 0 < n := by decide) (h1 : 0 < m := by decide) (l : n + m ≤ 1000000 := by decide) : CMulW x y := wide_mul h k h0 h1 l
theorem cdW {x y : Int} {n : Nat} (h : 0 < y) (k : B n y) (h0 : 0 < n := by decide) (l : n ≤ 9000 := by decide) : CDivW x y := wide_div h k h0 l
end EP

namespace EP
/-! ### the mathematics of fractions in lowest terms -/
def rn (n d : Int) : Int := (if d < 0 then -n else n) / (Int.gcd n d : Int)
def rd (n d : Int) : Int := (d.natAbs : Int) / (Int.gcd n d : Int)
theorem gcd_pos {n d : Int} (h : d ≠ 0) : 0 < Int.gcd n d := Int.gcd_pos_of_ne_zero_right n h
theorem rn_mul {n d : Int} : rn n d * (Int.gcd n d : Int) = if d < 0 then -n else n := by
  unfold rn
  refine Int.ediv_mul_cancel ?_
  split
  · exact Int.dvd_neg.mpr (Int.gcd_dvd_left ..)
  · exact Int.gcd_dvd_left ..
theorem rd_mul {n d : Int} : rd n d * (Int.gcd n d : Int) = (d.natAbs : Int) := by
  unfold rd
  exact Int.ediv_mul_cancel (Int.natCast_dvd_natCast.mpr (Nat.gcd_dvd_right ..))
theorem rd_pos {n d : Int} (h : d ≠ 0) : 0 < rd n d := by
  have h1 := rd_mul (n := n) (d := d)
  have h2 : 0 < (Int.gcd n d : Int) := by have := gcd_pos (n := n) h; omega
  have h3 : 0 < rd n d * (Int.gcd n d : Int) := by rw [h1]; omega
  exact Int.pos_of_mul_pos_left h3 h2
/-- the value is kept -/
theorem rn_rd {n d : Int} (h : d ≠ 0) : rn n d * d = n * rd n d := by
  have h1 := rn_mul (n := n) (d := d)
  have h2 := rd_mul (n := n) (d := d)
  have h3 : (Int.gcd n d : Int) ≠ 0 := by have := gcd_pos (n := n) h; omega
  refine Int.eq_of_mul_eq_mul_right h3 ?_
  rw [Int.mul_right_comm, h1, Int.mul_assoc, h2]
  split
  · rw [show (d.natAbs : Int) = -d by omega]; rw [Int.mul_neg, Int.neg_mul]
  · rw [show (d.natAbs : Int) = d by omega]
theorem gcd_le {n d : Int} (h : d ≠ 0) : (Int.gcd n d : Int).natAbs ≤ d.natAbs := by
  rw [Int.natAbs_natCast]
  exact Nat.le_of_dvd (by omega) (Nat.gcd_dvd_right ..)
theorem rn_abs {n d : Int} (h : d ≠ 0) : (rn n d).natAbs ≤ n.natAbs := by
  have h1 := congrArg Int.natAbs (rn_mul (n := n) (d := d))
  rw [Int.natAbs_mul, Int.natAbs_natCast] at h1
  have h2 := gcd_pos (n := n) h
  have h3 : (if d < 0 then -n else n).natAbs = n.natAbs := by split <;> omega
  rw [h3] at h1; rw [← h1]
  exact Nat.le_mul_of_pos_right _ h2
theorem rd_abs {n d : Int} (h : d ≠ 0) : (rd n d).natAbs ≤ d.natAbs := by
  have h1 := congrArg Int.natAbs (rd_mul (n := n) (d := d))
  rw [Int.natAbs_mul, Int.natAbs_natCast, Int.natAbs_natCast] at h1
  have h2 := gcd_pos (n := n) h
  rw [← h1]
  exact Nat.le_mul_of_pos_right _ h2
theorem B.rn {k : Nat} {n d : Int} (h : d ≠ 0) (b : B k n) : B k (rn n d) := b.le (rn_abs h)
theorem B.rd {k : Nat} {n d : Int} (h : d ≠ 0) (b : B k d) : B k (rd n d) := b.le (rd_abs h)
theorem fdiv_neg_exact {n g : Int} (hg : g ≠ 0) (h : g ∣ n) : n.fdiv (-g) = -n / g := by
  obtain ⟨c, rfl⟩ := h
  rw [show g * c = (-g) * (-c) by rw [Int.neg_mul_neg], Int.mul_fdiv_cancel_left _ (by omega), Int.neg_mul, Int.neg_neg, Int.mul_ediv_cancel_left _ hg]
theorem fdiv_exact {n g : Int} (hg : g ≠ 0) (h : g ∣ n) : n.fdiv g = n / g := by
  obtain ⟨c, rfl⟩ := h
  rw [Int.mul_fdiv_cancel_left _ hg, Int.mul_ediv_cancel_left _ hg]
end EP
namespace EP
open PySem PySem.Spec PyProof.Rows L2
theorem abs_nat (a : Int) : (if a < 0 then -a else a) = (a.natAbs : Int) := by split <;> omega
theorem gcd_step {x y : Int} (hx : 0 ≤ x) (hy : 0 < y) : Int.gcd y (x % y) = Int.gcd x y := by
  obtain ⟨a, rfl⟩ := Int.eq_ofNat_of_zero_le hx
  obtain ⟨b, rfl⟩ := Int.eq_ofNat_of_zero_le (Int.le_of_lt hy)
  show Nat.gcd (Int.natAbs (b : Int)) (Int.natAbs ((a : Int) % (b : Int))) = Nat.gcd (Int.natAbs (a : Int)) (Int.natAbs (b : Int))
  rw [← Int.natCast_emod]
  simp only [Int.natAbs_natCast]
  rw [Nat.gcd_comm a b, Nat.gcd_rec b a, Nat.gcd_comm]
theorem div_abs {x y : Int} (h : 0 < y) : (x / y).natAbs ≤ x.natAbs := by
  by_cases h0 : 0 ≤ x
  · have h1 := Int.ediv_nonneg h0 (Int.le_of_lt h)
    have h2 := Int.ediv_le_self y h0
    omega
  · have h1 : x ≤ x / y := by
      refine Int.le_ediv_of_mul_le h ?_
      have := Int.mul_le_mul_of_nonpos_left (a := x) (b := y) (c := 1) (by omega) (by omega)
      omega
    have h5 : x / y < 0 := Int.ediv_neg_of_neg_of_pos (by omega) h
    omega
/-! ### promises -/
def spGcd : Sp := fun vs H Q _ => ∃ a b : Int, vs = [.int a, .int b] ∧ Q (.int (Int.gcd a b)) H
def spRed (K : PySem.W.Frag) : Sp := fun vs H Q _ => ∃ n d : Int, vs = [.int n, .int d] ∧ d ≠ 0 ∧ B 8000 n ∧ B 8000 d ∧ ∀ v H', Same H H' → Fr K H' v (rn n d) (rd n d) → Q v H'
def spFF (K : PySem.W.Frag) (g : Int → Int → Int → Int → Int × Int) : Sp := fun vs H Q _ => ∃ (x y : V) (a b c d : Int), vs = [x, y] ∧ Fr K H x a b ∧ Fr K H y c d ∧ b ≠ 0 ∧ d ≠ 0 ∧ B 2000 a ∧ B 2000 b ∧ B 2000 c ∧ B 2000 d ∧ ∀ v H', Same H H' → Fr K H' v (g a b c d).1 (g a b c d).2 → Q v H'
def spFD (K : PySem.W.Frag) (g : Int → Int → Int → Int → Int × Int) : Sp := fun vs H Q _ => ∃ (x y : V) (a b c d : Int), vs = [x, y] ∧ Fr K H x a b ∧ Fr K H y c d ∧ b ≠ 0 ∧ c ≠ 0 ∧ B 2000 a ∧ B 2000 b ∧ B 2000 c ∧ B 2000 d ∧ ∀ v H', Same H H' → Fr K H' v (g a b c d).1 (g a b c d).2 → Q v H'
def spLess (K : PySem.W.Frag) : Sp := fun vs H Q _ => ∃ (x y : V) (a b c d : Int), vs = [x, y] ∧ Fr K H x a b ∧ Fr K H y c d ∧ B 2000 a ∧ B 2000 b ∧ B 2000 c ∧ B 2000 d ∧ Q (.bl (decide (a * d < c * b))) H
def spFloor (K : PySem.W.Frag) : Sp := fun vs H Q _ => ∃ (x : V) (a b : Int), vs = [x] ∧ Fr K H x a b ∧ 0 < b ∧ B 4000 b ∧ Q (.int (a / b)) H
def spCeil (K : PySem.W.Frag) : Sp := fun vs H Q _ => ∃ (x : V) (a b : Int), vs = [x] ∧ Fr K H x a b ∧ 0 < b ∧ B 4000 b ∧ Q (.int (-(-a / b))) H
def spTimes (K : PySem.W.Frag) : Sp := fun vs H Q _ => ∃ (n : Int) (x : V) (a b : Int), vs = [.int n, x] ∧ Fr K H x a b ∧ b ≠ 0 ∧ B 2000 n ∧ B 2000 a ∧ B 2000 b ∧ ∀ v H', Same H H' → Fr K H' v (rn (n * a) b) (rd (n * a) b) → Q v H'
/-- one minus the floor of one / period times the period -/
def remN (a b c d : Int) : Int × Int :=
  let t := rn (a * d) (b * c) / rd (a * d) (b * c)
  let n := rn (t * c) d
  let m := rd (t * c) d
  (rn (a * m - n * b) (b * m), rd (a * m - n * b) (b * m))
def spRem (K : PySem.W.Frag) : Sp := fun vs H Q _ => ∃ (x y : V) (a b c d : Int), vs = [x, y] ∧ Fr K H x a b ∧ Fr K H y c d ∧ 0 < b ∧ 0 < c ∧ 0 < d ∧ B 500 a ∧ B 500 b ∧ B 500 c ∧ B 500 d ∧ ∀ v H', Same H H' → Fr K H' v (remN a b c d).1 (remN a b c d).2 → Q v H'
end EP
namespace EP
open PySem PySem.Spec PyProof.Rows L2
def spSource (K : PySem.W.Frag) : Sp := fun vs H Q _ => ∃ (a : Addr) (ns : List Int), vs = [.ref a] ∧ SqL K H a (ns.map V.int) ∧ ns.length ≤ 63 ∧ ∀ r H', Same H H' → Rng H' r → Q (.ref r) H'
def spDraw : Sp := fun vs H Q _ => ∃ (r : Addr) (m : Int), vs = [.ref r, .int m] ∧ 0 < m ∧ B 2000 m ∧ Rng H r ∧ ∀ x H', 0 ≤ x → x < m → Mo r H H' → Q (.int x) H'
def spChoice (K : PySem.W.Frag) : Sp := fun vs H Q _ => ∃ (r l : Addr) (xs : List V), vs = [.ref r, .ref l] ∧ SqL K H l xs ∧ l ≠ r ∧ 0 < xs.length ∧ xs.length < 1000 ∧ Rng H r ∧ ∀ x H', x ∈ xs → Mo r H H' → Q x H'
end EP
namespace EP
open PySem PySem.Spec PyProof.Rows L2
theorem seq_by {t u : TS} {D : Ends} {σ : L2.St} {H : Hp} (C : L2.St → Hp → Prop) (h2 : ∀ σ' H', C σ' H' → u D σ' H') (h1 : (∀ σ' H', C σ' H' → u D σ' H') → t { D with nx := u D } σ H) : tSeq t u D σ H := h1 h2
end EP
namespace EP
open PySem PySem.Spec PyProof.Rows L2
mutual
def dep : PyData → Nat
  | .list xs => deps xs + 1
  | .tuple xs => deps xs + 1
  | _ => 0
def deps : List PyData → Nat
  | [] => 0
  | x :: xs => max (dep x) (deps xs)
end
mutual
def wd : PyData → Nat
  | .list xs => max xs.length (wds xs)
  | .tuple xs => max xs.length (wds xs)
  | _ => 0
def wds : List PyData → Nat
  | [] => 0
  | x :: xs => max (wd x) (wds xs)
end
theorem wds_get : ∀ {ds : List PyData} {i : Nat} {d : PyData}, ds[i]? = some d → wd d ≤ wds ds
  | [], i, _, e => by simp at e
  | x :: xs, 0, _, e => by cases Option.some.inj e; unfold wds; omega
  | x :: xs, i + 1, d, e => by have := wds_get (ds := xs) (i := i) e; unfold wds; omega
def spEqual (K : PySem.W.Frag) (n : Nat) : Sp := fun vs H Q _ => ∃ (x y : V) (d : PyData), vs = [x, y] ∧ Dp K H x d ∧ Dp K H y d ∧ dep d < n ∧ wd d < 1000000 ∧ ∀ H', Same H H' → Q (.bl true) H'
end EP
namespace EP
open PySem PySem.Spec PyProof.Rows L2
theorem kt_bool_bool {K : PySem.W.Frag} : PySem.W.kitOne K (.type "bool") (.type "bool") = some true := kit_ty (by decide +kernel)
theorem kt_bool_int {K : PySem.W.Frag} : PySem.W.kitOne K (.type "bool") (.type "int") = some true := kit_ty (by decide +kernel)
theorem kt_bool_str {K : PySem.W.Frag} : PySem.W.kitOne K (.type "bool") (.type "str") = some false := kit_ty (by decide +kernel)
theorem kt_bool_list {K : PySem.W.Frag} : PySem.W.kitOne K (.type "bool") (.type "list") = some false := kit_ty (by decide +kernel)
theorem kt_bool_tuple {K : PySem.W.Frag} : PySem.W.kitOne K (.type "bool") (.type "tuple") = some false := kit_ty (by decide +kernel)
theorem kt_int_bool {K : PySem.W.Frag} : PySem.W.kitOne K (.type "int") (.type "bool") = some false := kit_ty (by decide +kernel)
theorem kt_int_int {K : PySem.W.Frag} : PySem.W.kitOne K (.type "int") (.type "int") = some true := kit_ty (by decide +kernel)
theorem kt_int_str {K : PySem.W.Frag} : PySem.W.kitOne K (.type "int") (.type "str") = some false := kit_ty (by decide +kernel)
theorem kt_int_list {K : PySem.W.Frag} : PySem.W.kitOne K (.type "int") (.type "list") = some false := kit_ty (by decide +kernel)
theorem kt_int_tuple {K : PySem.W.Frag} : PySem.W.kitOne K (.type "int") (.type "tuple") = some false := kit_ty (by decide +kernel)
theorem kt_str_bool {K : PySem.W.Frag} : PySem.W.kitOne K (.type "str") (.type "bool") = some false := kit_ty (by decide +kernel)
theorem kt_str_int {K : PySem.W.Frag} : PySem.W.kitOne K (.type "str") (.type "int") = some false := kit_ty (by decide +kernel)
theorem kt_str_str {K : PySem.W.Frag} : PySem.W.kitOne K (.type "str") (.type "str") = some true := kit_ty (by decide +kernel)
theorem kt_str_list {K : PySem.W.Frag} : PySem.W.kitOne K (.type "str") (.type "list") = some false := kit_ty (by decide +kernel)
theorem kt_str_tuple {K : PySem.W.Frag} : PySem.W.kitOne K (.type "str") (.type "tuple") = some false := kit_ty (by decide +kernel)
theorem kt_list_bool {K : PySem.W.Frag} : PySem.W.kitOne K (.type "list") (.type "bool") = some false := kit_ty (by decide +kernel)
theorem kt_list_int {K : PySem.W.Frag} : PySem.W.kitOne K (.type "list") (.type "int") = some false := kit_ty (by decide +kernel)
theorem kt_list_str {K : PySem.W.Frag} : PySem.W.kitOne K (.type "list") (.type "str") = some false := kit_ty (by decide +kernel)
theorem kt_list_list {K : PySem.W.Frag} : PySem.W.kitOne K (.type "list") (.type "list") = some true := kit_ty (by decide +kernel)
theorem kt_list_tuple {K : PySem.W.Frag} : PySem.W.kitOne K (.type "list") (.type "tuple") = some false := kit_ty (by decide +kernel)
theorem kt_tuple_bool {K : PySem.W.Frag} : PySem.W.kitOne K (.type "tuple") (.type "bool") = some false := kit_ty (by decide +kernel)
theorem kt_tuple_int {K : PySem.W.Frag} : PySem.W.kitOne K (.type "tuple") (.type "int") = some false := kit_ty (by decide +kernel)
theorem kt_tuple_str {K : PySem.W.Frag} : PySem.W.kitOne K (.type "tuple") (.type "str") = some false := kit_ty (by decide +kernel)
theorem kt_tuple_list {K : PySem.W.Frag} : PySem.W.kitOne K (.type "tuple") (.type "list") = some false := kit_ty (by decide +kernel)
theorem kt_tuple_tuple {K : PySem.W.Frag} : PySem.W.kitOne K (.type "tuple") (.type "tuple") = some true := kit_ty (by decide +kernel)
theorem kt_NoneType_bool {K : PySem.W.Frag} : PySem.W.kitOne K (.type "NoneType") (.type "bool") = some false := kit_ty (by decide +kernel)
theorem kt_NoneType_int {K : PySem.W.Frag} : PySem.W.kitOne K (.type "NoneType") (.type "int") = some false := kit_ty (by decide +kernel)
theorem kt_NoneType_str {K : PySem.W.Frag} : PySem.W.kitOne K (.type "NoneType") (.type "str") = some false := kit_ty (by decide +kernel)
theorem kt_NoneType_list {K : PySem.W.Frag} : PySem.W.kitOne K (.type "NoneType") (.type "list") = some false := kit_ty (by decide +kernel)
theorem kt_NoneType_tuple {K : PySem.W.Frag} : PySem.W.kitOne K (.type "NoneType") (.type "tuple") = some false := kit_ty (by decide +kernel)
end EP
namespace EP
open PySem PySem.Spec PyProof.Rows L2
mutual
theorem Dp_same {K : PySem.W.Frag} {H H' : Hp} (s : Same H H') : ∀ {v : V} {d : PyData}, Dp K H v d → Dp K H' v d
  | _, _, .non => .non
  | _, _, .bl b => .bl b
  | _, _, .int i => .int i
  | _, _, .str x => .str x
  | _, _, .lst h a => .lst (Evl.ex_l s h) (DpAll_same s a)
  | _, _, .tup h a => .tup (Evl.ex_t s h) (DpAll_same s a)
theorem DpAll_same {K : PySem.W.Frag} {H H' : Hp} (s : Same H H') : ∀ {v : List V} {d : List PyData}, DpAll K H v d → DpAll K H' v d
  | _, _, .nil => .nil
  | _, _, .cons h a => .cons (Dp_same s h) (DpAll_same s a)
end
theorem DpAll_len {K : PySem.W.Frag} {H : Hp} : ∀ {v : List V} {d : List PyData}, DpAll K H v d → v.length = d.length
  | _, _, .nil => rfl
  | _, _, .cons _ a => congrArg Nat.succ (DpAll_len a)
theorem DpAll_get {K : PySem.W.Frag} {H : Hp} : ∀ {v : List V} {ds : List PyData} {i : Nat} {x : V}, DpAll K H v ds → v[i]? = some x → ∃ d, ds[i]? = some d ∧ Dp K H x d
  | _, _, i, _, .nil, e => by simp at e
  | _, _, 0, _, .cons h a, e => ⟨_, rfl, by cases Option.some.inj e; exact h⟩
  | _, _, i + 1, _, .cons h a, e => DpAll_get (i := i) a e
theorem deps_get : ∀ {ds : List PyData} {i : Nat} {d : PyData}, ds[i]? = some d → dep d ≤ deps ds
  | [], i, _, e => by simp at e
  | x :: xs, 0, _, e => by cases Option.some.inj e; unfold deps; omega
  | x :: xs, i + 1, d, e => by have := deps_get (ds := xs) (i := i) e; unfold deps; omega
theorem all_true (n : Nat) : (List.replicate n true).all id = true := by
  induction n with
  | zero => rfl
  | succ n ih => rw [List.replicate_succ, List.all_cons, ih]; rfl
theorem walk_zipT {K : PySem.W.Frag} {a b : Addr} {xs ys : List V} {n : Nat} (hn : n = min xs.length ys.length) : Walk (RZ.ItzT K a b) n (fun H => SqT K H a xs ∧ SqT K H b ys) (YPair (fun i => xs[i]?) (fun i => ys[i]?)) := by
  subst hn
  refine ⟨fun i _ hi q => ?_, fun _ q => ⟨xs, ys, q.1, q.2, by omega⟩, fun i H v H' _ q y => ?_⟩
  · have h1 : i < xs.length := by omega
    have h2 : i < ys.length := by omega
    exact ⟨xs, ys, xs[i], ys[i], q.1, q.2, by simp [h1], by simp [h2]⟩
  · obtain ⟨T, x, z, h1, h2, h3, h4, h5⟩ := y
    exact ⟨T, x, z, h1, h2, h3, h4 xs q.1, h5 ys q.2⟩
end EP
namespace EP
open PySem PySem.Spec PyProof.Rows L2
theorem ty_list {K : PySem.W.Frag} {H : Hp} {a : Addr} {xs : List V} (h : SqL K H a xs) : TyX K H (.ref a) (.type "list") := by
  rcases h with (h | ⟨o, h⟩) | ⟨o, its, n, h1, h2, _⟩
  · exact .base (.lst h)
  · exact .base (.frz h)
  · exact .kList h1 h2
theorem ty_tuple {K : PySem.W.Frag} {H : Hp} {a : Addr} {xs : List V} (h : SqT K H a xs) : TyX K H (.ref a) (.type "tuple") := by
  rcases h with (h | ⟨o, h⟩) | ⟨o, its, n, h1, h2, _⟩
  · exact .base (.tup h)
  · exact .fTuple h
  · exact .kTuple h1 h2
end EP
namespace EP
open PySem PySem.Spec PyProof.Rows L2
theorem gcd_red {n d : Int} (h : d ≠ 0) : Int.gcd (rn n d) (rd n d) = 1 := by
  have hg := gcd_pos (n := n) h
  have h1 := congrArg Int.natAbs (rn_mul (n := n) (d := d))
  have h2 := congrArg Int.natAbs (rd_mul (n := n) (d := d))
  rw [Int.natAbs_mul, Int.natAbs_natCast] at h1 h2
  have h3 : (if d < 0 then -n else n).natAbs = n.natAbs := by split <;> omega
  rw [h3] at h1
  rw [Int.natAbs_natCast] at h2
  have h4 : Nat.gcd (rn n d).natAbs (rd n d).natAbs * Int.gcd n d = Int.gcd n d := by
    rw [← Nat.gcd_mul_right, h1, h2]; rfl
  have h5 : Nat.gcd (rn n d).natAbs (rd n d).natAbs * Int.gcd n d = 1 * Int.gcd n d := by rw [h4, Nat.one_mul]
  exact Nat.eq_of_mul_eq_mul_right hg h5
/-- a fraction in lowest terms, below 2 ^ n -/
structure Fq (K : PySem.W.Frag) (H : Hp) (n : Nat) (v : V) (a b : Int) : Prop where
  f : Fr K H v a b
  p : 0 < b
  ba : B n a
  bb : B n b
  g : Int.gcd a b = 1
theorem Fq.mo {K : PySem.W.Frag} {H H' : Hp} {r : Addr} {v : V} {a b : Int} {n : Nat} (h : Fq K H n v a b) (m : Mo r H H') : Fq K H' n v a b := ⟨h.f.mo m, h.p, h.ba, h.bb, h.g⟩
theorem Fq.same {K : PySem.W.Frag} {H H' : Hp} {v : V} {a b : Int} {n : Nat} (h : Fq K H n v a b) (m : Same H H') : Fq K H' n v a b := ⟨h.f.same m, h.p, h.ba, h.bb, h.g⟩
theorem Fq.mono {K : PySem.W.Frag} {H : Hp} {v : V} {a b : Int} {n m : Nat} (h : Fq K H n v a b) (l : n ≤ m := by decide) : Fq K H m v a b := ⟨h.f, h.p, h.ba.mono l, h.bb.mono l, h.g⟩
theorem Fq.red {K : PySem.W.Frag} {H : Hp} {v : V} {n d : Int} {k : Nat} (h : d ≠ 0) (f : Fr K H v (rn n d) (rd n d)) (bn : B k n) (bd : B k d) : Fq K H k v (rn n d) (rd n d) := ⟨f, rd_pos h, bn.rn h, bd.rd h, gcd_red h⟩
theorem Fq.lit {K : PySem.W.Frag} {H : Hp} {p : Addr} {a b : Int} {k : Nat} (h : H p = some (.tup [.int a, .int b])) (hb : 0 < b) (ba : B k a) (bb : B k b) (g : Int.gcd a b = 1) : Fq K H k (.ref p) a b := ⟨⟨p, rfl, .inl (.inl h)⟩, hb, ba, bb, g⟩
/-- a drawn fraction -/
def spDrawn (K : PySem.W.Frag) (n : Nat) : Sp := fun vs H Q _ => ∃ (r : Addr), vs = [.ref r] ∧ Rng H r ∧ ∀ v a b H', Mo r H H' → Fq K H' n v a b → Q v H'
/-- the same, positive -/
def spDrawnP (K : PySem.W.Frag) (n : Nat) : Sp := fun vs H Q _ => ∃ (r : Addr), vs = [.ref r] ∧ Rng H r ∧ ∀ v a b H', Mo r H H' → Fq K H' n v a b → 0 < a → Q v H'
theorem Rng.ne {H : Hp} {r l : Addr} (h : Rng H r) (n : H l = none) : l ≠ r := fun e => by
  obtain ⟨L, ns, i, c, s, h1, _⟩ := h
  subst e; rw [n] at h1; cases h1
theorem B.of {x : Int} {n : Nat} (h : x.natAbs < 2 ^ n) : B n x := h
end EP
namespace EP
theorem rn_pos {n d : Int} (hn : 0 < n) (hd : 0 < d) : 0 < rn n d := by
  have h1 := rn_rd (n := n) (d := d) (by omega)
  have h2 := rd_pos (n := n) (d := d) (by omega)
  have h3 : 0 < rn n d * d := by rw [h1]; exact Int.mul_pos hn h2
  exact Int.pos_of_mul_pos_left h3 hd
end EP
namespace EP
open PySem PySem.Spec PyProof.Rows L2
/-- fractions, one behind another -/
inductive Frs (K : PySem.W.Frag) (H : Hp) : List V → List (Int × Int) → Prop
  | nil : Frs K H [] []
  | cons {v : V} {a b : Int} {vs : List V} {qs : List (Int × Int)} : Fr K H v a b → 0 < b → Frs K H vs qs → Frs K H (v :: vs) ((a, b) :: qs)
theorem Frs.same {K : PySem.W.Frag} {H H' : Hp} (s : Same H H') : ∀ {vs : List V} {qs : List (Int × Int)}, Frs K H vs qs → Frs K H' vs qs
  | _, _, .nil => .nil
  | _, _, .cons f p r => .cons (f.same s) p (r.same s)
theorem Frs.mo {K : PySem.W.Frag} {H H' : Hp} {g : Addr} (s : Mo g H H') : ∀ {vs : List V} {qs : List (Int × Int)}, Frs K H vs qs → Frs K H' vs qs
  | _, _, .nil => .nil
  | _, _, .cons f p r => .cons (f.mo s) p (r.mo s)
theorem Frs.len {K : PySem.W.Frag} {H : Hp} : ∀ {vs : List V} {qs : List (Int × Int)}, Frs K H vs qs → vs.length = qs.length
  | _, _, .nil => rfl
  | _, _, .cons _ _ r => congrArg Nat.succ r.len
theorem Frs.pos {K : PySem.W.Frag} {H : Hp} : ∀ {vs : List V} {qs : List (Int × Int)}, Frs K H vs qs → ∀ q ∈ qs, 0 < q.2
  | _, _, .cons _ p r, q, h => by
    rcases List.mem_cons.mp h with e | e
    · rw [e]; exact p
    · exact r.pos q e
theorem Frs.get {K : PySem.W.Frag} {H : Hp} : ∀ {vs : List V} {qs : List (Int × Int)} {i : Nat} {v : V}, Frs K H vs qs → vs[i]? = some v → ∃ a b, qs[i]? = some (a, b) ∧ Fr K H v a b ∧ 0 < b
  | _, _, _, _, .nil, e => by simp at e
  | _, _, 0, _, .cons f p _, e => ⟨_, _, rfl, by cases Option.some.inj e; exact f, p⟩
  | _, _, i + 1, _, .cons _ _ r, e => Frs.get (i := i) r e
end EP
namespace EP
open PySem PySem.Spec PyProof.Rows L2
theorem sqt_mut {K : PySem.W.Frag} {H : Hp} {D a : Addr} {o : HO} {xs ys : List V} (hD : H D = some (.lst ys)) (h : SqT K H a xs) : SqT K (upd H D o) a xs := by
  rcases h with (h | ⟨u, h⟩) | h
  · refine .inl (.inl ?_)
    rw [upd_ne (fun e => by subst e; rw [hD] at h; cases h)]; exact h
  · refine .inl (.inr ⟨u, ?_⟩)
    rw [upd_ne (fun e => by subst e; rw [hD] at h; cases h)]; exact h
  · exact .inr h
theorem Fr.mut {K : PySem.W.Frag} {H : Hp} {D : Addr} {o : HO} {v : V} {a b : Int} {ys : List V} (h : Fr K H v a b) (hD : H D = some (.lst ys)) : Fr K (upd H D o) v a b := by
  obtain ⟨p, e, h⟩ := h
  exact ⟨p, e, sqt_mut hD h⟩
theorem Fq.mut {K : PySem.W.Frag} {H : Hp} {D : Addr} {o : HO} {v : V} {a b : Int} {n : Nat} {ys : List V} (h : Fq K H n v a b) (hD : H D = some (.lst ys)) : Fq K (upd H D o) n v a b := ⟨h.f.mut hD, h.p, h.ba, h.bb, h.g⟩
/-- drawn fractions, one behind another -/
inductive Fqs (K : PySem.W.Frag) (H : Hp) (n : Nat) : List V → List (Int × Int) → Prop
  | nil : Fqs K H n [] []
  | snoc {v : V} {a b : Int} {vs : List V} {qs : List (Int × Int)} : Fqs K H n vs qs → Fq K H n v a b → Fqs K H n (vs ++ [v]) (qs ++ [(a, b)])
theorem Fqs.mo {K : PySem.W.Frag} {H H' : Hp} {g : Addr} {n : Nat} (s : Mo g H H') : ∀ {vs : List V} {qs : List (Int × Int)}, Fqs K H n vs qs → Fqs K H' n vs qs
  | _, _, .nil => .nil
  | _, _, .snoc r f => .snoc (r.mo s) (f.mo s)
theorem Fqs.same {K : PySem.W.Frag} {H H' : Hp} {n : Nat} (s : Same H H') : ∀ {vs : List V} {qs : List (Int × Int)}, Fqs K H n vs qs → Fqs K H' n vs qs
  | _, _, .nil => .nil
  | _, _, .snoc r f => .snoc (r.same s) (f.same s)
theorem Fqs.mut {K : PySem.W.Frag} {H : Hp} {D : Addr} {o : HO} {n : Nat} {ys : List V} (hD : H D = some (.lst ys)) : ∀ {vs : List V} {qs : List (Int × Int)}, Fqs K H n vs qs → Fqs K (upd H D o) n vs qs
  | _, _, .nil => .nil
  | _, _, .snoc r f => .snoc (r.mut hD) (f.mut hD)
theorem Fqs.len {K : PySem.W.Frag} {H : Hp} {n : Nat} : ∀ {vs : List V} {qs : List (Int × Int)}, Fqs K H n vs qs → vs.length = qs.length
  | _, _, .nil => rfl
  | _, _, .snoc r _ => by rw [List.length_append, List.length_append, r.len]; rfl
theorem Frs.app {K : PySem.W.Frag} {H : Hp} {v : V} {a b : Int} (f : Fr K H v a b) (p : 0 < b) : ∀ {vs : List V} {qs : List (Int × Int)}, Frs K H vs qs → Frs K H (vs ++ [v]) (qs ++ [(a, b)])
  | _, _, .nil => .cons f p .nil
  | _, _, .cons g q r => .cons g q (r.app f p)
theorem Fqs.frs {K : PySem.W.Frag} {H : Hp} {n : Nat} : ∀ {vs : List V} {qs : List (Int × Int)}, Fqs K H n vs qs → Frs K H vs qs
  | _, _, .nil => .nil
  | _, _, .snoc r f => r.frs.app f.f f.p
theorem Fqs.bd {K : PySem.W.Frag} {H : Hp} {n : Nat} : ∀ {vs : List V} {qs : List (Int × Int)}, Fqs K H n vs qs → ∀ q ∈ qs, B n q.1 ∧ B n q.2 ∧ Int.gcd q.1 q.2 = 1
  | _, _, .nil, q, h => by cases h
  | _, _, .snoc r f, q, h => by
    rcases List.mem_append.mp h with e | e
    · exact r.bd q e
    · rw [List.mem_singleton.mp e]; exact ⟨f.ba, f.bb, f.g⟩
theorem Fqs.two {K : PySem.W.Frag} {H : Hp} {n : Nat} {vs : List V} {qs : List (Int × Int)} (h : Fqs K H n vs qs) (e : vs.length = 2) : ∃ v1 v2 a1 b1 a2 b2, vs = [v1, v2] ∧ Fq K H n v1 a1 b1 ∧ Fq K H n v2 a2 b2 := by
  cases h with
  | nil => cases e
  | @snoc v a b vs1 qs1 r f =>
    cases r with
    | nil => cases e
    | @snoc v' a' b' vs2 qs2 r2 f2 =>
      have : vs2 = [] := by cases vs2 with
        | nil => rfl
        | cons x xs => simp at e
      subst this
      exact ⟨v', v, a', b', a, b, rfl, f2, f⟩
end EP
namespace EP
theorem rd_one {n m : Int} (hm : m ≠ 0) (h : m ∣ n) : rd n m = 1 := by
  unfold rd
  have : Int.gcd n m = m.natAbs := by
    unfold Int.gcd
    exact Nat.gcd_eq_right (Int.natAbs_dvd_natAbs.mpr h)
  rw [this]
  exact Int.ediv_self (by omega)
end EP
namespace EP
/-! ### sums over the numbers below n -/
def Sm (f : Nat → Int) : Nat → Int
  | 0 => 0
  | n + 1 => Sm f n + f n
theorem Sm_congr {f g : Nat → Int} : ∀ {n : Nat}, (∀ k, k < n → f k = g k) → Sm f n = Sm g n
  | 0, _ => rfl
  | n + 1, h => by unfold Sm; rw [Sm_congr (n := n) fun k hk => h k (by omega), h n (by omega)]
theorem Sm_add {f g : Nat → Int} : ∀ n : Nat, Sm (fun k => f k + g k) n = Sm f n + Sm g n
  | 0 => rfl
  | n + 1 => by unfold Sm; rw [Sm_add n]; omega
theorem Sm_zero : ∀ n : Nat, Sm (fun _ => 0) n = 0
  | 0 => rfl
  | n + 1 => by unfold Sm; rw [Sm_zero n]; rfl
theorem Sm_split {f : Nat → Int} (n : Nat) : ∀ m : Nat, Sm f (n + m) = Sm f n + Sm (fun k => f (n + k)) m
  | 0 => by show Sm f n = Sm f n + 0; omega
  | m + 1 => by show Sm f (n + m) + f (n + m) = _; rw [Sm_split n m]; show _ = Sm f n + (Sm (fun k => f (n + k)) m + f (n + m)); omega
theorem Sm_first {f : Nat → Int} (n : Nat) : Sm f (n + 1) = f 0 + Sm (fun k => f (k + 1)) n := by
  rw [Nat.add_comm, Sm_split 1 n]
  have e : Sm (fun k => f (1 + k)) n = Sm (fun k => f (k + 1)) n := Sm_congr fun k _ => by rw [Nat.add_comm]
  rw [e]
  show 0 + f 0 + _ = _
  omega
theorem Sm_rev : ∀ (n : Nat) (f : Nat → Int), Sm (fun k => f (n - 1 - k)) n = Sm f n
  | 0, _ => rfl
  | n + 1, f => by
    rw [Sm_first]
    have e : Sm (fun k => f (n + 1 - 1 - (k + 1))) n = Sm (fun k => f (n - 1 - k)) n := Sm_congr fun k _ => by
      rw [show n + 1 - 1 - (k + 1) = n - 1 - k by omega]
    rw [e, Sm_rev n f]
    show f (n + 1 - 1 - 0) + Sm f n = Sm f n + f n
    rw [show n + 1 - 1 - 0 = n by omega]; omega
theorem Sm_swap (f : Nat → Nat → Int) (n : Nat) : ∀ m : Nat, Sm (fun k => Sm (fun j => f k j) m) n = Sm (fun j => Sm (fun k => f k j) n) m
  | 0 => Sm_zero n
  | m + 1 => by
    show Sm (fun k => Sm (fun j => f k j) m + f k m) n = Sm (fun j => Sm (fun k => f k j) n) m + Sm (fun k => f k m) n
    rw [Sm_add n, Sm_swap f n m]
/-! ### the sum of floors -/
def FS (n : Nat) (r b m : Int) : Int := Sm (fun k => (r * k + b) / m) n
theorem floor_congr {a b c d : Int} (hb : 0 < b) (hd : 0 < d) (h : a * d = c * b) : a / b = c / d := by
  have e1 : a / b = (a * d) / (b * d) := (Int.mul_ediv_mul_of_pos_left a b hd).symm
  have e2 : c / d = (c * b) / (d * b) := (Int.mul_ediv_mul_of_pos_left c d hb).symm
  rw [e1, e2, h, Int.mul_comm b d]
theorem FS_congr {n : Nat} {r b m r' b' m' : Int} (hm : 0 < m) (hm' : 0 < m') (h1 : r * m' = r' * m) (h2 : b * m' = b' * m) : FS n r b m = FS n r' b' m' :=
  Sm_congr fun k _ => floor_congr hm hm' (by rw [Int.add_mul, Int.add_mul, ← h2, Int.mul_right_comm, h1, Int.mul_right_comm])
theorem FS_split {n1 n2 : Nat} {r b m : Int} : FS (n1 + n2) r b m = FS n1 r b m + FS n2 r (b + n1 * r) m := by
  unfold FS
  rw [Sm_split]
  congr 1
  refine Sm_congr fun k _ => ?_
  congr 1
  have : ((n1 + k : Nat) : Int) = n1 + k := by omega
  rw [this]; grind
theorem FS_neg {n : Nat} {r b m : Int} (hm : 0 < m) : FS n (-r) (m - 1 - b) m + FS n r b m = 0 := by
  unfold FS
  rw [← Sm_add, ← Sm_zero n]
  refine Sm_congr fun k _ => ?_
  have e : -r * (k : Int) + (m - 1 - b) = -(r * k + b) + (m - 1) := by grind
  rw [e]
  generalize r * (k : Int) + b = x
  have h1 := Int.mul_ediv_add_emod x m
  have h2 := Int.emod_lt_of_pos x hm
  have h3 := Int.emod_nonneg x (show m ≠ 0 by omega)
  have h4 : (-x + (m - 1)) / m = -(x / m) := by
    have : -x + (m - 1) = (m - 1 - x % m) + m * (-(x / m)) := by rw [Int.mul_neg]; omega
    rw [this, Int.add_mul_ediv_left _ _ (show m ≠ 0 by omega), Int.ediv_eq_zero_of_lt (by omega) (by omega)]; omega
  omega
theorem FS_rev {n : Nat} {r b m : Int} : FS n (-r) (b + (n - 1) * r) m = FS n r b m := by
  unfold FS
  rw [← Sm_rev n]
  refine Sm_congr fun k hk => ?_
  congr 1
  have : ((n - 1 - k : Nat) : Int) = n - 1 - k := by omega
  rw [this]; grind
theorem tri {n : Nat} : (n : Int) * (n - 1) % 2 = 0 := by
  have : ∀ n : Nat, ∃ c : Int, (n : Int) * (n - 1) = 2 * c := by
    intro n
    induction n with
    | zero => exact ⟨0, rfl⟩
    | succ n ih =>
      obtain ⟨c, hc⟩ := ih
      refine ⟨c + n, ?_⟩
      have : ((n + 1 : Nat) : Int) = n + 1 := by omega
      rw [this]; grind
  obtain ⟨c, hc⟩ := this n
  rw [hc]; omega
theorem tri_succ {n : Nat} : ((n + 1 : Nat) : Int) * (((n + 1 : Nat) : Int) - 1) / 2 = (n : Int) * (n - 1) / 2 + n := by
  have h1 := tri (n := n)
  have e : ((n + 1 : Nat) : Int) = n + 1 := by omega
  have : ((n + 1 : Nat) : Int) * (((n + 1 : Nat) : Int) - 1) = n * (n - 1) + 2 * n := by rw [e]; grind
  rw [this]; omega
/-- whole numbers more in the slope and the offset -/
theorem FS_more {r b m : Int} {x y : Int} (hm : 0 < m) : ∀ n : Nat, FS n (r + x * m) (b + y * m) m = FS n r b m + x * ((n : Int) * (n - 1) / 2) + y * n
  | 0 => by
    show (0 : Int) = 0 + x * (((0 : Nat) : Int) * (((0 : Nat) : Int) - 1) / 2) + y * ((0 : Nat) : Int)
    simp
  | n + 1 => by
    have ih := FS_more (r := r) (b := b) (m := m) (x := x) (y := y) hm n
    unfold FS at *
    show Sm _ n + ((r + x * m) * (n : Int) + (b + y * m)) / m = Sm _ n + (r * (n : Int) + b) / m + _ + _
    rw [ih, tri_succ]
    have e : (r + x * m) * (n : Int) + (b + y * m) = (r * n + b) + m * (x * n + y) := by grind
    rw [e, Int.add_mul_ediv_left _ _ (show m ≠ 0 by omega)]
    have : ((n + 1 : Nat) : Int) = n + 1 := by omega
    rw [this]
    generalize (n : Int) * (n - 1) / 2 = t
    grind
/-! ### counting by rows instead of by columns -/
theorem cnt_le {m x : Int} (hm : 0 < m) (hx : 0 ≤ x) : ∀ y : Nat, Sm (fun i => if m * ((i : Int) + 1) ≤ x then 1 else 0) y = if x / m ≤ y then x / m else y
  | 0 => by
    have := Int.ediv_nonneg hx (Int.le_of_lt hm)
    show (0 : Int) = _
    split <;> omega
  | y + 1 => by
    show Sm _ y + (if m * ((y : Int) + 1) ≤ x then 1 else 0) = _
    rw [cnt_le hm hx y]
    have key : m * ((y : Int) + 1) ≤ x ↔ (y : Int) + 1 ≤ x / m := by
      rw [Int.le_ediv_iff_mul_le hm, Int.mul_comm]
    have : ((y + 1 : Nat) : Int) = y + 1 := by omega
    rw [this]
    by_cases h : m * ((y : Int) + 1) ≤ x
    · rw [if_pos h]; have := key.mp h
      rw [if_neg (by omega)]; split <;> omega
    · rw [if_neg h]; have : ¬ _ := fun z => h (key.mpr z)
      rw [if_pos (by omega), if_pos (by omega)]; omega
theorem cnt_ge {r c : Int} (hr : 0 < r) (hc : 0 < c) : ∀ n : Nat, Sm (fun k => if c ≤ r * (k : Int) then 1 else 0) n = if 0 ≤ (r * n - c) / r then (r * n - c) / r else 0
  | 0 => by
    have : (r * ((0 : Nat) : Int) - c) / r < 0 := Int.ediv_neg_of_neg_of_pos (by simp; omega) hr
    rw [if_neg (by omega)]; rfl
  | n + 1 => by
    show Sm _ n + (if c ≤ r * (n : Int) then 1 else 0) = _
    rw [cnt_ge hr hc n]
    have e : ((n + 1 : Nat) : Int) = n + 1 := by omega
    have e2 : (r * ((n + 1 : Nat) : Int) - c) / r = (r * n - c) / r + 1 := by
      rw [e, show r * ((n : Int) + 1) - c = (r * n - c) + r * 1 by grind, Int.add_mul_ediv_left _ _ (show r ≠ 0 by omega)]
    rw [e2]
    by_cases h : c ≤ r * (n : Int)
    · have := Int.ediv_nonneg (show 0 ≤ r * (n : Int) - c by omega) (Int.le_of_lt hr)
      rw [if_pos h, if_pos this, if_pos (by omega)]
    · have h1 : (r * (n : Int) - c) / r < 0 := Int.ediv_neg_of_neg_of_pos (by omega) hr
      rw [if_neg h, if_neg (by omega)]
      split <;> omega
theorem FS_flip {n : Nat} {r b m : Int} (hr : 0 < r) (hrm : r < m) (hb : 0 ≤ b) (hbm : b < m) :
    FS n r b m = FS ((r * n + b) / m).toNat m ((r * n + b) % m) r := by
  have hm : 0 < m := by omega
  have htop : 0 ≤ r * (n : Int) + b := by have := Int.mul_nonneg (Int.le_of_lt hr) (Int.natCast_nonneg n); omega
  have hy0 := Int.ediv_nonneg htop (Int.le_of_lt hm)
  obtain ⟨y, hy⟩ := Int.eq_ofNat_of_zero_le hy0
  have hdm := Int.mul_ediv_add_emod (r * (n : Int) + b) m
  have ht0 := Int.emod_nonneg (r * (n : Int) + b) (show m ≠ 0 by omega)
  rw [hy] at hdm ⊢
  generalize (r * (n : Int) + b) % m = t at *
  unfold FS
  have e1 : Sm (fun k => (r * (k : Int) + b) / m) n = Sm (fun k => Sm (fun i => if m * ((i : Int) + 1) ≤ r * k + b then 1 else 0) y) n := by
    refine Sm_congr fun k hk => ?_
    have h0 : 0 ≤ r * (k : Int) + b := by have := Int.mul_nonneg (Int.le_of_lt hr) (Int.natCast_nonneg k); omega
    rw [cnt_le hm h0 y, if_pos]
    have : r * (k : Int) + b ≤ r * (n : Int) + b := by
      have := Int.mul_le_mul_of_nonneg_left (show (k : Int) ≤ n by omega) (Int.le_of_lt hr); omega
    have := Int.ediv_le_ediv hm this
    rw [hy] at this; exact this
  rw [e1, Sm_swap, ← Sm_rev y]
  rw [show (y : Int).toNat = y from Int.toNat_natCast y]
  refine Sm_congr fun i hi => ?_
  have ei : ((y - 1 - i : Nat) : Int) = y - 1 - i := by omega
  have e2 : Sm (fun k => if m * (((y - 1 - i : Nat) : Int) + 1) ≤ r * (k : Int) + b then (1 : Int) else 0) n = Sm (fun k => if m * ((y : Int) - i) - b ≤ r * (k : Int) then 1 else 0) n := by
    refine Sm_congr fun k _ => ?_
    rw [ei, show ((y : Int) - 1 - i + 1) = y - i by omega]
    by_cases h : m * ((y : Int) - i) ≤ r * (k : Int) + b
    · rw [if_pos h, if_pos (by omega)]
    · rw [if_neg h, if_neg (by omega)]
  have hc : 0 < m * ((y : Int) - i) - b := by
    have : m * 1 ≤ m * ((y : Int) - i) := Int.mul_le_mul_of_nonneg_left (by omega) (Int.le_of_lt hm)
    omega
  rw [e2, cnt_ge hr hc n]
  have hdm' : m * (y : Int) + t = r * n + b := hdm
  have e3 : r * (n : Int) - (m * ((y : Int) - i) - b) = m * i + t := by
    rw [Int.mul_sub]; omega
  have e4 : 0 ≤ m * (i : Int) + t := by have := Int.mul_nonneg (Int.le_of_lt hm) (Int.natCast_nonneg i); omega
  rw [e3, if_pos (Int.ediv_nonneg e4 (Int.le_of_lt hr))]
end EP
namespace EP
theorem FS_small {n : Nat} {r b m : Int} (hr : 0 ≤ r) (hb : 0 ≤ b) (h : r * n + b < m) : FS n r b m = 0 := by
  unfold FS
  rw [← Sm_zero n]
  refine Sm_congr fun k hk => ?_
  have h1 := Int.mul_nonneg hr (Int.natCast_nonneg k)
  have h2 := Int.mul_le_mul_of_nonneg_left (show (k : Int) ≤ n by omega) hr
  exact Int.ediv_eq_zero_of_lt (by omega) (by omega)
/-- the least common multiple of the denominators, as it is reckoned -/
def lstep (r d : Int) : Int := r / (Int.gcd r d : Int) * d
def cden : List (Int × Int) → Int → Int
  | [], r => r
  | q :: qs, r => cden qs (lstep r q.2)
theorem gcd_posI {r d : Int} (h : 0 < d) : (0 : Int) < (Int.gcd r d : Int) := by have := gcd_pos (n := r) (d := d) (by omega); omega
theorem lstep_pos {r d : Int} (hr : 0 < r) (hd : 0 < d) : 0 < lstep r d := by
  unfold lstep
  have h1 : (Int.gcd r d : Int) ∣ r := Int.gcd_dvd_left ..
  have h2 : r / (Int.gcd r d : Int) * (Int.gcd r d : Int) = r := Int.ediv_mul_cancel h1
  refine Int.mul_pos ?_ hd
  refine Int.pos_of_mul_pos_left (b := (Int.gcd r d : Int)) ?_ (gcd_posI hd)
  rw [h2]; exact hr
theorem lstep_dvd_right {r d : Int} : d ∣ lstep r d := ⟨r / (Int.gcd r d : Int), by unfold lstep; rw [Int.mul_comm]⟩
theorem lstep_dvd_left {r d : Int} (hd : 0 < d) : r ∣ lstep r d := by
  obtain ⟨c, hc⟩ : (Int.gcd r d : Int) ∣ d := Int.gcd_dvd_right ..
  refine ⟨c, ?_⟩
  have h2 : r / (Int.gcd r d : Int) * (Int.gcd r d : Int) = r := Int.ediv_mul_cancel (Int.gcd_dvd_left ..)
  have e : lstep r d = r / (Int.gcd r d : Int) * (Int.gcd r d : Int) * c := by
    rw [Int.mul_assoc, ← hc]; rfl
  rw [e, h2]
theorem lstep_le {r d : Int} (hr : 0 < r) (hd : 0 < d) : (lstep r d).natAbs ≤ (r * d).natAbs := by
  unfold lstep
  rw [Int.natAbs_mul, Int.natAbs_mul]
  exact Nat.mul_le_mul_right _ (div_abs (gcd_posI hd))
theorem cden_pos : ∀ {qs : List (Int × Int)} {r : Int}, 0 < r → (∀ q ∈ qs, 0 < q.2) → 0 < cden qs r
  | [], _, h, _ => h
  | q :: qs, r, h, hq => cden_pos (qs := qs) (r := lstep r q.2) (lstep_pos h (hq q (List.mem_cons_self ..))) fun q' h' => hq q' (List.mem_cons_of_mem _ h')
theorem cden_dvd0 : ∀ {qs : List (Int × Int)} {r : Int}, (∀ q ∈ qs, 0 < q.2) → r ∣ cden qs r
  | [], r, _ => Int.dvd_refl r
  | q :: qs, r, hq => Int.dvd_trans (lstep_dvd_left (hq q (List.mem_cons_self ..))) (cden_dvd0 (qs := qs) fun q' h' => hq q' (List.mem_cons_of_mem _ h'))
theorem cden_dvd : ∀ {qs : List (Int × Int)} {r : Int}, (∀ q ∈ qs, 0 < q.2) → ∀ q ∈ qs, q.2 ∣ cden qs r
  | q :: qs, r, hq, q', h' => by
    have hq' : ∀ q ∈ qs, 0 < q.2 := fun q' h' => hq q' (List.mem_cons_of_mem _ h')
    rcases List.mem_cons.mp h' with e | e
    · rw [e]; exact Int.dvd_trans lstep_dvd_right (cden_dvd0 (qs := qs) hq')
    · exact cden_dvd (qs := qs) hq' q' e
end EP
namespace EP
open PySem PySem.Spec PyProof.Rows L2
theorem cden_take {qs : List (Int × Int)} {i : Nat} {q : Int × Int} : ∀ {r : Int}, qs[i]? = some q → cden (qs.take (i + 1)) r = lstep (cden (qs.take i) r) q.2 := by
  induction qs generalizing i with
  | nil => intro r h; simp at h
  | cons x xs ih =>
    intro r h
    cases i with
    | zero => cases Option.some.inj h; rfl
    | succ i => exact ih (i := i) h
def spCden (K : PySem.W.Frag) : Sp := fun vs H Q _ => ∃ (l : Addr) (xs : List V) (qs : List (Int × Int)) (k : Nat), vs = [.ref l] ∧ (SqL K H l xs ∨ SqT K H l xs) ∧ Frs K H xs qs ∧ (∀ q ∈ qs, B k q.2) ∧ 0 < k ∧ k * qs.length ≤ 8000 ∧ Q (.int (cden qs 1)) H
def spFloorSum (K : PySem.W.Frag) : Sp := fun vs H Q _ => ∃ (n : Nat) (x y : V) (a b c d : Int), vs = [.int n, x, y] ∧ Fr K H x a b ∧ Fr K H y c d ∧ 0 < b ∧ 0 < d ∧ B 1000 (n : Int) ∧ B 1000 a ∧ B 1000 b ∧ B 1000 c ∧ B 1000 d ∧
  ∀ z H', Same H H' → (∀ R b' M : Int, 0 < M → R * b = a * M → b' * d = c * M → z = FS n R b' M) → Q (.int z) H'
end EP
namespace EP
/-- a / b is x / M -/
def Rv (a b x M : Int) : Prop := a * M = x * b
theorem Rv.red {n d x M : Int} (hd : d ≠ 0) (h : n * M = x * d) : Rv (rn n d) (rd n d) x M := by
  have e := rn_rd (n := n) hd
  refine Int.eq_of_mul_eq_mul_right hd ?_
  have : rn n d * M * d = rn n d * d * M := by grind
  rw [this, e]
  have : n * rd n d * M = n * M * rd n d := by grind
  rw [this, h]; grind
theorem Rv.add {a b c d x y M : Int} (h1 : Rv a b x M) (h2 : Rv c d y M) : (a * d + c * b) * M = (x + y) * (b * d) := by
  unfold Rv at *
  have : (a * d + c * b) * M = a * M * d + c * M * b := by grind
  rw [this, h1, h2]; grind
theorem Rv.sub {a b c d x y M : Int} (h1 : Rv a b x M) (h2 : Rv c d y M) : (a * d - c * b) * M = (x - y) * (b * d) := by
  unfold Rv at *
  have : (a * d - c * b) * M = a * M * d - c * M * b := by grind
  rw [this, h1, h2]; grind
theorem Rv.times {n a b x M : Int} (h1 : Rv a b x M) : (n * a) * M = (n * x) * b := by
  unfold Rv at *
  rw [Int.mul_assoc, h1]; grind
theorem Rv.floor {a b x M : Int} (hb : 0 < b) (hM : 0 < M) (h : Rv a b x M) : a / b = x / M := floor_congr hb hM h
theorem Rv.fs {a b x M : Int} (h : Rv a b x M) : x * b = a * M := h.symm
end EP
namespace EP
open PySem PySem.Spec PyProof.Rows L2
theorem Sm_sum (f : Nat → Int) : ∀ n : Nat, ((List.range n).map f).sum = Sm f n
  | 0 => rfl
  | n + 1 => by
    rw [List.range_succ, List.map_append, List.sum_append, Sm_sum f n]
    simp [Sm]
end EP
namespace EP
/-! ### Bezout -/
theorem bz_dec {a b : Int} (h : ¬ b ≤ 0) : (a - a / b * b).toNat < b.toNat := by
  have e : a - a / b * b = a % b := by have := Int.mul_ediv_add_emod a b; rw [Int.mul_comm (a / b)]; omega
  rw [e]
  have := Int.emod_lt_of_pos a (show 0 < b by omega)
  omega
def bezR (a b u lu w lw : Int) : Int × Int × Int :=
  if h : b ≤ 0 then (a, u, w) else bezR b (a - a / b * b) lu (u - a / b * lu) lw (w - a / b * lw)
termination_by b.toNat
decreasing_by exact bz_dec h
theorem bezR_stop {a u lu w lw : Int} : bezR a 0 u lu w lw = (a, u, w) := by rw [bezR]; simp
theorem bezR_step {a b u lu w lw : Int} (h : 0 < b) : bezR a b u lu w lw = bezR b (a - a / b * b) lu (u - a / b * lu) lw (w - a / b * lw) := by
  rw [bezR]; rw [dif_neg (by omega)]
def SgnI (x lx a b c : Int) : Prop := (0 ≤ x ∧ lx ≤ 0 ∧ x * b - lx * a = c) ∨ (x ≤ 0 ∧ 0 ≤ lx ∧ lx * a - x * b = c)
theorem SgnI.step {x lx a b c : Int} (hb : 0 < b) (ha : 0 ≤ a) (h : SgnI x lx a b c) : SgnI lx (x - a / b * lx) b (a - a / b * b) c := by
  have hq := Int.ediv_nonneg ha (Int.le_of_lt hb)
  generalize a / b = q at *
  rcases h with ⟨h1, h2, h3⟩ | ⟨h1, h2, h3⟩
  · right
    have := Int.mul_nonneg hq (show 0 ≤ -lx by omega)
    have e : q * -lx = -(q * lx) := by grind
    refine ⟨h2, by omega, by grind⟩
  · left
    have := Int.mul_nonneg hq h2
    exact ⟨h2, by omega, by grind⟩
theorem abs_le_of {x y c : Int} (hy : 0 < y) (h : (x * y).natAbs ≤ c.natAbs) : x.natAbs ≤ c.natAbs := by
  rw [Int.natAbs_mul] at h
  exact Nat.le_trans (Nat.le_mul_of_pos_right _ (by omega)) h
theorem SgnI.low {x lx a b c : Int} (hb : 0 ≤ b) (ha : 0 < a) (hc : 0 ≤ c) (h : SgnI x lx a b c) : lx.natAbs ≤ c.natAbs := by
  refine abs_le_of ha ?_
  rcases h with ⟨h1, h2, h3⟩ | ⟨h1, h2, h3⟩
  · have := Int.mul_nonneg h1 hb
    have := Int.mul_nonneg (show 0 ≤ -lx by omega) (Int.le_of_lt ha)
    rw [Int.neg_mul] at this; omega
  · have := Int.mul_nonneg (show 0 ≤ -x by omega) hb
    have := Int.mul_nonneg h2 (Int.le_of_lt ha)
    have e : -x * b = -(x * b) := by grind
    omega
structure BzI (a0 b0 a b u lu w lw : Int) : Prop where
  ha : 0 ≤ a
  hb : 0 ≤ b
  g : Int.gcd a b = Int.gcd a0 b0
  e1 : a = u * a0 + w * b0
  e2 : b = lu * a0 + lw * b0
  s1 : SgnI u lu a b b0
  s2 : SgnI w lw a b a0
  bu : u.natAbs ≤ b0.natAbs + 1
  blu : lu.natAbs ≤ b0.natAbs + 1
  bw : w.natAbs ≤ a0.natAbs + 1
  blw : lw.natAbs ≤ a0.natAbs + 1
theorem BzI.start {a b : Int} (ha : 0 ≤ a) (hb : 0 ≤ b) : BzI a b a b 1 0 0 1 :=
  ⟨ha, hb, rfl, by omega, by omega, .inl ⟨by omega, by omega, by omega⟩, .inr ⟨by omega, by omega, by omega⟩, by omega, by omega, by omega, by omega⟩
theorem BzI.next {a0 b0 a b u lu w lw : Int} (h0 : 0 ≤ a0) (h1 : 0 ≤ b0) (hb : 0 < b) (h : BzI a0 b0 a b u lu w lw) : BzI a0 b0 b (a - a / b * b) lu (u - a / b * lu) lw (w - a / b * lw) := by
  have e : a - a / b * b = a % b := by have := Int.mul_ediv_add_emod a b; rw [Int.mul_comm (a / b)]; omega
  have hm := Int.emod_nonneg a (show b ≠ 0 by omega)
  have t1 := h.s1.step hb h.ha
  have t2 := h.s2.step hb h.ha
  refine ⟨h.hb, by omega, ?_, h.e2, ?_, t1, t2, h.blu, ?_, h.blw, ?_⟩
  · rw [e, gcd_step h.ha hb, h.g]
  · have e1 := h.e1; have e2 := h.e2
    generalize a / b = q at *
    grind
  · have := t1.low (by omega) hb h1; omega
  · have := t2.low (by omega) hb h0; omega
def bz (a b : Int) : Int × Int × Int := bezR a b 1 0 0 1
theorem bezR_spec {a0 b0 : Int} (h0 : 0 ≤ a0) (h1 : 0 ≤ b0) : ∀ (n : Nat) {a b u lu w lw : Int}, b.toNat = n → BzI a0 b0 a b u lu w lw →
    (bezR a b u lu w lw).1 = (Int.gcd a0 b0 : Int) ∧ (bezR a b u lu w lw).1 = (bezR a b u lu w lw).2.1 * a0 + (bezR a b u lu w lw).2.2 * b0 ∧ (bezR a b u lu w lw).2.1.natAbs ≤ b0.natAbs + 1 ∧ (bezR a b u lu w lw).2.2.natAbs ≤ a0.natAbs + 1 := by
  intro n
  induction n using Nat.strongRecOn with
  | ind n ih =>
    intro a b u lu w lw hn I
    by_cases hb : b = 0
    · subst hb
      rw [bezR_stop]
      refine ⟨?_, I.e1, I.bu, I.bw⟩
      have := I.g
      rw [← this]
      have ha := I.ha
      show a = (Int.gcd a 0 : Int)
      rw [Int.gcd_zero_right]; omega
    · have hb' : 0 < b := by have := I.hb; omega
      rw [bezR_step hb']
      have hlt := bz_dec (a := a) (b := b) (by omega)
      exact ih _ (by omega) rfl (I.next h0 h1 hb')
theorem bz_spec {a b : Int} (ha : 0 ≤ a) (hb : 0 ≤ b) : (bz a b).1 = (Int.gcd a b : Int) ∧ (bz a b).1 = (bz a b).2.1 * a + (bz a b).2.2 * b ∧ (bz a b).2.1.natAbs ≤ b.natAbs + 1 ∧ (bz a b).2.2.natAbs ≤ a.natAbs + 1 :=
  bezR_spec ha hb _ rfl (BzI.start ha hb)
/-! ### products of rows -/
def dot : List Int → List Int → Int
  | x :: xs, y :: ys => x * y + dot xs ys
  | _, _ => 0
theorem dot_map {m u : Int} (S : List Int) : ∀ row : List Int, ∃ c, dot (row.map fun e => u * e % m) S = u * dot row S + m * c := by
  induction S with
  | nil => intro row; cases row <;> exact ⟨0, by simp [dot]⟩
  | cons y ys ih =>
    intro row
    cases row with
    | nil => exact ⟨0, by simp [dot]⟩
    | cons x xs =>
      obtain ⟨c, hc⟩ := ih xs
      refine ⟨c - u * x / m * y, ?_⟩
      show u * x % m * y + dot (xs.map fun e => u * e % m) ys = u * (x * y + dot xs ys) + _
      have h := Int.mul_ediv_add_emod (u * x) m
      rw [hc]
      generalize u * x / m = q at *
      generalize u * x % m = t at *
      have : t = u * x - m * q := by omega
      rw [this]; grind
theorem dot_set {x s : Int} : ∀ {row S : List Int} {i : Nat}, row[i]? = some 0 → S[i]? = some s → dot (row.set i x) S = dot row S + x * s
  | [], _, _, h, _ => by simp at h
  | _ :: _, [], _, _, h => by simp at h
  | y :: ys, z :: zs, 0, h1, h2 => by
    have e1 : y = 0 := Option.some.inj h1
    have e2 : z = s := Option.some.inj h2
    rw [e1, e2]
    show x * s + dot ys zs = 0 * s + dot ys zs + x * s
    omega
  | y :: ys, z :: zs, i + 1, h1, h2 => by
    have := dot_set (x := x) (s := s) (row := ys) (S := zs) (i := i) h1 h2
    show y * z + dot (ys.set i x) zs = y * z + dot ys zs + x * s
    omega
theorem dot_zero (S : List Int) : ∀ n : Nat, dot (List.replicate n 0) S = 0 := by
  induction S with
  | nil => intro n; cases n <;> rfl
  | cons y ys ih =>
    intro n
    cases n with
    | zero => rfl
    | succ n => show 0 * y + dot (List.replicate n 0) ys = 0; rw [ih n]; omega
theorem dot_congr {m : Int} : ∀ {row A S : List Int}, A.length = S.length → (∀ (i : Nat) (a s : Int), A[i]? = some a → S[i]? = some s → s = a % m) → ∃ c, dot row A = dot row S + m * c
  | [], A, S, _, _ => ⟨0, by cases A <;> cases S <;> simp [dot]⟩
  | x :: xs, [], S, h, _ => ⟨0, by cases S with | nil => simp [dot] | cons a b => simp at h⟩
  | x :: xs, a :: A, [], h, _ => by simp at h
  | x :: xs, a :: A, s :: S, h, g => by
    obtain ⟨c, hc⟩ := dot_congr (row := xs) (A := A) (S := S) (by simpa using h) (fun i a' s' h1 h2 => g (i + 1) a' s' h1 h2)
    have e := g 0 a s rfl rfl
    refine ⟨c + x * (a / m), ?_⟩
    show x * a + dot xs A = x * s + dot xs S + _
    have h := Int.mul_ediv_add_emod a m
    rw [hc]
    generalize a / m = q at *
    have : a = m * q + s := by omega
    rw [this]; grind
/-! ### the reach -/
def nrow (m D s : Int) (at' : Nat) (row : List Int) : List Int := (row.map fun e => (bz D s).2.1 * e % m).set at' ((bz D s).2.2 % m)
def reach (m : Int) : List Int → Nat → Int → List Int → Int × List Int
  | [], _, D, row => (D, row)
  | s :: ss, i, D, row => reach m ss (i + 1) (bz D s).1 (nrow m D s i row)
structure RcI (m : Int) (S : List Int) (i : Nat) (D : Int) (row : List Int) : Prop where
  len : row.length = S.length
  hD : 0 ≤ D
  zero : ∀ j, i ≤ j → j < S.length → row[j]? = some 0
  fit : ∃ c, dot row S = D + m * c
  bnd : ∀ e ∈ row, 0 ≤ e ∧ e < m
theorem RcI.start {m : Int} {S : List Int} (hm : 0 < m) : RcI m S 0 m (List.replicate S.length 0) := by
  refine ⟨List.length_replicate, by omega, fun j _ hj => by rw [List.getElem?_replicate]; simp [hj], ⟨-1, ?_⟩, fun e he => ?_⟩
  · rw [dot_zero]; omega
  · have := List.eq_of_mem_replicate he; omega
theorem RcI.next {m : Int} {S : List Int} {i : Nat} {D s : Int} {row : List Int} (hm : 0 < m) (h : RcI m S i D row) (hs : S[i]? = some s) (hs0 : 0 ≤ s) : RcI m S (i + 1) (bz D s).1 (nrow m D s i row) := by
  have hi : i < S.length := (List.getElem?_eq_some_iff.mp hs).1
  obtain ⟨z1, z2, _, _⟩ := bz_spec h.hD hs0
  refine ⟨?_, by omega, fun j h1 h2 => ?_, ?_, fun e he => ?_⟩
  · unfold nrow; rw [List.length_set, List.length_map]; exact h.len
  · unfold nrow
    rw [List.getElem?_set_ne (by omega), List.getElem?_map, h.zero j (by omega) h2]
    show some ((bz D s).2.1 * 0 % m) = some 0
    rw [Int.mul_zero, Int.zero_emod]
  · unfold nrow
    have hz : (row.map fun e => (bz D s).2.1 * e % m)[i]? = some 0 := by
      rw [List.getElem?_map, h.zero i (Nat.le_refl _) hi]
      show some ((bz D s).2.1 * 0 % m) = some 0
      rw [Int.mul_zero, Int.zero_emod]
    rw [dot_set hz hs]
    obtain ⟨c1, e1⟩ := dot_map (m := m) (u := (bz D s).2.1) S row
    obtain ⟨c2, e2⟩ := h.fit
    rw [e1, e2, z2]
    have hw := Int.mul_ediv_add_emod (bz D s).2.2 m
    generalize (bz D s).2.1 = u at *
    generalize (bz D s).2.2 = w at *
    refine ⟨u * c2 + c1 - w / m * s, ?_⟩
    generalize w / m = q at *
    generalize w % m = t at *
    have : t = w - m * q := by omega
    rw [this]; grind
  · unfold nrow at he
    have key : ∀ x : Int, 0 ≤ x % m ∧ x % m < m := fun x => ⟨Int.emod_nonneg _ (by omega), Int.emod_lt_of_pos _ hm⟩
    rcases List.mem_or_eq_of_mem_set he with he | he
    · obtain ⟨y, _, rfl⟩ := List.mem_map.mp he; exact key _
    · rw [he]; exact key _
/-- the greatest common divisor of m and what is given -/
def gcds : Int → List Int → Int
  | D, [] => D
  | D, s :: ss => gcds (Int.gcd D s : Int) ss
theorem reach_spec {m : Int} (hm : 0 < m) {S : List Int} : ∀ {ss pre : List Int} {D : Int} {row : List Int}, S = pre ++ ss → (∀ s ∈ S, 0 ≤ s) → RcI m S pre.length D row →
    RcI m S S.length (reach m ss pre.length D row).1 (reach m ss pre.length D row).2 ∧ (reach m ss pre.length D row).1 = gcds D ss
  | [], pre, D, row, e, _, h => by
    rw [List.append_nil] at e; rw [e]; rw [e] at h; exact ⟨h, rfl⟩
  | s :: ss, pre, D, row, e, hS, h => by
    have hs : S[pre.length]? = some s := by rw [e, List.getElem?_append_right (Nat.le_refl _)]; simp
    have hs0 : 0 ≤ s := hS s (by rw [e]; simp)
    have n := h.next hm hs hs0
    have z := (bz_spec h.hD hs0).1
    have r := reach_spec (ss := ss) (pre := pre ++ [s]) hm (by rw [e]; simp) hS (by rw [List.length_append]; exact n)
    rw [List.length_append] at r
    show RcI m S S.length (reach m ss (pre.length + 1) (bz D s).1 (nrow m D s pre.length row)).1 (reach m ss (pre.length + 1) (bz D s).1 (nrow m D s pre.length row)).2 ∧ (reach m ss (pre.length + 1) (bz D s).1 (nrow m D s pre.length row)).1 = gcds (Int.gcd D s : Int) ss
    rw [← z]; exact r
end EP
namespace EP
theorem cden_snoc {q : Int × Int} : ∀ {qs : List (Int × Int)} {r : Int}, cden (qs ++ [q]) r = lstep (cden qs r) q.2
  | [], _ => rfl
  | _ :: qs, _ => cden_snoc (qs := qs)
/-- what divides c m and each c a (m / b) divides c -/
theorem reach_one : ∀ (n : Nat) (qs : List (Int × Int)), qs.length = n → (∀ q ∈ qs, 0 < q.2 ∧ Int.gcd q.1 q.2 = 1) → ∀ g c : Int, g ∣ c * cden qs 1 → (∀ q ∈ qs, g ∣ c * (q.1 * (cden qs 1 / q.2))) → g ∣ c := by
  intro n
  induction n with
  | zero =>
    intro qs hn _ g c h _
    have : qs = [] := List.length_eq_zero_iff.mp hn
    subst this
    rw [show cden [] 1 = 1 from rfl, Int.mul_one] at h
    exact h
  | succ n ih =>
    intro qs hn hq g c h hj
    obtain ⟨ps, q, rfl⟩ : ∃ ps q, qs = ps ++ [q] := by
      rcases List.eq_nil_or_concat qs with e | ⟨ps, q, e⟩
      · rw [e] at hn; simp at hn
      · exact ⟨ps, q, by rw [e]; simp⟩
    obtain ⟨a, b⟩ := q
    have hb := hq (a, b) (by simp)
    have hb1 : 0 < b := hb.1
    have hps : ∀ q ∈ ps, 0 < q.2 ∧ Int.gcd q.1 q.2 = 1 := fun q h => hq q (List.mem_append_left _ h)
    have hM := cden_pos (qs := ps) (r := 1) (by decide) (fun q h => (hps q h).1)
    rw [cden_snoc] at h hj
    have hdv := cden_dvd (qs := ps) (r := 1) (fun q h => (hps q h).1)
    have hlen : ps.length = n := by simpa using hn
    have ih' := ih ps hlen hps
    generalize cden ps 1 = M at *
    dsimp only at h hj
    have e1 := rn_mul (n := M) (d := b)
    have e2 := rd_mul (n := M) (d := b)
    rw [if_neg (by omega)] at e1
    rw [show (b.natAbs : Int) = b by omega] at e2
    have cop := gcd_red (n := M) (d := b) (by omega)
    have hgp := gcd_posI (r := M) hb1
    have hdiv : M / (Int.gcd M b : Int) = rn M b := by unfold rn; rw [if_neg (by omega)]
    have el : lstep M b = rn M b * b := by unfold lstep; rw [hdiv]
    generalize rn M b = e at *
    generalize rd M b = cc at *
    generalize (Int.gcd M b : Int) = d at *
    have el2 : lstep M b = M * cc := by rw [el, ← e1, ← e2]; grind
    have hc : g ∣ c * cc := by
      refine ih' g (c * cc) ?_ fun q hqm => ?_
      · have : c * cc * M = c * lstep M b := by rw [el2]; grind
        rw [this]; exact h
      · have hqp := (hps q hqm).1
        obtain ⟨k, hk⟩ := hdv q hqm
        have t := hj q (List.mem_append_left _ hqm)
        have d1 : M / q.2 = k := by rw [hk]; exact Int.mul_ediv_cancel_left _ (by omega)
        have d2 : lstep M b / q.2 = k * cc := by rw [el2, hk, Int.mul_assoc]; exact Int.mul_ediv_cancel_left _ (by omega)
        rw [d2] at t
        rw [d1]
        have : c * cc * (q.1 * k) = c * (q.1 * (k * cc)) := by grind
        rw [this]; exact t
    have ha : g ∣ c * (a * e) := by
      have t := hj (a, b) (by simp)
      have d2 : lstep M b / b = e := by rw [el]; exact Int.mul_ediv_cancel _ (by omega)
      dsimp only at t
      rw [d2] at t; exact t
    have g1 : Int.gcd cc (a * e) = 1 := by
      have h1 : Nat.Coprime cc.natAbs a.natAbs := by
        have : Nat.Coprime a.natAbs b.natAbs := hb.2
        refine (Nat.Coprime.coprime_dvd_right ?_ this).symm
        rw [← e2]; exact Int.natAbs_dvd_natAbs.mpr ⟨d, rfl⟩
      have h2 : Nat.Coprime cc.natAbs e.natAbs := Nat.Coprime.symm cop
      have := Nat.Coprime.mul_right h1 h2
      unfold Int.gcd
      rw [Int.natAbs_mul]; exact this
    have fin := Int.dvd_coe_gcd hc ha
    rw [Int.gcd_mul_left, g1, Nat.mul_one] at fin
    exact Int.dvd_natAbs.mp fin
theorem gcds_dvd : ∀ {S : List Int} {D : Int}, gcds D S ∣ D ∧ ∀ s ∈ S, gcds D S ∣ s
  | [], D => ⟨Int.dvd_refl D, fun s h => by cases h⟩
  | s :: ss, D => by
    obtain ⟨h1, h2⟩ := gcds_dvd (S := ss) (D := (Int.gcd D s : Int))
    refine ⟨Int.dvd_trans h1 (Int.gcd_dvd_left ..), fun x hx => ?_⟩
    rcases List.mem_cons.mp hx with e | e
    · rw [e]; exact Int.dvd_trans h1 (Int.gcd_dvd_right ..)
    · exact h2 x e
theorem gcds_nonneg : ∀ {S : List Int} {D : Int}, 0 ≤ D → 0 ≤ gcds D S
  | [], _, h => h
  | s :: ss, D, _ => gcds_nonneg (S := ss) (D := (Int.gcd D s : Int)) (by omega)
/-- the scaled values -/
def scl (qs : List (Int × Int)) (m : Int) : List Int := qs.map fun q => q.1 * (m / q.2) % m
theorem gcds_one {qs : List (Int × Int)} (hq : ∀ q ∈ qs, 0 < q.2 ∧ Int.gcd q.1 q.2 = 1) : gcds (cden qs 1) (scl qs (cden qs 1)) = 1 := by
  have hm := cden_pos (qs := qs) (r := 1) (by decide) (fun q h => (hq q h).1)
  obtain ⟨h1, h2⟩ := gcds_dvd (S := scl qs (cden qs 1)) (D := cden qs 1)
  have h3 := gcds_nonneg (S := scl qs (cden qs 1)) (D := cden qs 1) (by omega)
  have : gcds (cden qs 1) (scl qs (cden qs 1)) ∣ 1 := by
    refine reach_one _ qs rfl hq _ 1 (by rw [Int.one_mul]; exact h1) fun q h => ?_
    rw [Int.one_mul]
    have t := h2 _ (List.mem_map.mpr ⟨q, h, rfl⟩)
    have e := Int.mul_ediv_add_emod (q.1 * (cden qs 1 / q.2)) (cden qs 1)
    rw [← e]
    exact Int.dvd_add (Int.dvd_trans h1 ⟨_, rfl⟩) t
  exact Int.eq_one_of_dvd_one h3 this
/-- the program's answer -/
def sol (qs : List (Int × Int)) (t : Int × Int) : Option (List Int) :=
  if cden qs 1 % t.2 = 0 then some ((reach (cden qs 1) (scl qs (cden qs 1)) 0 (cden qs 1) (List.replicate qs.length 0)).2.map fun e => e * (t.1 * (cden qs 1 / t.2)) % cden qs 1) else none
theorem dot_scale {m T : Int} (S : List Int) : ∀ row : List Int, ∃ c, dot (row.map fun e => e * T % m) S = T * dot row S + m * c := by
  intro row
  obtain ⟨c, h⟩ := dot_map (m := m) (u := T) S row
  refine ⟨c, ?_⟩
  rw [← h]
  congr 1
  exact List.map_congr_left fun e _ => by rw [Int.mul_comm]
theorem sol_fit {qs : List (Int × Int)} {t : Int × Int} {row : List Int} (hq : ∀ q ∈ qs, 0 < q.2 ∧ Int.gcd q.1 q.2 = 1) (h : sol qs t = some row) :
    row.length = qs.length ∧ (∀ e ∈ row, 0 ≤ e ∧ e < cden qs 1) ∧ ∃ c, dot row (qs.map fun q => q.1 * (cden qs 1 / q.2)) = t.1 * (cden qs 1 / t.2) + cden qs 1 * c := by
  have hm := cden_pos (qs := qs) (r := 1) (by decide) (fun q h => (hq q h).1)
  have g1 := gcds_one hq
  unfold sol at h
  split at h
  · cases h
    generalize cden qs 1 = m at *
    have hS : ∀ s ∈ scl qs m, 0 ≤ s := fun s hs => by
      obtain ⟨q, _, rfl⟩ := List.mem_map.mp hs
      exact Int.emod_nonneg _ (by omega)
    have hl : (scl qs m).length = qs.length := by unfold scl; rw [List.length_map]
    have st := RcI.start (S := scl qs m) hm
    rw [hl] at st
    obtain ⟨I, e⟩ := reach_spec (S := scl qs m) (ss := scl qs m) (pre := []) hm rfl hS st
    have I : RcI m (scl qs m) (scl qs m).length (reach m (scl qs m) 0 m (List.replicate qs.length 0)).1 (reach m (scl qs m) 0 m (List.replicate qs.length 0)).2 := I
    have e : (reach m (scl qs m) 0 m (List.replicate qs.length 0)).1 = gcds m (scl qs m) := e
    rw [g1] at e
    generalize reach m (scl qs m) 0 m (List.replicate qs.length 0) = R at *
    obtain ⟨c0, f0⟩ := I.fit
    rw [e] at f0
    obtain ⟨c1, f1⟩ := dot_scale (m := m) (T := t.1 * (m / t.2)) (scl qs m) R.2
    obtain ⟨c2, f2⟩ := dot_congr (m := m) (row := R.2.map fun e => e * (t.1 * (m / t.2)) % m) (A := qs.map fun q => q.1 * (m / q.2)) (S := scl qs m) (by rw [hl, List.length_map]) (fun i a s ha hs => by
      unfold scl at hs
      rw [List.getElem?_map] at ha hs
      cases hq : qs[i]? with
      | none => rw [hq] at ha; cases ha
      | some q =>
        rw [hq] at ha hs
        have ea : q.1 * (m / q.2) = a := Option.some.inj ha
        have es : q.1 * (m / q.2) % m = s := Option.some.inj hs
        rw [← ea, ← es])
    refine ⟨by rw [List.length_map, I.len, hl], fun x hx => ?_, (t.1 * (m / t.2)) * c0 + c1 + c2, ?_⟩
    · obtain ⟨y, _, rfl⟩ := List.mem_map.mp hx
      exact ⟨Int.emod_nonneg _ (by omega), Int.emod_lt_of_pos _ hm⟩
    · rw [f2, f1, f0]; grind
  · cases h
end EP
namespace EP
open PySem PySem.Spec PyProof.Rows L2
def spBez (K : PySem.W.Frag) : Sp := fun vs H Q _ => ∃ a b : Int, vs = [.int a, .int b] ∧ 0 ≤ a ∧ 0 ≤ b ∧ B 4000 a ∧ B 4000 b ∧ ∀ p H', Same H H' → H' p = some (.tup [.int (bz a b).1, .int (bz a b).2.1, .int (bz a b).2.2]) → Q (.ref p) H'
def Seq (K : PySem.W.Frag) (H : Hp) (l : Addr) (xs : List V) : Prop := SqL K H l xs ∨ SqT K H l xs
theorem Seq.same {K : PySem.W.Frag} {H H' : Hp} {l : Addr} {xs : List V} (h : Seq K H l xs) (s : Same H H') : Seq K H' l xs := h.elim (fun h => .inl (Evl.ex_l s h)) (fun h => .inr (Evl.ex_t s h))
def spScaled (K : PySem.W.Frag) : Sp := fun vs H Q _ => ∃ (l : Addr) (m : Int) (xs : List V) (qs : List (Int × Int)), vs = [.ref l, .int m] ∧ Seq K H l xs ∧ Frs K H xs qs ∧ 0 < m ∧ B 4000 m ∧ (∀ q ∈ qs, B 4000 q.1 ∧ B 4000 q.2) ∧ xs.length < 1000 ∧ ∀ p H', Same H H' → H' p = some (.lst ((scl qs m).map V.int)) → Q (.ref p) H'
def spFirst (K : PySem.W.Frag) : Sp := fun vs H Q _ => ∃ (l : Addr) (m : Int) (xs : List V), vs = [.ref l, .int m] ∧ Seq K H l xs ∧ xs.length < 1000 ∧ ∀ p rl H', Same H H' → H' p = some (.tup [.int m, .ref rl]) → H' rl = some (.lst ((List.replicate xs.length (0 : Int)).map V.int)) → Q (.ref p) H'
def spNext (K : PySem.W.Frag) : Sp := fun vs H Q _ => ∃ (p : Addr) (i : Nat) (s m D : Int) (rl : Addr) (row : List Int), vs = [.ref p, .int i, .int s, .int m] ∧ H p = some (.tup [.int D, .ref rl]) ∧ H rl = some (.lst (row.map V.int)) ∧ 0 ≤ D ∧ 0 ≤ s ∧ 0 < m ∧ B 4000 D ∧ B 4000 s ∧ B 4000 m ∧ i < row.length ∧ row.length < 1000 ∧ (∀ e ∈ row, 0 ≤ e ∧ e < m) ∧
  ∀ p' rl' H', Same H H' → H' p' = some (.tup [.int (bz D s).1, .ref rl']) → H' rl' = some (.lst ((nrow m D s i row).map V.int)) → Q (.ref p') H'
def SolV (H : Hp) (v : V) : Option (List Int) → Prop
  | none => v = .non
  | some row => ∃ p, v = .ref p ∧ H p = some (.lst (row.map V.int))
def spSol (K : PySem.W.Frag) : Sp := fun vs H Q _ => ∃ (l : Addr) (t : V) (xs : List V) (qs : List (Int × Int)) (t0 t1 : Int) (k : Nat), vs = [.ref l, t] ∧ Seq K H l xs ∧ Frs K H xs qs ∧ Fr K H t t0 t1 ∧ 0 < t1 ∧ B 1000 t0 ∧ B 1000 t1 ∧ (∀ q ∈ qs, B k q.1 ∧ B k q.2) ∧ 0 < k ∧ k * qs.length ≤ 2000 ∧ xs.length < 1000 ∧
  ∀ v H', Same H H' → SolV H' v (sol qs (t0, t1)) → Q v H'
theorem cden_B {k : Nat} : ∀ {qs : List (Int × Int)} {r : Int} {n : Nat}, 0 < r → B n r → (∀ q ∈ qs, 0 < q.2 ∧ B k q.2) → B (n + k * qs.length) (cden qs r)
  | [], r, n, _, b, _ => b
  | q :: qs, r, n, h, b, hq => by
    obtain ⟨p, bq⟩ := hq q (List.mem_cons_self ..)
    have := cden_B (qs := qs) (n := n + k) (lstep_pos h p) ((b.mul bq).le (lstep_le h p)) fun q' h' => hq q' (List.mem_cons_of_mem _ h')
    rw [List.length_cons, Nat.mul_add, Nat.mul_one]
    rw [show n + (k * qs.length + k) = n + k + k * qs.length by omega]
    exact this
/-! sums of fractions -/
def radd (p q : Int × Int) : Int × Int := (rn (p.1 * q.2 + q.1 * p.2) (p.2 * q.2), rd (p.1 * q.2 + q.1 * p.2) (p.2 * q.2))
def spSum (K : PySem.W.Frag) : Sp := fun vs H Q _ => ∃ (l : Addr) (xs : List V) (qs : List (Int × Int)) (k : Nat), vs = [.ref l] ∧ SqL K H l xs ∧ Frs K H xs qs ∧ (∀ q ∈ qs, B k q.1 ∧ B k q.2) ∧ (k + 1) * (qs.length + 1) ≤ 1900 ∧ ∀ v H', Same H H' → Fr K H' v (qs.foldl radd (0, 1)).1 (qs.foldl radd (0, 1)).2 → Q v H'
theorem sum_ok {k : Nat} : ∀ {qs : List (Int × Int)} {p : Int × Int} {n : Nat}, 0 < p.2 → B n p.1 → B n p.2 → Int.gcd p.1 p.2 = 1 → (∀ q ∈ qs, 0 < q.2 ∧ B k q.1 ∧ B k q.2) → 0 < (qs.foldl radd p).2 ∧ B (n + (k + 1) * qs.length) (qs.foldl radd p).1 ∧ B (n + (k + 1) * qs.length) (qs.foldl radd p).2 ∧ Int.gcd (qs.foldl radd p).1 (qs.foldl radd p).2 = 1
  | [], p, n, h, b1, b2, g, _ => ⟨h, b1, b2, g⟩
  | q :: qs, p, n, h, b1, b2, _, hq => by
    obtain ⟨pq, c1, c2⟩ := hq q (List.mem_cons_self ..)
    have hne : p.2 * q.2 ≠ 0 := Int.ne_of_gt (Int.mul_pos h pq)
    have := sum_ok (qs := qs) (p := radd p q) (n := n + (k + 1)) (rd_pos hne) (((b1.mul c2).add ((c1.mul b2).mono (by omega))).rn hne) (((b2.mul c2).mono (by omega)).rd hne) (gcd_red hne) fun q' h' => hq q' (List.mem_cons_of_mem _ h')
    rw [List.length_cons, Nat.mul_add, Nat.mul_one]
    rw [show n + ((k + 1) * qs.length + (k + 1)) = n + (k + 1) + (k + 1) * qs.length by omega]
    exact this
theorem sum_rv {M : Int} : ∀ {qs : List (Int × Int)} {p : Int × Int} {x : Int} {ys : List Int}, p.2 ≠ 0 → (∀ q ∈ qs, 0 < q.2) → Rv p.1 p.2 x M → qs.length = ys.length → (∀ (i : Nat) (q : Int × Int) (y : Int), qs[i]? = some q → ys[i]? = some y → Rv q.1 q.2 y M) → Rv (qs.foldl radd p).1 (qs.foldl radd p).2 (x + ys.sum) M
  | [], p, x, [], _, _, h, _, _ => by rw [List.sum_nil, Int.add_zero]; exact h
  | [], p, x, y :: ys, _, _, _, e, _ => by simp at e
  | q :: qs, p, x, [], _, _, _, e, _ => by simp at e
  | q :: qs, p, x, y :: ys, hp, hq, h, e, hy => by
    have pq := hq q (List.mem_cons_self ..)
    have hne : p.2 * q.2 ≠ 0 := Int.mul_ne_zero hp (by omega)
    have h1 := hy 0 q y rfl rfl
    have h2 : Rv (radd p q).1 (radd p q).2 (x + y) M := Rv.red hne (h.add h1)
    have := sum_rv (qs := qs) (p := radd p q) (x := x + y) (ys := ys) (Int.ne_of_gt (rd_pos hne)) (fun q' h' => hq q' (List.mem_cons_of_mem _ h')) h2 (by simpa using e) (fun i q' y' a b => hy (i + 1) q' y' a b)
    rw [List.sum_cons, ← Int.add_assoc]; exact this
end EP
namespace EP
open PySem PySem.Spec PyProof.Rows L2
theorem flat_rep {v : V} : ∀ n : Nat, (List.replicate n [v]).flatten = List.replicate n v
  | 0 => rfl
  | n + 1 => by rw [List.replicate_succ, List.flatten_cons, flat_rep n]; rfl
end EP
namespace EP
open PySem PySem.Spec PyProof.Rows L2
def ddq (qs : List (Int × Int)) : List PyData := qs.map fun q => .tuple [.int q.1, .int q.2]
def ddi (row : List Int) : List PyData := row.map .int
theorem Frs.dp {K : PySem.W.Frag} {H : Hp} : ∀ {vs : List V} {qs : List (Int × Int)}, Frs K H vs qs → DpAll K H vs (ddq qs)
  | _, _, .nil => .nil
  | _, _, .cons ⟨p, e, h⟩ _ r => by subst e; exact .cons (.tup h (.cons (.int _) (.cons (.int _) .nil))) r.dp
theorem dp_ints {K : PySem.W.Frag} {H : Hp} : ∀ row : List Int, DpAll K H (row.map V.int) (ddi row)
  | [] => .nil
  | x :: xs => .cons (.int x) (dp_ints xs)
theorem layq : ∀ qs : List (Int × Int), PyData.canLayAll0 (ddq qs) = true
  | [] => by unfold ddq; simp [PyData.canLayAll0]
  | q :: qs => by
    have := layq qs
    unfold ddq at *
    simp only [List.map_cons, PyData.canLayAll0, PyData.canLay0, Bool.and_true, Bool.true_and]; exact this
theorem layi : ∀ row : List Int, PyData.canLayAll0 (ddi row) = true
  | [] => by unfold ddi; simp [PyData.canLayAll0]
  | q :: qs => by
    have := layi qs
    unfold ddi at *
    simp only [List.map_cons, PyData.canLayAll0, PyData.canLay0, Bool.true_and]; exact this
theorem depq : ∀ qs : List (Int × Int), PyData.depthAll (ddq qs) ≤ 5
  | [] => by unfold ddq; simp [PyData.depthAll]
  | q :: qs => by
    have := depq qs
    unfold ddq at *
    simp only [List.map_cons, PyData.depthAll, PyData.depth]; omega
theorem depi : ∀ row : List Int, PyData.depthAll (ddi row) ≤ 5
  | [] => by unfold ddi; simp [PyData.depthAll]
  | q :: qs => by
    have := depi qs
    unfold ddi at *
    simp only [List.map_cons, PyData.depthAll, PyData.depth]; omega
theorem shq (qs : List (Int × Int)) : SeqAt.shaped (.list (ddq qs)) = true := by
  unfold SeqAt.shaped
  rw [Bool.and_eq_true]
  refine ⟨?_, decide_eq_true ?_⟩
  · simp only [PyData.canLay0]; exact layq qs
  · simp only [PyData.depth]; have := depq qs; omega
theorem shi (row : List Int) : SeqAt.shaped (.list (ddi row)) = true := by
  unfold SeqAt.shaped
  rw [Bool.and_eq_true]
  refine ⟨?_, decide_eq_true ?_⟩
  · simp only [PyData.canLay0]; exact layi row
  · simp only [PyData.depth]; have := depi row; omega
theorem shn : SeqAt.shaped .none = true := by unfold SeqAt.shaped; simp [PyData.canLay0, PyData.depth]
theorem eqv_self {d : PyData} (h : SeqAt.shaped d = true) : PyData.eqv d d = true := SeqAt.eqv_refl d (SeqAt.canLay_of_shaped h)
/-- the answer as data -/
def dsol : Option (List Int) → PyData
  | none => .none
  | some row => .list (ddi row)
theorem SolV.dp {K : PySem.W.Frag} {H : Hp} {v : V} : ∀ {o : Option (List Int)}, SolV H v o → Dp K H v (dsol o)
  | none, h => by cases h; exact .non
  | some row, ⟨p, e, h⟩ => by subst e; exact .lst (.inl (.inl h)) (dp_ints row)
theorem SolV.same {H H' : Hp} (s : Same H H') {v : V} : ∀ {o : Option (List Int)}, SolV H v o → SolV H' v o
  | none, h => h
  | some row, ⟨p, e, h⟩ => ⟨p, e, s _ _ h⟩
theorem shsol : ∀ o : Option (List Int), SeqAt.shaped (dsol o) = true
  | none => shn
  | some row => shi row
theorem rd_whole {a b c d x y M k : Int} (hb : b ≠ 0) (hd : d ≠ 0) (hM : M ≠ 0) (h1 : Rv a b x M) (h2 : Rv c d y M) (h : x - y = M * k) : rd (a * d - c * b) (b * d) = 1 := by
  have e := h1.sub h2
  refine rd_one (Int.mul_ne_zero hb hd) ⟨k, ?_⟩
  refine Int.eq_of_mul_eq_mul_right hM ?_
  rw [e, h]; grind
end EP
namespace EP
theorem dot_zip {g : Int × Int → Int} : ∀ (row : List Int) (qs : List (Int × Int)), dot row (qs.map g) = (List.zipWith (fun k q => k * g q) row qs).sum
  | [], qs => by cases qs <;> rfl
  | k :: row, [] => rfl
  | k :: row, q :: qs => by
    show k * g q + dot row (qs.map g) = _
    rw [dot_zip row qs, List.zipWith_cons_cons, List.sum_cons]
end EP
namespace EP
open PySem PySem.Spec PyProof.Rows L2
def topS (i : Nat) : Stmt := PySem.Challenge.pw_evenpace_k05_solutions_of_congruences.main.body.getD i (.Pass ⟨0, 0, 0, 0⟩)
abbrev s_gcd : Stmt := topS 1
abbrev N_gcd : List Str := ["one", "other"]
abbrev Ps_gcd : List Str := ["one", "other"]
theorem sc_gcd : FnScope N_gcd Ps_gcd (defScope s_gcd) := ⟨rfl, rfl, rfl, by decide +kernel, rfl, by decide +kernel, by decide +kernel⟩
abbrev s_bezout : Stmt := topS 3
abbrev N_bezout : List Str := ["one", "other", "u", "later_u", "w", "later_w", "turns"]
abbrev Ps_bezout : List Str := ["one", "other"]
theorem sc_bezout : FnScope N_bezout Ps_bezout (defScope s_bezout) := ⟨rfl, rfl, rfl, by decide +kernel, rfl, by decide +kernel, by decide +kernel⟩
abbrev s_common_denominator : Stmt := topS 4
abbrev N_common_denominator : List Str := ["values", "result", "value"]
abbrev Ps_common_denominator : List Str := ["values"]
theorem sc_common_denominator : FnScope N_common_denominator Ps_common_denominator (defScope s_common_denominator) := ⟨rfl, rfl, rfl, by decide +kernel, rfl, by decide +kernel, by decide +kernel⟩
abbrev s_whole : Stmt := topS 5
abbrev N_whole : List Str := ["value", "common"]
abbrev Ps_whole : List Str := ["value", "common"]
theorem sc_whole : FnScope N_whole Ps_whole (defScope s_whole) := ⟨rfl, rfl, rfl, by decide +kernel, rfl, by decide +kernel, by decide +kernel⟩
abbrev s_scaled_values : Stmt := topS 6
abbrev N_scaled_values : List Str := ["values", "modulus", "value"]
abbrev Ps_scaled_values : List Str := ["values", "modulus"]
theorem sc_scaled_values : FnScope N_scaled_values Ps_scaled_values (defScope s_scaled_values) := ⟨rfl, rfl, rfl, by decide +kernel, rfl, by decide +kernel, by decide +kernel⟩
abbrev s_first_reach : Stmt := topS 7
abbrev N_first_reach : List Str := ["values", "modulus"]
abbrev Ps_first_reach : List Str := ["values", "modulus"]
theorem sc_first_reach : FnScope N_first_reach Ps_first_reach (defScope s_first_reach) := ⟨rfl, rfl, rfl, by decide +kernel, rfl, by decide +kernel, by decide +kernel⟩
abbrev s_next_reach : Stmt := topS 8
abbrev N_next_reach : List Str := ["reach", "at", "scaled", "modulus", "divisor", "row", "shared", "old", "new", "result", "entry"]
abbrev Ps_next_reach : List Str := ["reach", "at", "scaled", "modulus"]
theorem sc_next_reach : FnScope N_next_reach Ps_next_reach (defScope s_next_reach) := ⟨rfl, rfl, rfl, by decide +kernel, rfl, by decide +kernel, by decide +kernel⟩
abbrev s_congruence_solution : Stmt := topS 9
abbrev N_congruence_solution : List Str := ["values", "target", "modulus", "reach", "at", "scaled", "times", "entry"]
abbrev Ps_congruence_solution : List Str := ["values", "target"]
theorem sc_congruence_solution : FnScope N_congruence_solution Ps_congruence_solution (defScope s_congruence_solution) := ⟨rfl, rfl, rfl, by decide +kernel, rfl, by decide +kernel, by decide +kernel⟩
abbrev s_l_source : Stmt := topS 11
abbrev N_l_source : List Str := ["_law_script", "_law_seed", "_law_cell"]
abbrev Ps_l_source : List Str := ["_law_script"]
theorem sc_l_source : FnScope N_l_source Ps_l_source (defScope s_l_source) := ⟨rfl, rfl, rfl, by decide +kernel, rfl, by decide +kernel, by decide +kernel⟩
abbrev s_l_draw : Stmt := topS 12
abbrev N_l_draw : List Str := ["_law_rng", "_law_many", "_law_cell", "_law_got", "_law_seed"]
abbrev Ps_l_draw : List Str := ["_law_rng", "_law_many"]
theorem sc_l_draw : FnScope N_l_draw Ps_l_draw (defScope s_l_draw) := ⟨rfl, rfl, rfl, by decide +kernel, rfl, by decide +kernel, by decide +kernel⟩
abbrev s_l_choice : Stmt := topS 13
abbrev N_l_choice : List Str := ["_law_rng", "_law_some"]
abbrev Ps_l_choice : List Str := ["_law_rng", "_law_some"]
theorem sc_l_choice : FnScope N_l_choice Ps_l_choice (defScope s_l_choice) := ⟨rfl, rfl, rfl, by decide +kernel, rfl, by decide +kernel, by decide +kernel⟩
abbrev s_l_divisor : Stmt := topS 14
abbrev N_l_divisor : List Str := ["_law_one", "_law_other"]
abbrev Ps_l_divisor : List Str := ["_law_one", "_law_other"]
theorem sc_l_divisor : FnScope N_l_divisor Ps_l_divisor (defScope s_l_divisor) := ⟨rfl, rfl, rfl, by decide +kernel, rfl, by decide +kernel, by decide +kernel⟩
abbrev s_l_reduce : Stmt := topS 15
abbrev N_l_reduce : List Str := ["_law_num", "_law_den", "_law_by", "_law_sign"]
abbrev Ps_l_reduce : List Str := ["_law_num", "_law_den"]
theorem sc_l_reduce : FnScope N_l_reduce Ps_l_reduce (defScope s_l_reduce) := ⟨rfl, rfl, rfl, by decide +kernel, rfl, by decide +kernel, by decide +kernel⟩
abbrev s_l_add : Stmt := topS 16
abbrev N_l_add : List Str := ["_law_one", "_law_other"]
abbrev Ps_l_add : List Str := ["_law_one", "_law_other"]
theorem sc_l_add : FnScope N_l_add Ps_l_add (defScope s_l_add) := ⟨rfl, rfl, rfl, by decide +kernel, rfl, by decide +kernel, by decide +kernel⟩
abbrev s_l_subtract : Stmt := topS 17
abbrev N_l_subtract : List Str := ["_law_one", "_law_other"]
abbrev Ps_l_subtract : List Str := ["_law_one", "_law_other"]
theorem sc_l_subtract : FnScope N_l_subtract Ps_l_subtract (defScope s_l_subtract) := ⟨rfl, rfl, rfl, by decide +kernel, rfl, by decide +kernel, by decide +kernel⟩
abbrev s_l_times : Stmt := topS 18
abbrev N_l_times : List Str := ["_law_number", "_law_one"]
abbrev Ps_l_times : List Str := ["_law_number", "_law_one"]
theorem sc_l_times : FnScope N_l_times Ps_l_times (defScope s_l_times) := ⟨rfl, rfl, rfl, by decide +kernel, rfl, by decide +kernel, by decide +kernel⟩
abbrev s_l_sum : Stmt := topS 19
abbrev N_l_sum : List Str := ["_law_some", "_law_result", "_law_one"]
abbrev Ps_l_sum : List Str := ["_law_some"]
theorem sc_l_sum : FnScope N_l_sum Ps_l_sum (defScope s_l_sum) := ⟨rfl, rfl, rfl, by decide +kernel, rfl, by decide +kernel, by decide +kernel⟩
abbrev s_l_small : Stmt := topS 20
abbrev N_l_small : List Str := ["_law_rng"]
abbrev Ps_l_small : List Str := ["_law_rng"]
theorem sc_l_small : FnScope N_l_small Ps_l_small (defScope s_l_small) := ⟨rfl, rfl, rfl, by decide +kernel, rfl, by decide +kernel, by decide +kernel⟩
abbrev s_law : Stmt := topS 21
abbrev N_law : List Str := ["_law_script", "_law_rng", "_law_turn", "_law_values", "_law_k", "_law_whole", "_law_value", "_law_target", "_law_kept", "_law_row", "_law_there", "_law_found", "_law_one"]
abbrev Ps_law : List Str := ["_law_script"]
theorem sc_law : FnScope N_law Ps_law (defScope s_law) := ⟨rfl, rfl, rfl, by decide +kernel, rfl, by decide +kernel, by decide +kernel⟩
structure DefT (K : PySem.W.Frag) (mg : Str → Option Value) (n : Str) (s : Stmt) (ps : List Str) where
  f : Addr
  d : FuncData
  F : Fun K n n s f d
  b : Binds K d ps []
  g : mg n = some (.ref f)
set_option maxHeartbeats 8000000 in
structure Txt (K : PySem.W.Frag) (mg : Str → Option Value) where
  D_gcd : DefT K mg "gcd" s_gcd Ps_gcd
  D_bezout : DefT K mg "bezout" s_bezout Ps_bezout
  D_common_denominator : DefT K mg "common_denominator" s_common_denominator Ps_common_denominator
  D_whole : DefT K mg "whole" s_whole Ps_whole
  D_scaled_values : DefT K mg "scaled_values" s_scaled_values Ps_scaled_values
  D_first_reach : DefT K mg "first_reach" s_first_reach Ps_first_reach
  D_next_reach : DefT K mg "next_reach" s_next_reach Ps_next_reach
  D_congruence_solution : DefT K mg "congruence_solution" s_congruence_solution Ps_congruence_solution
  D_l_source : DefT K mg "_law_source" s_l_source Ps_l_source
  D_l_draw : DefT K mg "_law_draw" s_l_draw Ps_l_draw
  D_l_choice : DefT K mg "_law_choice" s_l_choice Ps_l_choice
  D_l_divisor : DefT K mg "_law_divisor" s_l_divisor Ps_l_divisor
  D_l_reduce : DefT K mg "_law_reduce" s_l_reduce Ps_l_reduce
  D_l_add : DefT K mg "_law_add" s_l_add Ps_l_add
  D_l_subtract : DefT K mg "_law_subtract" s_l_subtract Ps_l_subtract
  D_l_times : DefT K mg "_law_times" s_l_times Ps_l_times
  D_l_sum : DefT K mg "_law_sum" s_l_sum Ps_l_sum
  D_l_small : DefT K mg "_law_small" s_l_small Ps_l_small
  D_law : DefT K mg "law" s_law Ps_law
  m_abs : mg "abs" = none
  m_len : mg "len" = none
  m_enumerate : mg "enumerate" = none
  m_list : mg "list" = none
  m_range : mg "range" = none
  m_tuple : mg "tuple" = none
  m_isinstance : mg "isinstance" = none
  m_all : mg "all" = none
  m_zip : mg "zip" = none
  m_int : mg "int" = none
  m_bool : mg "bool" = none
abbrev Txt.f_gcd {K : PySem.W.Frag} {mg : Str → Option Value} (T : Txt K mg) := T.D_gcd.f
abbrev Txt.d_gcd {K : PySem.W.Frag} {mg : Str → Option Value} (T : Txt K mg) := T.D_gcd.d
abbrev Txt.F_gcd {K : PySem.W.Frag} {mg : Str → Option Value} (T : Txt K mg) := T.D_gcd.F
abbrev Txt.b_gcd {K : PySem.W.Frag} {mg : Str → Option Value} (T : Txt K mg) := T.D_gcd.b
abbrev Txt.g_gcd {K : PySem.W.Frag} {mg : Str → Option Value} (T : Txt K mg) := T.D_gcd.g
abbrev Txt.f_bezout {K : PySem.W.Frag} {mg : Str → Option Value} (T : Txt K mg) := T.D_bezout.f
abbrev Txt.d_bezout {K : PySem.W.Frag} {mg : Str → Option Value} (T : Txt K mg) := T.D_bezout.d
abbrev Txt.F_bezout {K : PySem.W.Frag} {mg : Str → Option Value} (T : Txt K mg) := T.D_bezout.F
abbrev Txt.b_bezout {K : PySem.W.Frag} {mg : Str → Option Value} (T : Txt K mg) := T.D_bezout.b
abbrev Txt.g_bezout {K : PySem.W.Frag} {mg : Str → Option Value} (T : Txt K mg) := T.D_bezout.g
abbrev Txt.f_common_denominator {K : PySem.W.Frag} {mg : Str → Option Value} (T : Txt K mg) := T.D_common_denominator.f
abbrev Txt.d_common_denominator {K : PySem.W.Frag} {mg : Str → Option Value} (T : Txt K mg) := T.D_common_denominator.d
abbrev Txt.F_common_denominator {K : PySem.W.Frag} {mg : Str → Option Value} (T : Txt K mg) := T.D_common_denominator.F
abbrev Txt.b_common_denominator {K : PySem.W.Frag} {mg : Str → Option Value} (T : Txt K mg) := T.D_common_denominator.b
abbrev Txt.g_common_denominator {K : PySem.W.Frag} {mg : Str → Option Value} (T : Txt K mg) := T.D_common_denominator.g
abbrev Txt.f_whole {K : PySem.W.Frag} {mg : Str → Option Value} (T : Txt K mg) := T.D_whole.f
abbrev Txt.d_whole {K : PySem.W.Frag} {mg : Str → Option Value} (T : Txt K mg) := T.D_whole.d
abbrev Txt.F_whole {K : PySem.W.Frag} {mg : Str → Option Value} (T : Txt K mg) := T.D_whole.F
abbrev Txt.b_whole {K : PySem.W.Frag} {mg : Str → Option Value} (T : Txt K mg) := T.D_whole.b
abbrev Txt.g_whole {K : PySem.W.Frag} {mg : Str → Option Value} (T : Txt K mg) := T.D_whole.g
abbrev Txt.f_scaled_values {K : PySem.W.Frag} {mg : Str → Option Value} (T : Txt K mg) := T.D_scaled_values.f
abbrev Txt.d_scaled_values {K : PySem.W.Frag} {mg : Str → Option Value} (T : Txt K mg) := T.D_scaled_values.d
abbrev Txt.F_scaled_values {K : PySem.W.Frag} {mg : Str → Option Value} (T : Txt K mg) := T.D_scaled_values.F
abbrev Txt.b_scaled_values {K : PySem.W.Frag} {mg : Str → Option Value} (T : Txt K mg) := T.D_scaled_values.b
abbrev Txt.g_scaled_values {K : PySem.W.Frag} {mg : Str → Option Value} (T : Txt K mg) := T.D_scaled_values.g
abbrev Txt.f_first_reach {K : PySem.W.Frag} {mg : Str → Option Value} (T : Txt K mg) := T.D_first_reach.f
abbrev Txt.d_first_reach {K : PySem.W.Frag} {mg : Str → Option Value} (T : Txt K mg) := T.D_first_reach.d
abbrev Txt.F_first_reach {K : PySem.W.Frag} {mg : Str → Option Value} (T : Txt K mg) := T.D_first_reach.F
abbrev Txt.b_first_reach {K : PySem.W.Frag} {mg : Str → Option Value} (T : Txt K mg) := T.D_first_reach.b
abbrev Txt.g_first_reach {K : PySem.W.Frag} {mg : Str → Option Value} (T : Txt K mg) := T.D_first_reach.g
abbrev Txt.f_next_reach {K : PySem.W.Frag} {mg : Str → Option Value} (T : Txt K mg) := T.D_next_reach.f
abbrev Txt.d_next_reach {K : PySem.W.Frag} {mg : Str → Option Value} (T : Txt K mg) := T.D_next_reach.d
abbrev Txt.F_next_reach {K : PySem.W.Frag} {mg : Str → Option Value} (T : Txt K mg) := T.D_next_reach.F
abbrev Txt.b_next_reach {K : PySem.W.Frag} {mg : Str → Option Value} (T : Txt K mg) := T.D_next_reach.b
abbrev Txt.g_next_reach {K : PySem.W.Frag} {mg : Str → Option Value} (T : Txt K mg) := T.D_next_reach.g
abbrev Txt.f_congruence_solution {K : PySem.W.Frag} {mg : Str → Option Value} (T : Txt K mg) := T.D_congruence_solution.f
abbrev Txt.d_congruence_solution {K : PySem.W.Frag} {mg : Str → Option Value} (T : Txt K mg) := T.D_congruence_solution.d
abbrev Txt.F_congruence_solution {K : PySem.W.Frag} {mg : Str → Option Value} (T : Txt K mg) := T.D_congruence_solution.F
abbrev Txt.b_congruence_solution {K : PySem.W.Frag} {mg : Str → Option Value} (T : Txt K mg) := T.D_congruence_solution.b
abbrev Txt.g_congruence_solution {K : PySem.W.Frag} {mg : Str → Option Value} (T : Txt K mg) := T.D_congruence_solution.g
abbrev Txt.f_l_source {K : PySem.W.Frag} {mg : Str → Option Value} (T : Txt K mg) := T.D_l_source.f
abbrev Txt.d_l_source {K : PySem.W.Frag} {mg : Str → Option Value} (T : Txt K mg) := T.D_l_source.d
abbrev Txt.F_l_source {K : PySem.W.Frag} {mg : Str → Option Value} (T : Txt K mg) := T.D_l_source.F
abbrev Txt.b_l_source {K : PySem.W.Frag} {mg : Str → Option Value} (T : Txt K mg) := T.D_l_source.b
abbrev Txt.g_l_source {K : PySem.W.Frag} {mg : Str → Option Value} (T : Txt K mg) := T.D_l_source.g
abbrev Txt.f_l_draw {K : PySem.W.Frag} {mg : Str → Option Value} (T : Txt K mg) := T.D_l_draw.f
abbrev Txt.d_l_draw {K : PySem.W.Frag} {mg : Str → Option Value} (T : Txt K mg) := T.D_l_draw.d
abbrev Txt.F_l_draw {K : PySem.W.Frag} {mg : Str → Option Value} (T : Txt K mg) := T.D_l_draw.F
abbrev Txt.b_l_draw {K : PySem.W.Frag} {mg : Str → Option Value} (T : Txt K mg) := T.D_l_draw.b
abbrev Txt.g_l_draw {K : PySem.W.Frag} {mg : Str → Option Value} (T : Txt K mg) := T.D_l_draw.g
abbrev Txt.f_l_choice {K : PySem.W.Frag} {mg : Str → Option Value} (T : Txt K mg) := T.D_l_choice.f
abbrev Txt.d_l_choice {K : PySem.W.Frag} {mg : Str → Option Value} (T : Txt K mg) := T.D_l_choice.d
abbrev Txt.F_l_choice {K : PySem.W.Frag} {mg : Str → Option Value} (T : Txt K mg) := T.D_l_choice.F
abbrev Txt.b_l_choice {K : PySem.W.Frag} {mg : Str → Option Value} (T : Txt K mg) := T.D_l_choice.b
abbrev Txt.g_l_choice {K : PySem.W.Frag} {mg : Str → Option Value} (T : Txt K mg) := T.D_l_choice.g
abbrev Txt.f_l_divisor {K : PySem.W.Frag} {mg : Str → Option Value} (T : Txt K mg) := T.D_l_divisor.f
abbrev Txt.d_l_divisor {K : PySem.W.Frag} {mg : Str → Option Value} (T : Txt K mg) := T.D_l_divisor.d
abbrev Txt.F_l_divisor {K : PySem.W.Frag} {mg : Str → Option Value} (T : Txt K mg) := T.D_l_divisor.F
abbrev Txt.b_l_divisor {K : PySem.W.Frag} {mg : Str → Option Value} (T : Txt K mg) := T.D_l_divisor.b
abbrev Txt.g_l_divisor {K : PySem.W.Frag} {mg : Str → Option Value} (T : Txt K mg) := T.D_l_divisor.g
abbrev Txt.f_l_reduce {K : PySem.W.Frag} {mg : Str → Option Value} (T : Txt K mg) := T.D_l_reduce.f
abbrev Txt.d_l_reduce {K : PySem.W.Frag} {mg : Str → Option Value} (T : Txt K mg) := T.D_l_reduce.d
abbrev Txt.F_l_reduce {K : PySem.W.Frag} {mg : Str → Option Value} (T : Txt K mg) := T.D_l_reduce.F
abbrev Txt.b_l_reduce {K : PySem.W.Frag} {mg : Str → Option Value} (T : Txt K mg) := T.D_l_reduce.b
abbrev Txt.g_l_reduce {K : PySem.W.Frag} {mg : Str → Option Value} (T : Txt K mg) := T.D_l_reduce.g
abbrev Txt.f_l_add {K : PySem.W.Frag} {mg : Str → Option Value} (T : Txt K mg) := T.D_l_add.f
abbrev Txt.d_l_add {K : PySem.W.Frag} {mg : Str → Option Value} (T : Txt K mg) := T.D_l_add.d
abbrev Txt.F_l_add {K : PySem.W.Frag} {mg : Str → Option Value} (T : Txt K mg) := T.D_l_add.F
abbrev Txt.b_l_add {K : PySem.W.Frag} {mg : Str → Option Value} (T : Txt K mg) := T.D_l_add.b
abbrev Txt.g_l_add {K : PySem.W.Frag} {mg : Str → Option Value} (T : Txt K mg) := T.D_l_add.g
abbrev Txt.f_l_subtract {K : PySem.W.Frag} {mg : Str → Option Value} (T : Txt K mg) := T.D_l_subtract.f
abbrev Txt.d_l_subtract {K : PySem.W.Frag} {mg : Str → Option Value} (T : Txt K mg) := T.D_l_subtract.d
abbrev Txt.F_l_subtract {K : PySem.W.Frag} {mg : Str → Option Value} (T : Txt K mg) := T.D_l_subtract.F
abbrev Txt.b_l_subtract {K : PySem.W.Frag} {mg : Str → Option Value} (T : Txt K mg) := T.D_l_subtract.b
abbrev Txt.g_l_subtract {K : PySem.W.Frag} {mg : Str → Option Value} (T : Txt K mg) := T.D_l_subtract.g
abbrev Txt.f_l_times {K : PySem.W.Frag} {mg : Str → Option Value} (T : Txt K mg) := T.D_l_times.f
abbrev Txt.d_l_times {K : PySem.W.Frag} {mg : Str → Option Value} (T : Txt K mg) := T.D_l_times.d
abbrev Txt.F_l_times {K : PySem.W.Frag} {mg : Str → Option Value} (T : Txt K mg) := T.D_l_times.F
abbrev Txt.b_l_times {K : PySem.W.Frag} {mg : Str → Option Value} (T : Txt K mg) := T.D_l_times.b
abbrev Txt.g_l_times {K : PySem.W.Frag} {mg : Str → Option Value} (T : Txt K mg) := T.D_l_times.g
abbrev Txt.f_l_sum {K : PySem.W.Frag} {mg : Str → Option Value} (T : Txt K mg) := T.D_l_sum.f
abbrev Txt.d_l_sum {K : PySem.W.Frag} {mg : Str → Option Value} (T : Txt K mg) := T.D_l_sum.d
abbrev Txt.F_l_sum {K : PySem.W.Frag} {mg : Str → Option Value} (T : Txt K mg) := T.D_l_sum.F
abbrev Txt.b_l_sum {K : PySem.W.Frag} {mg : Str → Option Value} (T : Txt K mg) := T.D_l_sum.b
abbrev Txt.g_l_sum {K : PySem.W.Frag} {mg : Str → Option Value} (T : Txt K mg) := T.D_l_sum.g
abbrev Txt.f_l_small {K : PySem.W.Frag} {mg : Str → Option Value} (T : Txt K mg) := T.D_l_small.f
abbrev Txt.d_l_small {K : PySem.W.Frag} {mg : Str → Option Value} (T : Txt K mg) := T.D_l_small.d
abbrev Txt.F_l_small {K : PySem.W.Frag} {mg : Str → Option Value} (T : Txt K mg) := T.D_l_small.F
abbrev Txt.b_l_small {K : PySem.W.Frag} {mg : Str → Option Value} (T : Txt K mg) := T.D_l_small.b
abbrev Txt.g_l_small {K : PySem.W.Frag} {mg : Str → Option Value} (T : Txt K mg) := T.D_l_small.g
abbrev Txt.f_law {K : PySem.W.Frag} {mg : Str → Option Value} (T : Txt K mg) := T.D_law.f
abbrev Txt.d_law {K : PySem.W.Frag} {mg : Str → Option Value} (T : Txt K mg) := T.D_law.d
abbrev Txt.F_law {K : PySem.W.Frag} {mg : Str → Option Value} (T : Txt K mg) := T.D_law.F
abbrev Txt.b_law {K : PySem.W.Frag} {mg : Str → Option Value} (T : Txt K mg) := T.D_law.b
abbrev Txt.g_law {K : PySem.W.Frag} {mg : Str → Option Value} (T : Txt K mg) := T.D_law.g
section
variable {P : Program} {w : World} {K : PySem.W.Frag} {mg : Str → Option Value} {base : Heap}
theorem ok_gcd (T : Txt K mg) : FnOk P w K mg base CX0 1 T.f_gcd T.d_gcd Ps_gcd spGcd := by
  refine T.F_gcd.ok sc_gcd (fun vs H Q E h => ?_) (fun cdv A outer s H vs Q E hr h => ?_)
  · obtain ⟨a, b, rfl, _⟩ := h; rfl
  · obtain ⟨a, b, rfl, q⟩ := h
    refine ⟨_, (pss_cons (ps_par (i := 0) (j := 1) (by rfl) sc_gcd.nd rfl rfl (by decide) rfl rfl (pa_cons (pe_callB call_abs (by rfl) T.m_abs (by decide +kernel) (pa_cons (pv 0) pa_nil)) (pa_cons (pe_callB call_abs (by rfl) T.m_abs (by decide +kernel) (pa_cons (pv 1) pa_nil)) pa_nil)) (by rfl))
      (pss_cons (ps_while PassesOwn.never (pt_cmpR op_ne (pv 1) pe_int (nomark _)) (pss_one (ps_par (i := 0) (j := 1) (by rfl) sc_gcd.nd rfl rfl (by decide) rfl rfl (pa_cons (pv 1) (pa_cons (pe_op op_mod (pv 0) (pv 1)) pa_nil)) (by rfl))))
      (pss_one (ps_ret (pv 0))))), ?_⟩
    refine ⟨.int a, rfl, a, rfl, .int b, rfl, b, rfl, _, _, rfl, ?_⟩
    refine while_by (fun σ H' => H' = H ∧ ∃ x y : Int, σ = [some (.int x), some (.int y)] ∧ 0 ≤ x ∧ 0 ≤ y ∧ Int.gcd x y = Int.gcd a b) (fun σ _ => match σ with | [_, some (.int y)] => y.toNat | _ => 0) ?_ ?_ (fun σ H Q Q' h ⟨v, e, s, k, ek, q⟩ => ⟨v, e, s, k, ek, h _ _ q⟩)
    · refine ⟨rfl, _, _, rfl, ?_, ?_, ?_⟩
      · rw [abs_nat]; omega
      · rw [abs_nat]; omega
      · rw [abs_nat, abs_nat]; unfold Int.gcd; simp only [Int.natAbs_natCast]
    · rintro σ H' ⟨rfl, x, y, rfl, hx, hy, e⟩
      refine ⟨.int y, rfl, rfl, _, rfl, brNe (fun h0 => ?_) (fun h0 => ?_)⟩
      · refine ⟨.int y, rfl, .int x, rfl, .int y, rfl, _, _, rfl, rfl, (by show 0 < y; omega), _, _, rfl, ⟨rfl, _, _, rfl, hy, ?_, ?_⟩, ?_⟩
        · exact Int.emod_nonneg _ h0
        · rw [← e]; exact gcd_step hx (by omega)
        · show (x % y).toNat < y.toNat
          have := Int.emod_lt_of_pos x (show 0 < y by omega)
          have := Int.emod_nonneg x h0
          omega
      · subst h0
        refine ⟨_, rfl, ?_⟩
        have : x = (Int.gcd a b : Int) := by rw [← e]; unfold Int.gcd; simp; omega
        show Q (.int x) _
        rw [this]; exact q
theorem ok_l_divisor (T : Txt K mg) : FnOk P w K mg base CX0 1 T.f_l_divisor T.d_l_divisor Ps_l_divisor spGcd := by
  refine T.F_l_divisor.ok sc_l_divisor (fun vs H Q E h => ?_) (fun cdv A outer s H vs Q E hr h => ?_)
  · obtain ⟨a, b, rfl, _⟩ := h; rfl
  · obtain ⟨a, b, rfl, q⟩ := h
    refine ⟨_, (pss_cons (ps_par (i := 0) (j := 1) (by rfl) sc_l_divisor.nd rfl rfl (by decide) rfl rfl (pa_cons (pe_callB call_abs (by rfl) T.m_abs (by decide +kernel) (pa_cons (pv 0) pa_nil)) (pa_cons (pe_callB call_abs (by rfl) T.m_abs (by decide +kernel) (pa_cons (pv 1) pa_nil)) pa_nil)) (by rfl))
      (pss_cons (ps_while PassesOwn.never (pt_cmpR op_ne (pv 1) pe_int (nomark _)) (pss_one (ps_par (i := 0) (j := 1) (by rfl) sc_l_divisor.nd rfl rfl (by decide) rfl rfl (pa_cons (pv 1) (pa_cons (pe_op op_mod (pv 0) (pv 1)) pa_nil)) (by rfl))))
      (pss_one (ps_ret (pv 0))))), ?_⟩
    refine ⟨.int a, rfl, a, rfl, .int b, rfl, b, rfl, _, _, rfl, ?_⟩
    refine while_by (fun σ H' => H' = H ∧ ∃ x y : Int, σ = [some (.int x), some (.int y)] ∧ 0 ≤ x ∧ 0 ≤ y ∧ Int.gcd x y = Int.gcd a b) (fun σ _ => match σ with | [_, some (.int y)] => y.toNat | _ => 0) ?_ ?_ (fun σ H Q Q' h ⟨v, e, s, k, ek, q⟩ => ⟨v, e, s, k, ek, h _ _ q⟩)
    · refine ⟨rfl, _, _, rfl, ?_, ?_, ?_⟩
      · rw [abs_nat]; omega
      · rw [abs_nat]; omega
      · rw [abs_nat, abs_nat]; unfold Int.gcd; simp only [Int.natAbs_natCast]
    · rintro σ H' ⟨rfl, x, y, rfl, hx, hy, e⟩
      refine ⟨.int y, rfl, rfl, _, rfl, brNe (fun h0 => ?_) (fun h0 => ?_)⟩
      · refine ⟨.int y, rfl, .int x, rfl, .int y, rfl, _, _, rfl, rfl, (by show 0 < y; omega), _, _, rfl, ⟨rfl, _, _, rfl, hy, ?_, ?_⟩, ?_⟩
        · exact Int.emod_nonneg _ h0
        · rw [← e]; exact gcd_step hx (by omega)
        · show (x % y).toNat < y.toNat
          have := Int.emod_lt_of_pos x (show 0 < y by omega)
          have := Int.emod_nonneg x h0
          omega
      · subst h0
        refine ⟨_, rfl, ?_⟩
        have : x = (Int.gcd a b : Int) := by rw [← e]; unfold Int.gcd; simp; omega
        show Q (.int x) _
        rw [this]; exact q
theorem ok_l_reduce (T : Txt K mg) : FnOk P w K mg base CX0 2 T.f_l_reduce T.d_l_reduce Ps_l_reduce (spRed K) := by
  refine T.F_l_reduce.ok sc_l_reduce (fun vs H Q E h => ?_) (fun cdv A outer s H vs Q E hr h => ?_)
  · obtain ⟨n, d, rfl, _⟩ := h; rfl
  · obtain ⟨n, d, rfl, hd, bn, bd, q⟩ := h
    have hg : (0 : Int) < (Int.gcd n d : Int) := by have := gcd_pos (n := n) hd; omega
    have bg : B 8000 (Int.gcd n d : Int) := bd.le (gcd_le hd)
    have b1 : B 1 1 := by unfold B; decide
    have b2 : B 1 (-1) := by unfold B; decide
    refine ⟨_, (pss_cons (ps_set (i := 2) sc_l_reduce.nd rfl (Or.inl rfl) (pe_call (ok_l_divisor T) hr (by rfl) T.g_l_divisor T.F_l_divisor.kp T.b_l_divisor .nil pass0 (pa_cons (pv 0) (pa_cons (pv 1) pa_nil))))
      (pss_cons (ps_set (i := 3) sc_l_reduce.nd rfl (Or.inl rfl) (pe_ifExp (pt_cmpR op_gt (pv 1) pe_int (nomark _)) pe_int (pe_un un_neg pe_int)))
      (pss_one (ps_ret (pe_tup (pa_cons (pe_op op_fdivW (pe_op op_mulW (pv 3) (pv 0)) (pv 2)) (pa_cons (pe_op op_fdivW (pe_op op_mulW (pv 3) (pv 1)) (pv 2)) pa_nil))))))), ?_⟩
    refine ⟨_, rfl, _, rfl, n, d, rfl, ?_⟩
    refine ⟨_, rfl, _, _, rfl, rfl, _, rfl, brI (fun hpos => ?_) (fun hneg => ?_)⟩
    · refine ⟨_, rfl, _, rfl, _, _, rfl, rfl, cm b1 bn, _, rfl, _, _, rfl, rfl, cdW hg bg, _, rfl, _, rfl, _, _, rfl, rfl, cm b1 bd, _, rfl, _, _, rfl, rfl, cdW hg bg, sizeLine2 (by simp), fun p np => ?_⟩
      refine q _ _ (same_upd np) ⟨p, rfl, .inl (.inl ?_)⟩
      rw [upd_same]; dsimp only
      rw [Int.one_mul, Int.one_mul]
      unfold rn rd
      rw [if_neg (by omega), show (d.natAbs : Int) = d by omega]
    · refine ⟨_, rfl, ?_⟩
      refine ⟨_, rfl, _, rfl, _, _, rfl, rfl, cm b2 bn, _, rfl, _, _, rfl, rfl, cdW hg bg, _, rfl, _, rfl, _, _, rfl, rfl, cm b2 bd, _, rfl, _, _, rfl, rfl, cdW hg bg, sizeLine2 (by simp), fun p np => ?_⟩
      refine q _ _ (same_upd np) ⟨p, rfl, .inl (.inl ?_)⟩
      rw [upd_same]; dsimp only
      rw [show (-1 : Int) * n = -n by omega, show (-1 : Int) * d = -d by omega]
      unfold rn rd
      rw [if_pos (by omega), show (d.natAbs : Int) = -d by omega]
theorem ok_l_add (T : Txt K mg) : FnOk P w K mg base CX0 3 T.f_l_add T.d_l_add Ps_l_add (spFF K fun a b c d => (rn (a * d + c * b) (b * d), rd (a * d + c * b) (b * d))) := by
  refine T.F_l_add.ok sc_l_add (fun vs H Q E h => ?_) (fun cdv A outer s H vs Q E hr h => ?_)
  · obtain ⟨x, y, _, _, _, _, rfl, _⟩ := h; rfl
  · obtain ⟨x, y, a, b, c, d, rfl, ⟨p1, rfl, h1⟩, ⟨p2, rfl, h2⟩, hb, hd, ba, bb, bc, bd, q⟩ := h
    refine ⟨_, (pss_one (ps_ret (pe_call (ok_l_reduce T) hr (by rfl) T.g_l_reduce T.F_l_reduce.kp T.b_l_reduce .nil pass0 (pa_cons (pe_op op_add (pe_op op_mulW (pe_ix ix_tup (pv 0) pe_int (fun _ _ => rfl)) (pe_ix ix_tup (pv 1) pe_int (fun _ _ => rfl))) (pe_op op_mulW (pe_ix ix_tup (pv 1) pe_int (fun _ _ => rfl)) (pe_ix ix_tup (pv 0) pe_int (fun _ _ => rfl)))) (pa_cons (pe_op op_mulW (pe_ix ix_tup (pv 0) pe_int (fun _ _ => rfl)) (pe_ix ix_tup (pv 1) pe_int (fun _ _ => rfl))) pa_nil))))), ?_⟩
    exact ⟨_, rfl, _, _, _, _, rfl, rfl, h1, ix0, _, rfl, _, _, _, _, rfl, rfl, h2, ix1, _, _, rfl, rfl, (cm ba bd), _, rfl, _, _, _, _, rfl, rfl, h2, ix0, _, rfl, _, _, _, _, rfl, rfl, h1, ix1, _, _, rfl, rfl, (cm bc bb), _, _, rfl, rfl, _, rfl, _, _, _, _, rfl, rfl, h1, ix1, _, rfl, _, _, _, _, rfl, rfl, h2, ix1, _, _, rfl, rfl, (cm bb bd), _, _, rfl, Int.mul_ne_zero hb hd, ((ba.mul bd).add (bc.mul bb)).mono, (bb.mul bd).mono, q⟩
theorem ok_l_subtract (T : Txt K mg) : FnOk P w K mg base CX0 3 T.f_l_subtract T.d_l_subtract Ps_l_subtract (spFF K fun a b c d => (rn (a * d - c * b) (b * d), rd (a * d - c * b) (b * d))) := by
  refine T.F_l_subtract.ok sc_l_subtract (fun vs H Q E h => ?_) (fun cdv A outer s H vs Q E hr h => ?_)
  · obtain ⟨x, y, _, _, _, _, rfl, _⟩ := h; rfl
  · obtain ⟨x, y, a, b, c, d, rfl, ⟨p1, rfl, h1⟩, ⟨p2, rfl, h2⟩, hb, hd, ba, bb, bc, bd, q⟩ := h
    refine ⟨_, (pss_one (ps_ret (pe_call (ok_l_reduce T) hr (by rfl) T.g_l_reduce T.F_l_reduce.kp T.b_l_reduce .nil pass0 (pa_cons (pe_op op_sub (pe_op op_mulW (pe_ix ix_tup (pv 0) pe_int (fun _ _ => rfl)) (pe_ix ix_tup (pv 1) pe_int (fun _ _ => rfl))) (pe_op op_mulW (pe_ix ix_tup (pv 1) pe_int (fun _ _ => rfl)) (pe_ix ix_tup (pv 0) pe_int (fun _ _ => rfl)))) (pa_cons (pe_op op_mulW (pe_ix ix_tup (pv 0) pe_int (fun _ _ => rfl)) (pe_ix ix_tup (pv 1) pe_int (fun _ _ => rfl))) pa_nil))))), ?_⟩
    exact ⟨_, rfl, _, _, _, _, rfl, rfl, h1, ix0, _, rfl, _, _, _, _, rfl, rfl, h2, ix1, _, _, rfl, rfl, (cm ba bd), _, rfl, _, _, _, _, rfl, rfl, h2, ix0, _, rfl, _, _, _, _, rfl, rfl, h1, ix1, _, _, rfl, rfl, (cm bc bb), _, _, rfl, rfl, _, rfl, _, _, _, _, rfl, rfl, h1, ix1, _, rfl, _, _, _, _, rfl, rfl, h2, ix1, _, _, rfl, rfl, (cm bb bd), _, _, rfl, Int.mul_ne_zero hb hd, ((ba.mul bd).sub (bc.mul bb)).mono, (bb.mul bd).mono, q⟩
theorem ok_l_times (T : Txt K mg) : FnOk P w K mg base CX0 3 T.f_l_times T.d_l_times Ps_l_times (spTimes K) := by
  refine T.F_l_times.ok sc_l_times (fun vs H Q E h => ?_) (fun cdv A outer s H vs Q E hr h => ?_)
  · obtain ⟨n, x, _, _, rfl, _⟩ := h; rfl
  · obtain ⟨n, x, a, b, rfl, ⟨p1, rfl, h1⟩, hb, bn, ba, bb, q⟩ := h
    refine ⟨_, (pss_one (ps_ret (pe_call (ok_l_reduce T) hr (by rfl) T.g_l_reduce T.F_l_reduce.kp T.b_l_reduce .nil pass0 (pa_cons (pe_op op_mulW (pv 0) (pe_ix ix_tup (pv 1) pe_int (fun _ _ => rfl))) (pa_cons (pe_ix ix_tup (pv 1) pe_int (fun _ _ => rfl)) pa_nil))))), ?_⟩
    exact ⟨_, rfl, _, rfl, _, _, _, _, rfl, rfl, h1, ix0, _, _, rfl, rfl, (cm bn ba), _, rfl, _, _, _, _, rfl, rfl, h1, ix1, _, _, rfl, hb, (bn.mul ba).mono, bb.mono, q⟩
theorem ok_common_denominator (T : Txt K mg) : FnOk P w K mg base CX0 2 T.f_common_denominator T.d_common_denominator Ps_common_denominator (spCden K) := by
  refine T.F_common_denominator.ok sc_common_denominator (fun vs H Q E h => ?_) (fun cdv A outer s H vs Q E hr h => ?_)
  · obtain ⟨l, xs, qs, k, rfl, _⟩ := h; rfl
  · obtain ⟨l, xs, qs, k, rfl, hx, hf, hb, hk, hl, q⟩ := h
    have el := hf.len
    have hqpos := hf.pos
    have turn : ∀ (i : Nat) (x : V), xs[i]? = some x → ∃ a b, Fr K H x a b ∧ 0 < b ∧ B k b ∧ cden (qs.take (i + 1)) 1 = lstep (cden (qs.take i) 1) b := fun i x hx => by
      obtain ⟨a, b, e1, f, p⟩ := hf.get hx
      exact ⟨a, b, f, p, hb _ (List.mem_of_getElem? e1), cden_take e1⟩
    have bstep : ∀ {i : Nat} {r b : Int}, 0 < r → 0 < b → B (1 + k * i) r → B k b → B (1 + k * (i + 1)) (lstep r b) := fun h1 h2 h3 h4 => by
      have := (h3.mul h4).le (lstep_le h1 h2)
      rw [Nat.mul_add, Nat.mul_one, ← Nat.add_assoc]; exact this
    rcases hx with hx | hx
    · refine ⟨_, (pss_cons (ps_set (i := 1) sc_common_denominator.nd rfl (Or.inl rfl) pe_int)
      (pss_cons (ps_for PassesOwn.never rfl (pi_list (pv 0)) (pg_name (i := 2) sc_common_denominator.nd rfl (Or.inl rfl)) (pss_one (ps_set (i := 1) sc_common_denominator.nd rfl (Or.inl rfl) (pe_op op_mulW (pe_op op_fdivW (pv 1) (pe_call (ok_gcd T) hr (by rfl) T.g_gcd T.F_gcd.kp T.b_gcd .nil pass0 (pa_cons (pv 1) (pa_cons (pe_ix ix_tup (pv 2) pe_int (fun _ _ => rfl)) pa_nil)))) (pe_ix ix_tup (pv 2) pe_int (fun _ _ => rfl))))))
      (pss_one (ps_ret (pv 1))))), ?_⟩
      refine ⟨_, rfl, l, rfl, ⟨_, hx⟩, ?_⟩
      refine for_list (K := K) (xs := xs) (fun i σ H' => H' = H ∧ ∃ (r : Int) (z : Option V), σ = [some (.ref l), some (.int r), z] ∧ r = cden (qs.take i) 1 ∧ 0 < r ∧ B (1 + k * i) r) ⟨rfl, 1, none, rfl, rfl, by decide, B.one⟩ (fun i σ H' _ h => h.1 ▸ hx) ?_ ?_
      · rintro i x σ H' hxi ⟨rfl, r, z, rfl, er, hr0, br⟩
        obtain ⟨a, b, ⟨p, rfl, f⟩, pb, bb, e⟩ := turn i x hxi
        have hil : i < qs.length := by have := (List.getElem?_eq_some_iff.mp hxi).1; omega
        have hle : k * i ≤ k * qs.length := Nat.mul_le_mul_left k (by omega)
        have hk1 : k * 1 ≤ k * qs.length := Nat.mul_le_mul_left k (by omega)
        have bg : B k (Int.gcd r b : Int) := bb.le (gcd_le (by omega))
        have bg2 : B 8000 (Int.gcd r b : Int) := bg.mono (by have : k * 1 ≤ k * qs.length := Nat.mul_le_mul_left k (by omega); omega)
        have bq : B (1 + k * i) (r / (Int.gcd r b : Int)) := br.le (div_abs (gcd_posI pb))
        refine ⟨_, rfl, _, rfl, _, rfl, _, _, _, _, rfl, rfl, f, ix1, r, b, rfl, _, _, rfl, rfl, cdW (gcd_posI pb) bg2, _, rfl, _, _, _, _, rfl, rfl, f, ix1, _, _, rfl, rfl, cm bq bb (by omega) hk (by omega), rfl, lstep r b, _, rfl, ?_, lstep_pos hr0 pb, bstep hr0 pb br bb⟩
        rw [e, er]
      · rintro σ H' ⟨rfl, r, z, rfl, er, _⟩
        refine ⟨_, rfl, ?_⟩
        rw [er, el, List.take_length]; exact q
    · refine ⟨_, (pss_cons (ps_set (i := 1) sc_common_denominator.nd rfl (Or.inl rfl) pe_int)
      (pss_cons (ps_for PassesOwn.never rfl (pi_tup (pv 0)) (pg_name (i := 2) sc_common_denominator.nd rfl (Or.inl rfl)) (pss_one (ps_set (i := 1) sc_common_denominator.nd rfl (Or.inl rfl) (pe_op op_mulW (pe_op op_fdivW (pv 1) (pe_call (ok_gcd T) hr (by rfl) T.g_gcd T.F_gcd.kp T.b_gcd .nil pass0 (pa_cons (pv 1) (pa_cons (pe_ix ix_tup (pv 2) pe_int (fun _ _ => rfl)) pa_nil)))) (pe_ix ix_tup (pv 2) pe_int (fun _ _ => rfl))))))
      (pss_one (ps_ret (pv 1))))), ?_⟩
      refine ⟨_, rfl, l, rfl, ⟨_, hx⟩, ?_⟩
      refine for_tup (K := K) (xs := xs) (fun i σ H' => H' = H ∧ ∃ (r : Int) (z : Option V), σ = [some (.ref l), some (.int r), z] ∧ r = cden (qs.take i) 1 ∧ 0 < r ∧ B (1 + k * i) r) ⟨rfl, 1, none, rfl, rfl, by decide, B.one⟩ (fun i σ H' _ h => h.1 ▸ hx) ?_ ?_
      · rintro i x σ H' hxi ⟨rfl, r, z, rfl, er, hr0, br⟩
        obtain ⟨a, b, ⟨p, rfl, f⟩, pb, bb, e⟩ := turn i x hxi
        have hil : i < qs.length := by have := (List.getElem?_eq_some_iff.mp hxi).1; omega
        have hle : k * i ≤ k * qs.length := Nat.mul_le_mul_left k (by omega)
        have hk1 : k * 1 ≤ k * qs.length := Nat.mul_le_mul_left k (by omega)
        have bg : B k (Int.gcd r b : Int) := bb.le (gcd_le (by omega))
        have bg2 : B 8000 (Int.gcd r b : Int) := bg.mono (by have : k * 1 ≤ k * qs.length := Nat.mul_le_mul_left k (by omega); omega)
        have bq : B (1 + k * i) (r / (Int.gcd r b : Int)) := br.le (div_abs (gcd_posI pb))
        refine ⟨_, rfl, _, rfl, _, rfl, _, _, _, _, rfl, rfl, f, ix1, r, b, rfl, _, _, rfl, rfl, cdW (gcd_posI pb) bg2, _, rfl, _, _, _, _, rfl, rfl, f, ix1, _, _, rfl, rfl, cm bq bb (by omega) hk (by omega), rfl, lstep r b, _, rfl, ?_, lstep_pos hr0 pb, bstep hr0 pb br bb⟩
        rw [e, er]
      · rintro σ H' ⟨rfl, r, z, rfl, er, _⟩
        refine ⟨_, rfl, ?_⟩
        rw [er, el, List.take_length]; exact q
def spWhole (K : PySem.W.Frag) : Sp := fun vs H Q _ => ∃ (x : V) (m a b : Int) (n k : Nat), vs = [x, .int m] ∧ Fr K H x a b ∧ 0 < b ∧ B n a ∧ B n b ∧ B k m ∧ 0 < n ∧ 0 < k ∧ n ≤ 9000 ∧ n + k ≤ 1000000 ∧ ∀ v H', v = .int (a * (m / b)) → H' = H → Q v H'
theorem ok_whole (T : Txt K mg) : FnOk P w K mg base CX0 1 T.f_whole T.d_whole Ps_whole (spWhole K) := by
  refine T.F_whole.ok sc_whole (fun vs H Q E h => ?_) (fun cdv A outer s H vs Q E hr h => ?_)
  · obtain ⟨_, _, _, _, _, _, rfl, _⟩ := h; rfl
  · obtain ⟨x, m, a, b, n, k, rfl, ⟨p, rfl, f⟩, pb, ba, bb, bm, n0, k0, h9, h10, q⟩ := h
    refine ⟨_, (pss_one (ps_ret (pe_op op_mulW (pe_ix ix_tup (pv 0) pe_int (fun _ _ => rfl)) (pe_op op_fdivW (pv 1) (pe_ix ix_tup (pv 0) pe_int (fun _ _ => rfl)))))), ?_⟩
    refine ⟨_, rfl, _, _, _, _, rfl, rfl, f, ix0, _, rfl, _, rfl, _, _, _, _, rfl, rfl, f, ix1, _, _, rfl, rfl, cdW pb bb n0 h9, _, _, rfl, rfl, cm ba (bm.le (div_abs pb)) n0 k0 h10, ?_⟩
    exact q _ _ rfl rfl
theorem ok_bezout (T : Txt K mg) : FnOk P w K mg base CX0 1 T.f_bezout T.d_bezout Ps_bezout (spBez K) := by
  refine T.F_bezout.ok sc_bezout (fun vs H Q E h => ?_) (fun cdv A outer s H vs Q E hr h => ?_)
  · obtain ⟨a, b, rfl, _⟩ := h; rfl
  · obtain ⟨a, b, rfl, ha, hb, ba, bb, q⟩ := h
    refine ⟨_, (pss_cons (ps_asg (pe_tup (pa_cons pe_int (pa_cons pe_int pa_nil))) (pg_tup (by rfl) (pgs_cons (pg_name (i := 2) sc_bezout.nd rfl (Or.inl rfl)) (pgs_cons (pg_name (i := 3) sc_bezout.nd rfl (Or.inl rfl)) pgs_nil))))
      (pss_cons (ps_asg (pe_tup (pa_cons pe_int (pa_cons pe_int pa_nil))) (pg_tup (by rfl) (pgs_cons (pg_name (i := 4) sc_bezout.nd rfl (Or.inl rfl)) (pgs_cons (pg_name (i := 5) sc_bezout.nd rfl (Or.inl rfl)) pgs_nil))))
      (pss_cons (ps_while PassesOwn.never (pt_cmpR op_ne (pv 1) pe_int (nomark _)) (pss_cons (ps_set (i := 6) sc_bezout.nd rfl (Or.inl rfl) (pe_op op_fdivW (pv 0) (pv 1)))
      (pss_cons (ps_par (i := 0) (j := 1) (by rfl) sc_bezout.nd rfl rfl (by decide) rfl rfl (pa_cons (pv 1) (pa_cons (pe_op op_sub (pv 0) (pe_op op_mulW (pv 6) (pv 1))) pa_nil)) (by rfl))
      (pss_cons (ps_par (i := 2) (j := 3) (by rfl) sc_bezout.nd rfl rfl (by decide) rfl rfl (pa_cons (pv 3) (pa_cons (pe_op op_sub (pv 2) (pe_op op_mulW (pv 6) (pv 3))) pa_nil)) (by rfl))
      (pss_one (ps_par (i := 4) (j := 5) (by rfl) sc_bezout.nd rfl rfl (by decide) rfl rfl (pa_cons (pv 5) (pa_cons (pe_op op_sub (pv 4) (pe_op op_mulW (pv 6) (pv 5))) pa_nil)) (by rfl)))))))
      (pss_one (ps_ret (pe_tup (pa_cons (pv 0) (pa_cons (pv 2) (pa_cons (pv 4) pa_nil))))))))), ?_⟩
    refine ⟨sizeLine2 (by simp), fun c1 n1 => ⟨c1, _, rfl, .inl (.inl upd_same), rfl, _, _, rfl, _, _, rfl, rfl, ?_⟩⟩
    refine ⟨sizeLine2 (by simp), fun c2 n2 => ⟨c2, _, rfl, .inl (.inl upd_same), rfl, _, _, rfl, _, _, rfl, rfl, ?_⟩⟩
    have s12 := (same_upd (o := HO.tup [.int 1, .int 0]) n1).trans (same_upd (o := HO.tup [.int 0, .int 1]) n2)
    generalize upd (upd H c1 (.tup [.int 1, .int 0])) c2 (.tup [.int 0, .int 1]) = H0 at s12
    refine while_by (fun σ H' => H' = H0 ∧ ∃ (x y u lu w lw : Int) (z : Option V), σ = [some (.int x), some (.int y), some (.int u), some (.int lu), some (.int w), some (.int lw), z] ∧ BzI a b x y u lu w lw ∧ bezR x y u lu w lw = bz a b ∧ B 4000 x ∧ B 4000 y) (fun σ _ => match σ with | [_, some (.int y), _, _, _, _, _] => y.toNat | _ => 0) ?_ ?_ (fun σ H Q Q' h ⟨v, e, s, k, ek, q⟩ => ⟨v, e, s, k, ek, h _ _ q⟩)
    · exact ⟨rfl, a, b, 1, 0, 0, 1, none, rfl, .start ha hb, rfl, ba, bb⟩
    · rintro σ H' ⟨rfl, x, y, u, lu, w, lw, z, rfl, I, e, bx, bY⟩
      refine ⟨_, rfl, rfl, _, rfl, brNe (fun h0 => ?_) (fun h0 => ?_)⟩
      · have hy : 0 < y := by have := I.hb; omega
        have bt : B 4000 (x / y) := bx.le (div_abs hy)
        have blu : B 4002 lu := B.le (n := 4002) (y := b + 1) ((bb.mono (m := 4001)).add (B.one.mono)) (by have := I.blu; omega)
        have blw : B 4002 lw := B.le (n := 4002) (y := a + 1) ((ba.mono (m := 4001)).add (B.one.mono)) (by have := I.blw; omega)
        have hd := bz_dec (a := x) (b := y) (by omega)
        have em : x - x / y * y = x % y := by have := Int.mul_ediv_add_emod x y; rw [Int.mul_comm (x / y)]; omega
        have h1 := Int.emod_nonneg x h0
        have h2 := Int.emod_lt_of_pos x hy
        refine ⟨_, rfl, _, rfl, _, _, rfl, rfl, cdW hy bY, ?_⟩
        refine ⟨_, rfl, _, rfl, _, rfl, _, rfl, _, _, rfl, rfl, cm bt bY, _, _, rfl, rfl, _, _, rfl, ?_⟩
        refine ⟨_, rfl, _, rfl, _, rfl, _, rfl, _, _, rfl, rfl, cm bt blu, _, _, rfl, rfl, _, _, rfl, ?_⟩
        refine ⟨_, rfl, _, rfl, _, rfl, _, rfl, _, _, rfl, rfl, cm bt blw, _, _, rfl, rfl, _, _, rfl, ?_⟩
        refine ⟨⟨rfl, _, _, _, _, _, _, _, rfl, I.next ha hb hy, ?_, bY, ?_⟩, hd⟩
        · rw [← bezR_step hy]; exact e
        · rw [em]; exact bY.le (by omega)
      · subst h0
        rw [bezR_stop] at e
        refine ⟨_, rfl, _, rfl, _, rfl, sizeLine2 (by simp), fun p np => ?_⟩
        refine q p _ (s12.trans (same_upd np)) ?_
        rw [upd_same, ← e]
theorem ok_scaled_values (T : Txt K mg) : FnOk P w K mg base CX0 2 T.f_scaled_values T.d_scaled_values Ps_scaled_values (spScaled K) := by
  refine T.F_scaled_values.ok sc_scaled_values (fun vs H Q E h => ?_) (fun cdv A outer s H vs Q E hr h => ?_)
  · obtain ⟨l, m, xs, qs, rfl, _⟩ := h; rfl
  · obtain ⟨l, m, xs, qs, rfl, hx, hf, hm, bm, hq, hl, q⟩ := h
    have el := hf.len
    have turn : ∀ (i : Nat) (x : V), xs[i]? = some x → ∃ a b, Fr K H x a b ∧ 0 < b ∧ B 4000 a ∧ B 4000 b ∧ ((scl qs m).take (i + 1)).map V.int = ((scl qs m).take i).map V.int ++ [V.int (a * (m / b) % m)] := fun i x hx => by
      obtain ⟨a, b, e1, f, p⟩ := hf.get hx
      have bb := hq _ (List.mem_of_getElem? e1)
      refine ⟨a, b, f, p, bb.1, bb.2, ?_⟩
      have : (scl qs m)[i]? = some (a * (m / b) % m) := by unfold scl; rw [List.getElem?_map, e1]; rfl
      rw [List.take_add_one, this, List.map_append]; rfl
    have hsl : (scl qs m).length = xs.length := by unfold scl; rw [List.length_map, el]
    rcases hx with hx | hx
    · refine ⟨_, (pss_one (ps_ret (pe_lc (own := [("value", 2)]) (g := (gName 2)) (tt := tYes) rfl sc_scaled_values.nd (pi_list (pv 0)) (blkOk_by (N := N_scaled_values) (sc := defScope s_scaled_values) (by decide +kernel)) (fun _ _ _ _ _ => (pg_name (i := 2) sc_scaled_values.nd rfl (Or.inl rfl))) (fun _ _ _ _ _ => pts_nil) (fun _ _ _ _ _ => (pe_op op_mod (pe_call (ok_whole T) hr (by rfl) T.g_whole T.F_whole.kp T.b_whole .nil pass0 (pa_cons (pv 2) (pa_cons (pv 1) pa_nil))) (pv 1)))))), ?_⟩
      refine ⟨_, rfl, l, rfl, ⟨_, hx⟩, fun D nD => ?_⟩
      refine lc_it (walk_list (xs := xs)) (fun i H' => Same H H' ∧ H' D = some (.lst (((scl qs m).take i).map V.int))) ⟨same_upd nD, upd_same⟩ (fun i H' _ h => Evl.ex_l h.1 hx) ?_ ?_
      · rintro i x H1 H2 hi ⟨sH, hD⟩ ⟨rfl, hxi⟩
        obtain ⟨a, b, f, pb, ba, bb, e⟩ := turn i x hxi
        refine ⟨rfl, _, rfl, _, rfl, x, m, a, b, 4000, 4000, rfl, f.same sH, pb, ba, bb, bm, by decide, by decide, by decide, by decide, fun w1 H3 e1 e2 => ?_⟩
        subst e1 e2
        refine ⟨_, rfl, _, _, rfl, rfl, hm, _, hD, ?_, ?_, ?_⟩
        · rw [List.length_map, List.length_take]; exact Nat.lt_of_lt_of_le (show min i _ < 1000 by omega) (by decide)
        · intro y o e; rw [upd_ne (ne_of_none e nD)]; exact sH _ _ e
        · rw [upd_same, e]
      · rintro H1 ⟨sH, hD⟩
        refine q D H1 sH ?_
        rw [← hsl, List.take_length] at hD; exact hD
    · refine ⟨_, (pss_one (ps_ret (pe_lc (own := [("value", 2)]) (g := (gName 2)) (tt := tYes) rfl sc_scaled_values.nd (pi_tup (pv 0)) (blkOk_by (N := N_scaled_values) (sc := defScope s_scaled_values) (by decide +kernel)) (fun _ _ _ _ _ => (pg_name (i := 2) sc_scaled_values.nd rfl (Or.inl rfl))) (fun _ _ _ _ _ => pts_nil) (fun _ _ _ _ _ => (pe_op op_mod (pe_call (ok_whole T) hr (by rfl) T.g_whole T.F_whole.kp T.b_whole .nil pass0 (pa_cons (pv 2) (pa_cons (pv 1) pa_nil))) (pv 1)))))), ?_⟩
      refine ⟨_, rfl, l, rfl, ⟨_, hx⟩, fun D nD => ?_⟩
      refine lc_it (walk_tup (xs := xs)) (fun i H' => Same H H' ∧ H' D = some (.lst (((scl qs m).take i).map V.int))) ⟨same_upd nD, upd_same⟩ (fun i H' _ h => Evl.ex_t h.1 hx) ?_ ?_
      · rintro i x H1 H2 hi ⟨sH, hD⟩ ⟨rfl, hxi⟩
        obtain ⟨a, b, f, pb, ba, bb, e⟩ := turn i x hxi
        refine ⟨rfl, _, rfl, _, rfl, x, m, a, b, 4000, 4000, rfl, f.same sH, pb, ba, bb, bm, by decide, by decide, by decide, by decide, fun w1 H3 e1 e2 => ?_⟩
        subst e1 e2
        refine ⟨_, rfl, _, _, rfl, rfl, hm, _, hD, ?_, ?_, ?_⟩
        · rw [List.length_map, List.length_take]; exact Nat.lt_of_lt_of_le (show min i _ < 1000 by omega) (by decide)
        · intro y o e; rw [upd_ne (ne_of_none e nD)]; exact sH _ _ e
        · rw [upd_same, e]
      · rintro H1 ⟨sH, hD⟩
        refine q D H1 sH ?_
        rw [← hsl, List.take_length] at hD; exact hD
theorem ok_first_reach (T : Txt K mg) : FnOk P w K mg base CX0 1 T.f_first_reach T.d_first_reach Ps_first_reach (spFirst K) := by
  refine T.F_first_reach.ok sc_first_reach (fun vs H Q E h => ?_) (fun cdv A outer s H vs Q E hr h => ?_)
  · obtain ⟨l, m, xs, rfl, _⟩ := h; rfl
  · obtain ⟨l, m, xs, rfl, hx, hl, q⟩ := h
    refine ⟨_, (pss_one (ps_ret (pe_tup (pa_cons (pv 1) (pa_cons (pe_op op_rep (pe_lst (pa_cons pe_int pa_nil)) (pe_callB call_len_seq (by rfl) T.m_len PySem.boot_len (pa_cons (pv 0) pa_nil))) pa_nil))))), ?_⟩
    refine ⟨_, rfl, sizeLine2 (by simp), fun c nc => ?_⟩
    have s1 := same_upd (o := HO.lst [.int 0]) nc
    refine ⟨_, rfl, l, xs, rfl, hx.same s1, c, _, _, rfl, rfl, upd_same, by omega, by omega, ?_, fun rl nrl => ?_⟩
    · rw [Int.toNat_natCast]; exact Nat.le_trans (show _ ≤ 1000 by simp; omega) (by decide)
    rw [Int.toNat_natCast]
    have s2 := same_upd (o := HO.lst (List.replicate xs.length [V.int 0]).flatten) nrl
    refine ⟨sizeLine2 (by simp), fun p np => ?_⟩
    refine q p rl _ ((s1.trans s2).trans (same_upd np)) upd_same ?_
    rw [upd_ne (fun e => by subst e; rw [upd_same] at np; cases np), upd_same, List.map_replicate, flat_rep]
theorem ok_next_reach (T : Txt K mg) : FnOk P w K mg base CX0 2 T.f_next_reach T.d_next_reach Ps_next_reach (spNext K) := by
  refine T.F_next_reach.ok sc_next_reach (fun vs H Q E h => ?_) (fun cdv A outer s H vs Q E hr h => ?_)
  · obtain ⟨p, i, s, m, D, rl, row, rfl, _⟩ := h; rfl
  · obtain ⟨p, i, sc, m, D, rl, row, rfl, hp, hrl, hD, hs, hm, bD, bs, bm, hi, hlen, hrow, q⟩ := h
    refine ⟨_, (pss_cons (ps_asg (pv 0) (pg_tup (by rfl) (pgs_cons (pg_name (i := 4) sc_next_reach.nd rfl (Or.inl rfl)) (pgs_cons (pg_name (i := 5) sc_next_reach.nd rfl (Or.inl rfl)) pgs_nil))))
      (pss_cons (ps_asg (pe_call (ok_bezout T) hr (by rfl) T.g_bezout T.F_bezout.kp T.b_bezout .nil pass0 (pa_cons (pv 4) (pa_cons (pv 2) pa_nil))) (pg_tup (by rfl) (pgs_cons (pg_name (i := 6) sc_next_reach.nd rfl (Or.inl rfl)) (pgs_cons (pg_name (i := 7) sc_next_reach.nd rfl (Or.inr rfl)) (pgs_cons (pg_name (i := 8) sc_next_reach.nd rfl (Or.inl rfl)) pgs_nil)))))
      (pss_cons (ps_setLc (i := 9) (own := [("entry", 10)]) (g := (gName 10)) (tt := tYes) rfl sc_next_reach.nd rfl rfl (sw_true rfl rfl rfl (by decide +kernel)) (pi_list (pv 5)) (blkOk_by (N := N_next_reach) (sc := defScope s_next_reach) (by decide +kernel)) (fun _ _ _ _ _ => (pg_name (i := 10) sc_next_reach.nd rfl (Or.inl rfl))) (fun _ _ _ _ _ => pts_nil) (fun _ _ _ _ _ => (pe_op op_mod (pe_op op_mulW (pv 7) (pv 10)) (pv 3))))
      (pss_cons (ps_asg (pe_op op_mod (pv 8) (pv 3)) (pg_sub (pv 9) (pv 1) set_list))
      (pss_one (ps_ret (pe_tup (pa_cons (pv 6) (pa_cons (pv 9) pa_nil))))))))), ?_⟩
    refine ⟨_, rfl, p, _, rfl, .inl (.inl hp), rfl, _, _, rfl, _, _, rfl, rfl, ?_⟩
    refine ⟨_, rfl, _, rfl, D, sc, rfl, hD, hs, bD, bs, fun t H1 s1 ht => ?_⟩
    obtain ⟨z1, z2, z3, z4⟩ := bz_spec hD hs
    refine ⟨t, _, rfl, .inl (.inl ht), rfl, _, _, rfl, _, _, rfl, _, _, rfl, rfl, ?_⟩
    have bu : B 4002 (bz D sc).2.1 := B.le (n := 4002) (y := sc + 1) ((bs.mono (m := 4001)).add (B.one.mono)) (by omega)
    have hrl1 := s1 _ _ hrl
    refine ⟨_, rfl, rl, rfl, ⟨_, .inl (.inl hrl1)⟩, fun L nL => ?_⟩
    refine lc_it (walk_list (xs := row.map V.int)) (fun j H' => Same H1 H' ∧ H' L = some (.lst (((row.map fun e => (bz D sc).2.1 * e % m).take j).map V.int))) ⟨same_upd nL, upd_same⟩ (fun i H' _ h => .inl (.inl (h.1 _ _ hrl1))) ?_ ?_
    · rintro j x H2 H3 hj ⟨sH, hL⟩ ⟨rfl, hx⟩
      obtain ⟨e, he, rfl⟩ : ∃ e, row[j]? = some e ∧ V.int e = x := by
        rw [List.getElem?_map] at hx
        cases h : row[j]? with
        | none => rw [h] at hx; cases hx
        | some n => rw [h] at hx; exact ⟨n, rfl, Option.some.inj hx⟩
      have he2 := hrow e (List.mem_of_getElem? he)
      have be : B 4000 e := bm.le (by omega)
      refine ⟨rfl, _, rfl, _, rfl, _, _, rfl, rfl, cm bu be, _, rfl, _, _, rfl, rfl, hm, _, hL, ?_, ?_, ?_⟩
      · rw [List.length_map, List.length_take, List.length_map]; exact Nat.lt_of_lt_of_le (show min j row.length < 1000 by omega) (by decide)
      · intro y o e; rw [upd_ne (ne_of_none e nL)]; exact sH _ _ e
      · rw [upd_same, List.take_add_one, List.getElem?_map, he, List.map_append]; rfl
    · rintro H2 ⟨sH, hL⟩
      rw [List.length_map, List.take_of_length_le (by rw [List.length_map]; exact Nat.le_refl _)] at hL
      refine ⟨_, rfl, _, rfl, _, _, rfl, rfl, hm, _, rfl, _, rfl, L, _, _, i, rfl, rfl, hL, ?_, ?_⟩
      · rw [List.length_map, List.length_map]
        unfold ixN; rw [if_pos (by omega), if_pos (by omega), Int.toNat_natCast]
      have eN : ((row.map fun e => (bz D sc).2.1 * e % m).map V.int).set i (.int ((bz D sc).2.2 % m)) = (nrow m D sc i row).map V.int := by
        unfold nrow; rw [List.map_set]
      have s3 : Same H1 (upd H2 L (.lst (((row.map fun e => (bz D sc).2.1 * e % m).map V.int).set i (.int ((bz D sc).2.2 % m))))) := fun y o e => by rw [upd_ne (ne_of_none e nL)]; exact sH _ _ e
      refine ⟨_, rfl, _, rfl, sizeLine2 (by simp), fun p' np' => ?_⟩
      refine q p' L _ ((s1.trans s3).trans (same_upd np')) upd_same ?_
      rw [upd_ne (fun e => by subst e; rw [upd_same] at np'; cases np'), upd_same, ← eN]
theorem ok_congruence_solution (T : Txt K mg) : FnOk P w K mg base CX0 3 T.f_congruence_solution T.d_congruence_solution Ps_congruence_solution (spSol K) := by
  refine T.F_congruence_solution.ok sc_congruence_solution (fun vs H Q E h => ?_) (fun cdv A outer s H vs Q E hr h => ?_)
  · obtain ⟨l, t, xs, qs, t0, t1, k, rfl, _⟩ := h; rfl
  · obtain ⟨l, t, xs, qs, t0, t1, k, rfl, hx, hf, ht, pt, bt0, bt1, hq, hk, hkl, hl, q⟩ := h
    refine ⟨_, (pss_cons (ps_set (i := 2) sc_congruence_solution.nd rfl (Or.inr rfl) (pe_call (ok_common_denominator T) hr (by rfl) T.g_common_denominator T.F_common_denominator.kp T.b_common_denominator .nil pass0 (pa_cons (pv 0) pa_nil)))
      (pss_cons (ps_if (pt_cmpR op_ne (pe_op op_mod (pv 2) (pe_ix ix_tup (pv 1) pe_int (fun _ _ => rfl))) pe_int (nomark _)) (pss_one (ps_ret pe_non)) pss_nil)
      (pss_cons (ps_set (i := 3) sc_congruence_solution.nd rfl (Or.inl rfl) (pe_call (ok_first_reach T) (hr.mono (by decide)) (by rfl) T.g_first_reach T.F_first_reach.kp T.b_first_reach .nil pass0 (pa_cons (pv 0) (pa_cons (pv 2) pa_nil))))
      (pss_cons (ps_for PassesOwn.never rfl (pi_enum (by rfl) T.m_enumerate (pa_cons (pe_call (ok_scaled_values T) hr (by rfl) T.g_scaled_values T.F_scaled_values.kp T.b_scaled_values .nil pass0 (pa_cons (pv 0) (pa_cons (pv 2) pa_nil))) pa_nil)) (pg_tup (by rfl) (pgs_cons (pg_name (i := 4) sc_congruence_solution.nd rfl (Or.inl rfl)) (pgs_cons (pg_name (i := 5) sc_congruence_solution.nd rfl (Or.inl rfl)) pgs_nil))) (pss_one (ps_set (i := 3) sc_congruence_solution.nd rfl (Or.inl rfl) (pe_call (ok_next_reach T) hr (by rfl) T.g_next_reach T.F_next_reach.kp T.b_next_reach .nil pass0 (pa_cons (pv 3) (pa_cons (pv 4) (pa_cons (pv 5) (pa_cons (pv 2) pa_nil))))))))
      (pss_cons (ps_set (i := 6) sc_congruence_solution.nd rfl (Or.inr rfl) (pe_call (ok_whole T) (hr.mono (by decide)) (by rfl) T.g_whole T.F_whole.kp T.b_whole .nil pass0 (pa_cons (pv 1) (pa_cons (pv 2) pa_nil))))
      (pss_one (ps_ret (pe_lc (own := [("entry", 7)]) (g := (gName 7)) (tt := tYes) rfl sc_congruence_solution.nd (pi_list (pe_ix ix_tup (pv 3) pe_int (fun _ _ => rfl))) (blkOk_by (N := N_congruence_solution) (sc := defScope s_congruence_solution) (by decide +kernel)) (fun _ _ _ _ _ => (pg_name (i := 7) sc_congruence_solution.nd rfl (Or.inl rfl))) (fun _ _ _ _ _ => pts_nil) (fun _ _ _ _ _ => (pe_op op_mod (pe_op op_mulW (pv 7) (pv 6)) (pv 2))))))))))), ?_⟩
    refine ⟨_, rfl, l, xs, qs, k, rfl, hx, hf, fun q h => (hq q h).2, hk, by omega, ?_⟩
    have hqp := hf.pos
    have hm := cden_pos (qs := qs) (r := 1) (by decide) hqp
    have bm : B 2001 (cden qs 1) := (cden_B (k := k) (qs := qs) (r := 1) (n := 1) (by decide) B.one (fun q h => ⟨hqp q h, (hq q h).2⟩)).mono (by omega)
    unfold sol at q
    generalize cden qs 1 = m at *
    obtain ⟨tp, rfl, htp⟩ := id ht
    refine ⟨_, rfl, _, rfl, _, _, _, _, rfl, rfl, htp, ix1, _, _, rfl, rfl, pt, rfl, _, rfl, brNe (fun hne => ?_) (fun heq => ?_)⟩
    · rw [if_neg hne] at q
      exact q _ _ (Same.refl _) rfl
    · rw [if_pos heq] at q
      have el := hf.len
      refine ⟨_, rfl, _, rfl, l, m, xs, rfl, hx, hl, fun p rl H1 s1 hp hrl => ?_⟩
      have kk : k * 1 ≤ k * qs.length ∨ qs = [] := by
        cases qs with
        | nil => exact .inr rfl
        | cons a b => exact .inl (Nat.mul_le_mul_left k (by simp))
      have hq4 : ∀ q ∈ qs, B 4000 q.1 ∧ B 4000 q.2 := fun q h => by
        rcases kk with e | e
        · exact ⟨(hq q h).1.mono (by omega), (hq q h).2.mono (by omega)⟩
        · rw [e] at h; cases h
      refine ⟨_, rfl, _, rfl, l, m, xs, qs, rfl, hx.same s1, hf.same s1, hm, bm.mono, hq4, hl, fun sl H2 s2 hsl => ?_⟩
      refine ⟨sl, _, rfl, .inl (.inl hsl), ?_⟩
      have hS : ∀ s ∈ scl qs m, 0 ≤ s ∧ s < m := fun s hs => by
        obtain ⟨q, _, rfl⟩ := List.mem_map.mp hs
        exact ⟨Int.emod_nonneg _ (by omega), Int.emod_lt_of_pos _ hm⟩
      have hSl : (scl qs m).length = qs.length := by unfold scl; rw [List.length_map]
      have st := RcI.start (S := scl qs m) hm
      refine for_it walk_enum (fun i σ H' => Same H2 H' ∧ ∃ (p rl : Addr) (D : Int) (row : List Int) (z4 z5 : Option V), σ = [some (.ref l), some (.ref tp), some (.int m), some (.ref p), z4, z5, none, none] ∧ H' p = some (.tup [.int D, .ref rl]) ∧ H' rl = some (.lst (row.map V.int)) ∧ RcI m (scl qs m) i D row ∧ 0 < D ∧ D ≤ m ∧ reach m ((scl qs m).drop i) i D row = reach m (scl qs m) 0 m (List.replicate qs.length 0)) ?_ (fun i σ H' _ h => .inl (.inl (h.1 _ _ hsl))) ?_ ?_
      · refine ⟨Same.refl _, p, rl, m, List.replicate qs.length 0, none, none, rfl, s2 _ _ hp, ?_, ?_, hm, Int.le_refl _, rfl⟩
        · rw [← el]; exact s2 _ _ hrl
        · rw [hSl] at st; exact st
      · rintro i x σ Ha Hb hi ⟨sH, p, rl, D, row, z4, z5, rfl, hp, hrl, I, pD, lD, er⟩ ⟨U, x1, x2, rfl, nU, rfl, g1, g2⟩
        have sU := same_upd (o := HO.tup [x1, x2]) nU
        have e1 : V.int (i : Nat) = x1 := Option.some.inj g1
        obtain ⟨s', hs', rfl⟩ : ∃ e, (scl qs m)[i]? = some e ∧ V.int e = x2 := by
          dsimp only at g2
          rw [List.getElem?_map] at g2
          cases h : (scl qs m)[i]? with
          | none => rw [h] at g2; cases g2
          | some n => rw [h] at g2; exact ⟨n, rfl, Option.some.inj g2⟩
        subst e1
        have hs2 := hS s' (List.mem_of_getElem? hs')
        have hi' : i < (scl qs m).length := (List.getElem?_eq_some_iff.mp hs').1
        refine ⟨U, _, rfl, .inl (.inl upd_same), rfl, _, _, rfl, _, _, rfl, rfl, ?_⟩
        refine ⟨_, rfl, _, rfl, _, rfl, _, rfl, p, i, s', m, D, rl, row, rfl, sU _ _ hp, sU _ _ hrl, by omega, hs2.1, hm, (bm.mono (m := 4000)).le (by omega), (bm.mono (m := 4000)).le (by omega), bm.mono, by rw [I.len]; exact hi', by rw [I.len, hSl]; omega, I.bnd, fun p' rl' H3 s3 hp' hrl' => ?_⟩
        have z := (bz_spec (a := D) (b := s') (by omega) hs2.1).1
        have gp : 0 < (Int.gcd D s' : Int) := by have := Int.gcd_pos_of_ne_zero_left s' (show D ≠ 0 by omega); omega
        have gl : (Int.gcd D s' : Int) ≤ D := Int.le_of_dvd pD (Int.gcd_dvd_left ..)
        refine ⟨(sH.trans sU).trans s3, p', rl', _, _, _, _, rfl, hp', hrl', I.next hm hs' hs2.1, by omega, by omega, ?_⟩
        rw [← er, List.drop_eq_getElem_cons hi']
        have : (scl qs m)[i] = s' := by have := List.getElem?_eq_getElem hi'; rw [hs'] at this; exact (Option.some.inj this).symm
        rw [this]; rfl
      · rintro σ H3 ⟨sH, p, rl, D, row, z4, z5, rfl, hp, hrl, I, pD, lD, er⟩
        rw [List.length_map, List.drop_length] at er
        have er : (D, row) = reach m (scl qs m) 0 m (List.replicate qs.length 0) := er
        have sA := (s1.trans s2).trans sH
        have htp := Evl.ex_t sA htp
        have bq : B 2001 (m / t1) := bm.le (div_abs pt)
        have bT := bt0.mul bq
        refine ⟨_, rfl, _, rfl, _, m, t0, t1, 1000, 2001, rfl, ⟨tp, rfl, htp⟩, pt, bt0, bt1, bm, by decide, by decide, by decide, by decide, fun w1 H3 e1 e2 => ?_⟩
        subst e1 e2
        refine ⟨_, rfl, p, _, _, _, rfl, rfl, .inl (.inl hp), ix1, rl, rfl, ⟨_, .inl (.inl hrl)⟩, fun L nL => ?_⟩
        refine lc_it (walk_list (xs := row.map V.int)) (fun j H' => Same H3 H' ∧ H' L = some (.lst (((row.map fun e => e * (t0 * (m / t1)) % m).take j).map V.int))) ⟨same_upd nL, upd_same⟩ (fun i H' _ h => .inl (.inl (h.1 _ _ hrl))) ?_ ?_
        · rintro j x H4 H5 hj ⟨sL, hL⟩ ⟨rfl, hx⟩
          obtain ⟨e, he, rfl⟩ : ∃ e, row[j]? = some e ∧ V.int e = x := by
            rw [List.getElem?_map] at hx
            cases h : row[j]? with
            | none => rw [h] at hx; cases hx
            | some n => rw [h] at hx; exact ⟨n, rfl, Option.some.inj hx⟩
          have he2 := I.bnd e (List.mem_of_getElem? he)
          have be : B 2001 e := bm.le (by omega)
          refine ⟨rfl, _, rfl, _, rfl, _, _, rfl, rfl, cm be bT, _, rfl, _, _, rfl, rfl, hm, _, hL, ?_, ?_, ?_⟩
          · rw [List.length_map, List.length_take, List.length_map, I.len, hSl]; exact Nat.lt_of_lt_of_le (show min j qs.length < 1000 by omega) (by decide)
          · intro y o e; rw [upd_ne (ne_of_none e nL)]; exact sL _ _ e
          · rw [upd_same, List.take_add_one, List.getElem?_map, he, List.map_append]; rfl
        · rintro H4 ⟨sL, hL⟩
          rw [List.length_map, List.take_of_length_le (by rw [List.length_map]; exact Nat.le_refl _)] at hL
          refine q _ _ (sA.trans sL) ⟨L, rfl, ?_⟩
          rw [← er]; exact hL
theorem ok_l_sum (T : Txt K mg) : FnOk P w K mg base CX0 4 T.f_l_sum T.d_l_sum Ps_l_sum (spSum K) := by
  refine T.F_l_sum.ok sc_l_sum (fun vs H Q E h => ?_) (fun cdv A outer s H vs Q E hr h => ?_)
  · obtain ⟨l, xs, qs, k, rfl, _⟩ := h; rfl
  · obtain ⟨l, xs, qs, k, rfl, hx, hf, hq, hk, q⟩ := h
    refine ⟨_, (pss_cons (ps_set (i := 1) sc_l_sum.nd rfl (Or.inl rfl) (pe_tup (pa_cons pe_int (pa_cons pe_int pa_nil))))
      (pss_cons (ps_for PassesOwn.never rfl (pi_list (pv 0)) (pg_name (i := 2) sc_l_sum.nd rfl (Or.inl rfl)) (pss_one (ps_set (i := 1) sc_l_sum.nd rfl (Or.inl rfl) (pe_call (ok_l_add T) hr (by rfl) T.g_l_add T.F_l_add.kp T.b_l_add .nil pass0 (pa_cons (pv 1) (pa_cons (pv 2) pa_nil))))))
      (pss_one (ps_ret (pv 1))))), ?_⟩
    refine ⟨sizeLine2 (by simp), fun p0 n0 => ?_⟩
    have s0 := same_upd (o := HO.tup [.int 0, .int 1]) n0
    refine ⟨_, rfl, l, rfl, ⟨_, Evl.ex_l s0 hx⟩, ?_⟩
    have el := hf.len
    have hq3 : ∀ i, ∀ q ∈ qs.take i, 0 < q.2 ∧ B k q.1 ∧ B k q.2 := fun i q h => ⟨hf.pos q (List.mem_of_mem_take h), hq q (List.mem_of_mem_take h)⟩
    refine for_list (K := K) (xs := xs) (fun i σ H' => Same H H' ∧ ∃ (v : V) (z : Option V), σ = [some (.ref l), some v, z] ∧ Fr K H' v ((qs.take i).foldl radd (0, 1)).1 ((qs.take i).foldl radd (0, 1)).2) ⟨s0, _, none, rfl, ⟨p0, rfl, .inl (.inl upd_same)⟩⟩ (fun i σ H' _ h => Evl.ex_l h.1 hx) ?_ ?_
    · rintro i x σ H' hxi ⟨sH, v, z, rfl, fv⟩
      obtain ⟨a, b, e1, f, p⟩ := hf.get hxi
      have bb := hq _ (List.mem_of_getElem? e1)
      have hil : i < qs.length := (List.getElem?_eq_some_iff.mp e1).1
      obtain ⟨c1, c2, c3, _⟩ := sum_ok (k := k) (qs := qs.take i) (p := (0, 1)) (n := 1) (by decide) (B.of (by decide)) B.one rfl (hq3 i)
      have hle : (k + 1) * (qs.take i).length ≤ (k + 1) * qs.length := Nat.mul_le_mul_left _ (by rw [List.length_take]; omega)
      have hk2 : (k + 1) * (qs.length + 1) = (k + 1) * qs.length + (k + 1) := by rw [Nat.mul_add, Nat.mul_one]
      refine ⟨_, rfl, _, rfl, v, x, _, _, a, b, rfl, fv, f.same sH, Int.ne_of_gt c1, Int.ne_of_gt p, c2.mono (by omega), c3.mono (by omega), bb.1.mono (by omega), bb.2.mono (by omega), fun v' H2 s2 f2 => ?_⟩
      refine ⟨sH.trans s2, v', _, rfl, ?_⟩
      rw [List.take_add_one, e1, List.foldl_append]; exact f2
    · rintro σ H' ⟨sH, v, z, rfl, fv⟩
      rw [el, List.take_length] at fv
      exact ⟨_, rfl, q v H' sH fv⟩
theorem ok_l_source (T : Txt K mg) : FnOk P w K mg base CX0 1 T.f_l_source T.d_l_source Ps_l_source (spSource K) := by
  refine T.F_l_source.ok sc_l_source (fun vs H Q E h => ?_) (fun cdv A outer s H vs Q E hr h => ?_)
  · obtain ⟨a, ns, rfl, _⟩ := h; rfl
  · obtain ⟨a, ns, rfl, hS, hlen, q⟩ := h
    refine ⟨_, (pss_cons (ps_set (i := 1) sc_l_source.nd rfl (Or.inl rfl) (pe_op op_add pe_int (pe_op op_mulW pe_int (pe_callB call_len_seq (by rfl) T.m_len PySem.boot_len (pa_cons (pe_slice sl_list (pv 0) po_none (po_some pe_int)) pa_nil)))))
      (pss_cons (ps_for PassesOwn.never rfl (pi_list (pe_slice sl_list (pv 0) po_none (po_some pe_int))) (pg_name (i := 2) sc_l_source.nd rfl (Or.inl rfl)) (pss_one (ps_set (i := 1) sc_l_source.nd rfl (Or.inl rfl) (pe_op op_mod (pe_op op_add (pe_op op_add (pe_op op_mulW (pv 1) pe_int) (pe_op op_mod (pv 2) pe_int)) pe_int) pe_int))))
      (pss_one (ps_ret (pe_lst (pa_cons (pe_callTy call_list_of (by rfl) T.m_list (by decide +kernel) (pa_cons (pe_slice sl_list (pv 0) po_none (po_some pe_int)) pa_nil)) (pa_cons pe_int (pa_cons pe_int (pa_cons (pv 1) pa_nil))))))))), ?_⟩
    have bc : B 7 59 := by unfold B; decide
    have bm : B 32 48271 := by unfold B; decide
    have ecut : cutV (ns.map V.int) none (some 63) = ns.map V.int := by
      unfold cutV
      rw [HT.sIx_none, show HT.sIx (ns.map V.int).length (ns.map V.int).length (some 63) = min 63 (ns.map V.int).length from HT.sIx_nat _ _ 63, List.drop_zero, List.length_map, List.take_of_length_le]
      rw [List.length_map]; omega
    refine ⟨.ref a, rfl, 63, rfl, a, _, rfl, hS, fun c nc => ?_⟩
    rw [ecut]
    have s1 := same_upd (o := HO.lst (ns.map V.int)) nc
    refine ⟨c, _, rfl, .inl (.inl (.inl upd_same)), _, _, rfl, rfl, ?_, _, _, rfl, rfl, ?_⟩
    · rw [List.length_map]; exact cm (n := 7) (m := 7) bc (show (ns.length : Int).natAbs < 2 ^ 7 by omega)
    refine ⟨.ref a, rfl, 63, rfl, a, _, rfl, Evl.ex_l s1 hS, fun c2 nc2 => ?_⟩
    rw [ecut]
    have s2 := same_upd (o := HO.lst (ns.map V.int)) nc2
    refine ⟨c2, rfl, ⟨_, .inl (.inl upd_same)⟩, ?_⟩
    refine for_list (K := K) (xs := ns.map V.int) (fun i σ H' => Same H H' ∧ (H' c2 = some (.lst (ns.map V.int))) ∧ ∃ (sd : Int) (z : Option V), σ = [some (.ref a), some (.int sd), z] ∧ 0 ≤ sd ∧ sd < 2147483563) ?_ ?_ ?_ ?_
    · refine ⟨s1.trans s2, upd_same, _, none, rfl, ?_, ?_⟩
      · rw [List.length_map]; omega
      · rw [List.length_map]; omega
    · rintro i σ H' _ ⟨_, h, _⟩; exact .inl (.inl h)
    · rintro i x σ H' hx ⟨sH, hc2, sd, z, rfl, h0, h1⟩
      obtain ⟨n, hn, rfl⟩ : ∃ n, ns[i]? = some n ∧ V.int n = x := by
        rw [List.getElem?_map] at hx
        cases e : ns[i]? with
        | none => rw [e] at hx; cases hx
        | some n => rw [e] at hx; exact ⟨n, rfl, Option.some.inj hx⟩
      have bs : B 31 sd := by unfold B; omega
      refine ⟨_, rfl, _, _, rfl, rfl, cm bs bm, _, rfl, _, _, rfl, rfl, (by decide : (0:Int) < 2147483563), _, _, rfl, rfl, _, _, rfl, rfl, _, _, rfl, rfl, (by decide : (0:Int) < 2147483563), sH, hc2, _, _, rfl, ?_, ?_⟩
      · exact Int.emod_nonneg _ (by decide)
      · exact Int.emod_lt_of_pos _ (by decide)
    · rintro σ H' ⟨sH, hc2, sd, z, rfl, h0, h1⟩
      refine ⟨.ref a, rfl, 63, rfl, a, _, rfl, Evl.ex_l sH hS, fun c3 nc3 => ?_⟩
      rw [ecut]
      have s3 := same_upd (o := HO.lst (ns.map V.int)) nc3
      refine ⟨c3, _, rfl, .inl (.inl (.inl upd_same)), fun L nL => ?_⟩
      have s4 := same_upd (o := HO.lst (ns.map V.int)) nL
      refine ⟨_, rfl, sizeLine2 (by simp), fun r nr => ?_⟩
      have s5 := same_upd (o := HO.lst [.ref L, .int 0, .int 0, .int sd]) nr
      refine q r _ (((sH.trans s3).trans s4).trans s5) ⟨L, ns, 0, 0, sd, upd_same, ?_, ?_, by omega, by omega, by omega, h0, h1⟩
      · exact s5 _ _ upd_same
      · intro e; subst e; rw [upd_same] at nr; cases nr
theorem ok_l_draw (T : Txt K mg) : FnOk P w K mg base CX0 1 T.f_l_draw T.d_l_draw Ps_l_draw spDraw := by
  refine T.F_l_draw.ok sc_l_draw (fun vs H Q E h => ?_) (fun cdv A outer s H vs Q E hr h => ?_)
  · obtain ⟨a, m, rfl, _⟩ := h; rfl
  · obtain ⟨r, m, rfl, hm, bm, h0R, q⟩ := h
    obtain ⟨L, ns, i, c, sd, hr0, hL, nL, hi, hl, hc, hs0, hs1⟩ := id h0R
    have hrH := hr0
    refine ⟨_, (pss_cons (ps_if (PW.pt (pw_and (pt_cmpR op_eq (pe_ix ix_list (pv 0) pe_int (fun _ _ => rfl)) pe_int (nomark _)) (pw_and1 (pt_cmpR op_lt (pe_ix ix_list (pv 0) pe_int (fun _ _ => rfl)) (pe_callB call_len_seq (by rfl) T.m_len PySem.boot_len (pa_cons (pe_ix ix_list (pv 0) pe_int (fun _ _ => rfl)) pa_nil)) (nomark _))))) (pss_cons (ps_set (i := 2) sc_l_draw.nd rfl (Or.inl rfl) (pe_ix ix_list (pe_ix ix_list (pv 0) pe_int (fun _ _ => rfl)) (pe_ix ix_list (pv 0) pe_int (fun _ _ => rfl)) (fun _ _ => rfl)))
      (pss_cons (ps_asg (pe_op op_add (pe_ix ix_list (pv 0) pe_int (fun _ _ => rfl)) pe_int) (pg_sub (pv 0) pe_int set_list))
      (pss_one (ps_if (pt_cmpR op_ge (pv 2) (pe_op op_pow pe_int pe_int) (nomark _)) (pss_one (ps_asg (pv 2) (pg_sub (pv 0) pe_int set_list))) (pss_one (ps_asg (pe_op op_mod (pe_op op_add (pe_op op_add (pe_op op_mulW (pe_ix ix_list (pv 0) pe_int (fun _ _ => rfl)) pe_int) (pe_op op_mulW (pe_op op_mod (pv 2) pe_int) pe_int)) (pe_ix ix_list (pv 0) pe_int (fun _ _ => rfl))) pe_int) (pg_sub (pv 0) pe_int set_list))))))) pss_nil)
      (pss_cons (ps_if (pt_cmpR op_gt (pe_ix ix_list (pv 0) pe_int (fun _ _ => rfl)) pe_int (nomark _)) (pss_cons (ps_set (i := 3) sc_l_draw.nd rfl (Or.inl rfl) (pe_op op_mod (pe_ix ix_list (pv 0) pe_int (fun _ _ => rfl)) (pv 1)))
      (pss_cons (ps_asg (pe_op op_fdivW (pe_ix ix_list (pv 0) pe_int (fun _ _ => rfl)) (pv 1)) (pg_sub (pv 0) pe_int set_list))
      (pss_one (ps_ret (pv 3))))) pss_nil)
      (pss_cons (ps_set (i := 4) sc_l_draw.nd rfl (Or.inl rfl) (pe_ix ix_list (pv 0) pe_int (fun _ _ => rfl)))
      (pss_cons (ps_asg (pe_op op_mod (pe_op op_add (pe_op op_add (pe_op op_mulW (pv 4) (pv 4)) (pe_op op_mulW (pv 4) pe_int)) pe_int) pe_int) (pg_sub (pv 0) pe_int set_list))
      (pss_one (ps_ret (pe_op op_mod (pe_op op_add (pe_op op_fdivW (pe_ix ix_list (pv 0) pe_int (fun _ _ => rfl)) pe_int) (pe_op op_mulW (pe_op op_mod (pe_ix ix_list (pv 0) pe_int (fun _ _ => rfl)) pe_int) pe_int)) (pv 1)))))))), ?_⟩
    refine seq_by (fun σ H' => ∃ (i c sd : Int) (z1 : Option V), σ = [some (.ref r), some (.int m), z1, none, none] ∧ Gw r H H' ∧ H' r = some (.lst [.ref L, .int i, .int c, .int sd]) ∧ H' L = some (.lst (ns.map V.int)) ∧ 0 ≤ i ∧ 0 ≤ c ∧ 0 ≤ sd ∧ sd < 2147483563) ?_ (fun fin => ?_)
    · rintro σ H' ⟨i, c, sd, z1, rfl, g, hr0, hL, hi, hc, hs0, hs1⟩
      have hR : SqL K H' r [.ref L, .int i, .int c, .int sd] := .inl (.inl hr0)
      have mo : ∀ (c' sd' : Int), 0 ≤ c' → 0 ≤ sd' → sd' < 2147483563 → Mo r H (upd H' r (.lst [.ref L, .int i, .int c', .int sd'])) := fun c' sd' h1 h2 h3 =>
        ⟨fun a o n e => by rw [upd_ne n]; exact g a o n e, h0R, fun L' hL' => by
          obtain ⟨_, _, _, _, e1, _⟩ := hL'
          rw [hrH] at e1; cases e1
          exact ⟨ns, i, c', sd', upd_same, by rw [upd_ne nL]; exact hL, nL, hi, hl, h1, h2, h3⟩⟩
      refine ⟨_, rfl, _, _, _, _, rfl, rfl, hR, ix2, _, _, rfl, rfl, _, rfl, brI (fun hp => ?_) (fun hp => ?_)⟩
      · refine ⟨_, rfl, _, _, _, _, rfl, rfl, hR, ix2, _, rfl, _, _, rfl, rfl, hm, ?_⟩
        refine ⟨_, rfl, _, _, _, _, rfl, rfl, hR, ix2, _, rfl, _, _, rfl, rfl, cdW hm bm, _, rfl, r, _, _, 2, rfl, rfl, hr0, rfl, ?_⟩
        refine ⟨_, rfl, ?_⟩
        refine q _ _ (Int.emod_nonneg _ (by omega)) (Int.emod_lt_of_pos _ hm) ?_
        exact mo _ _ (Int.ediv_nonneg hc (by omega)) hs0 hs1
      · refine ⟨_, rfl, _, _, _, _, rfl, rfl, hR, ix3, ?_⟩
        have bs : B 31 sd := by unfold B; omega
        have b4 : B 20 40123 := by unfold B; decide
        have h1 := Int.emod_nonneg (sd * sd + sd * 40123 + 70001) (show (2147483563 : Int) ≠ 0 by decide)
        have h2 := Int.emod_lt_of_pos (sd * sd + sd * 40123 + 70001) (show (0 : Int) < 2147483563 by decide)
        refine ⟨_, rfl, _, rfl, _, _, rfl, rfl, cm bs bs, _, rfl, _, _, rfl, rfl, cm bs b4, _, _, rfl, rfl, _, _, rfl, rfl, _, _, rfl, rfl, (by decide : (0 : Int) < 2147483563), _, rfl, r, _, _, 3, rfl, rfl, hr0, rfl, ?_⟩
        have hR2 : SqL K (upd H' r (.lst [.ref L, .int i, .int c, .int ((sd * sd + sd * 40123 + 70001) % 2147483563)])) r [.ref L, .int i, .int c, .int ((sd * sd + sd * 40123 + 70001) % 2147483563)] := .inl (.inl upd_same)
        have b5 : B 7 59 := by unfold B; decide
        have b6 : ∀ e : Int, B 13 (e % 8111) := fun e => by unfold B; have := Int.emod_nonneg e (show (8111 : Int) ≠ 0 by decide); have := Int.emod_lt_of_pos e (show (0 : Int) < 8111 by decide); omega
        have b7 : B 8 229 := by unfold B; decide
        refine ⟨_, rfl, _, _, _, _, rfl, rfl, hR2, ix3, _, _, rfl, rfl, cdW (by decide) b5, _, rfl, _, _, _, _, rfl, rfl, hR2, ix3, _, _, rfl, rfl, (by decide : (0 : Int) < 8111), _, _, rfl, rfl, cm (b6 _) b7, _, _, rfl, rfl, _, rfl, _, _, rfl, rfl, hm, ?_⟩
        exact q _ _ (Int.emod_nonneg _ (by omega)) (Int.emod_lt_of_pos _ hm) (mo _ _ hc h1 h2)
    · have hR : SqL K H r [.ref L, .int i, .int c, .int sd] := .inl (.inl hr0)
      have hLL : SqL K H L (ns.map V.int) := .inl (.inl hL)
      refine ⟨_, rfl, _, _, _, _, rfl, rfl, hR, ix2, rfl, _, rfl, brEq (fun hc0 => ?_) (fun hc0 => ?_)⟩
      · refine ⟨_, rfl, _, _, _, _, rfl, rfl, hR, ix1, _, rfl, _, _, _, _, rfl, rfl, hR, ix0, L, _, rfl, .inl hLL, _, _, rfl, rfl, _, rfl, brI (fun hlt => ?_) (fun hlt => ?_)⟩
        · rw [List.length_map] at hlt
          obtain ⟨k, rfl⟩ := Int.eq_ofNat_of_zero_le hi
          have hk : k < ns.length := by omega
          refine ⟨_, rfl, _, _, _, _, rfl, rfl, hR, ix0, _, rfl, _, _, _, _, rfl, rfl, hR, ix1, L, _, _, .int ns[k], rfl, rfl, hLL, atI_nat (by rw [List.getElem?_map, List.getElem?_eq_getElem hk]; rfl), ?_⟩
          refine ⟨_, rfl, _, _, _, _, rfl, rfl, hR, ix1, _, _, rfl, rfl, _, rfl, r, _, _, 1, rfl, rfl, hr0, rfl, ?_⟩
          have hR2 : SqL K (upd H r (.lst [.ref L, .int (k + 1), .int c, .int sd])) r [.ref L, .int (k + 1), .int c, .int sd] := .inl (.inl upd_same)
          refine ⟨_, rfl, _, _, rfl, rfl, (⟨by decide, by decide, by decide⟩ : CPow 10 18), _, _, rfl, rfl, _, rfl, brI (fun hbig => ?_) (fun hbig => ?_)⟩
          · refine ⟨_, rfl, _, rfl, r, _, _, 2, rfl, rfl, upd_same, rfl, ?_⟩
            refine fin _ _ ⟨k + 1, ns[k], sd, _, rfl, fun a o n e => ?_, ?_, ?_, by omega, ?_, hs0, hs1⟩
            · rw [upd_ne n, upd_ne n]; exact e
            · rw [upd_same]; rfl
            · rw [upd_ne nL, upd_ne nL]; exact hL
            · have : (10 : Int) ^ (18 : Int).toNat ≤ ns[k] := hbig
              have h10 : (0 : Int) ≤ 10 ^ (18 : Int).toNat := by decide
              omega
          · have bs : B 31 sd := by unfold B; omega
            have b4 : B 20 40692 := by unfold B; decide
            have b6 : B 32 (ns[k] % 2147483563) := by unfold B; have := Int.emod_nonneg ns[k] (show (2147483563 : Int) ≠ 0 by decide); have := Int.emod_lt_of_pos ns[k] (show (0 : Int) < 2147483563 by decide); omega
            have b7 : B 8 67 := by unfold B; decide
            refine ⟨_, rfl, _, _, _, _, rfl, rfl, hR2, ix3, _, _, rfl, rfl, cm bs b4, _, rfl, _, _, rfl, rfl, (by decide : (0 : Int) < 2147483563), _, _, rfl, rfl, cm b6 b7, _, _, rfl, rfl, _, rfl, _, _, _, _, rfl, rfl, hR2, ix1, _, _, rfl, rfl, _, _, rfl, rfl, (by decide : (0 : Int) < 2147483563), _, rfl, r, _, _, 3, rfl, rfl, upd_same, rfl, ?_⟩
            refine fin _ _ ⟨k + 1, c, (sd * 40692 + ns[k] % 2147483563 * 67 + (k + 1)) % 2147483563, _, rfl, fun a o n e => ?_, ?_, ?_, by omega, hc, Int.emod_nonneg _ (by decide), Int.emod_lt_of_pos _ (by decide)⟩
            · rw [upd_ne n, upd_ne n]; exact e
            · rw [upd_same]; rfl
            · rw [upd_ne nL, upd_ne nL]; exact hL
        · exact fin _ _ ⟨i, c, sd, _, rfl, fun a o n e => e, hr0, hL, hi, hc, hs0, hs1⟩
      · exact fin _ _ ⟨i, c, sd, _, rfl, fun a o n e => e, hr0, hL, hi, hc, hs0, hs1⟩
theorem ok_l_choice (T : Txt K mg) : FnOk P w K mg base CX0 2 T.f_l_choice T.d_l_choice Ps_l_choice (spChoice K) := by
  refine T.F_l_choice.ok sc_l_choice (fun vs H Q E h => ?_) (fun cdv A outer s H vs Q E hr h => ?_)
  · obtain ⟨a, l, xs, rfl, _⟩ := h; rfl
  · obtain ⟨r, l, xs, rfl, hx, hlr, h0, hl, hR, q⟩ := h
    refine ⟨_, (pss_one (ps_ret (pe_ix ix_list (pv 1) (pe_call (ok_l_draw T) hr (by rfl) T.g_l_draw T.F_l_draw.kp T.b_l_draw .nil pass0 (pa_cons (pv 0) (pa_cons (pe_callB call_len_seq (by rfl) T.m_len PySem.boot_len (pa_cons (pv 1) pa_nil)) pa_nil))) (fun _ _ => rfl)))), ?_⟩
    refine ⟨_, rfl, _, rfl, _, rfl, l, xs, rfl, .inl hx, r, _, rfl, by omega, ?_, hR, fun x H' x0 x1 mo => ?_⟩
    · show B 2000 (xs.length : Int)
      exact B.mono (n := 20) (show (xs.length : Int).natAbs < 2 ^ 20 by omega)
    · obtain ⟨j, rfl⟩ := Int.eq_ofNat_of_zero_le x0
      have hj : j < xs.length := by omega
      exact ⟨l, xs, _, xs[j], rfl, rfl, sql_mo mo hlr hx, atI_nat (List.getElem?_eq_getElem hj), q _ _ (List.getElem_mem hj) mo⟩
theorem ok_l_small (T : Txt K mg) : FnOk P w K mg base CX0 3 T.f_l_small T.d_l_small Ps_l_small (spDrawn K 5) := by
  refine T.F_l_small.ok sc_l_small (fun vs H Q E h => ?_) (fun cdv A outer s H vs Q E hr h => ?_)
  · obtain ⟨r, rfl, _⟩ := h; rfl
  · obtain ⟨r, rfl, hR, q⟩ := h
    refine ⟨_, (pss_one (ps_ret (pe_call (ok_l_reduce T) hr (by rfl) T.g_l_reduce T.F_l_reduce.kp T.b_l_reduce .nil pass0 (pa_cons (pe_op op_sub (pe_call (ok_l_draw T) (hr.mono (by decide)) (by rfl) T.g_l_draw T.F_l_draw.kp T.b_l_draw .nil pass0 (pa_cons (pv 0) (pa_cons pe_int pa_nil))) pe_int) (pa_cons (pe_call (ok_l_choice T) hr (by rfl) T.g_l_choice T.F_l_choice.kp T.b_l_choice .nil pass0 (pa_cons (pv 0) (pa_cons (pe_lst (pa_cons pe_int (pa_cons pe_int (pa_cons pe_int (pa_cons pe_int (pa_cons pe_int pa_nil)))))) pa_nil))) pa_nil))))), ?_⟩
    refine ⟨_, rfl, r, 25, rfl, by decide, (B.of (n := 10) (by decide)).mono, hR, fun x H1 x0 x1 m1 => ?_⟩
    refine ⟨_, _, rfl, rfl, _, rfl, sizeLine2 (by simp), fun l nl => ?_⟩
    have m2 := Mo.new (o := HO.lst [.int 1, .int 1, .int 2, .int 3, .int 4]) m1.b nl
    refine ⟨r, l, _, rfl, .inl (.inl upd_same), m1.b.ne nl, by simp, by simp, m2.b, fun y H2 hy m3 => ?_⟩
    obtain ⟨d, rfl, hd⟩ : ∃ d : Int, y = .int d ∧ 1 ≤ d ∧ d ≤ 4 := by
      simp only [List.mem_cons, List.not_mem_nil, or_false] at hy
      rcases hy with rfl | rfl | rfl | rfl | rfl <;> exact ⟨_, rfl, by decide, by decide⟩
    have bn : B 5 (x - 12) := B.of (by omega)
    have bd : B 5 d := B.of (by omega)
    refine ⟨_, d, rfl, by omega, bn.mono, bd.mono, fun v H3 s f => ?_⟩
    exact q v _ _ H3 (((m1.trans m2).trans m3).trans (.same m3.b s)) (.red (by omega) f bn bd)
end
end EP
namespace EP
open PySem PySem.Spec PyProof.Rows L2
section
variable {P : Program} {w : World} {K : PySem.W.Frag} {mg : Str → Option Value} {base : Heap}
def spLaw (K : PySem.W.Frag) : Sp := fun vs H Q _ => ∃ (a : Addr) (ns : List Int), vs = [.ref a] ∧ SqL K H a (ns.map V.int) ∧ ns.length ≤ 63 ∧ ∀ H', Q (.bl true) H'
set_option maxHeartbeats 8000000 in
theorem ok_law (T : Txt K mg) : FnOk P w K mg base CX0 5 T.f_law T.d_law Ps_law (spLaw K) := by
  refine T.F_law.ok sc_law (fun vs H Q E h => ?_) (fun cdv A outer s H vs Q E hr h => ?_)
  · obtain ⟨a, ns, rfl, _⟩ := h; rfl
  · obtain ⟨sc, ns, rfl, hS, hlen, q⟩ := h
    refine ⟨_, (pss_cons (ps_set (i := 1) sc_law.nd rfl (Or.inr rfl) (pe_call (ok_l_source T) (hr.mono (by decide)) (by rfl) T.g_l_source T.F_l_source.kp T.b_l_source .nil pass0 (pa_cons (pv 0) pa_nil)))
      (pss_cons (ps_for PassesOwn.never rfl (pi_range1 rfl T.m_range (pa_cons pe_int pa_nil)) (pg_name (i := 2) sc_law.nd rfl (Or.inl rfl)) (pss_cons (ps_set (i := 3) sc_law.nd rfl (Or.inl rfl) (pe_lst pa_nil))
      (pss_cons (ps_for PassesOwn.never rfl (pi_range1 rfl T.m_range (pa_cons (pe_call (ok_l_draw T) (hr.mono (by decide)) (by rfl) T.g_l_draw T.F_l_draw.kp T.b_l_draw .nil pass0 (pa_cons (pv 1) (pa_cons pe_int pa_nil))) pa_nil)) (pg_name (i := 4) sc_law.nd rfl (Or.inl rfl)) (pss_one (ps_expr (pe_bm PySem.F.plainAttrs_list PySem.F.slot_list_append PySem.F.type_list_append mt_append (pv 3) (pa_cons (pe_call (ok_l_choice T) (hr.mono (by decide)) (by rfl) T.g_l_choice T.F_l_choice.kp T.b_l_choice .nil pass0 (pa_cons (pv 1) (pa_cons (pe_lst (pa_cons (pe_call (ok_l_reduce T) (hr.mono (by decide)) (by rfl) T.g_l_reduce T.F_l_reduce.kp T.b_l_reduce .nil pass0 (pa_cons (pe_op op_sub (pe_call (ok_l_draw T) (hr.mono (by decide)) (by rfl) T.g_l_draw T.F_l_draw.kp T.b_l_draw .nil pass0 (pa_cons (pv 1) (pa_cons pe_int pa_nil))) pe_int) (pa_cons (pe_op op_add pe_int (pe_call (ok_l_draw T) (hr.mono (by decide)) (by rfl) T.g_l_draw T.F_l_draw.kp T.b_l_draw .nil pass0 (pa_cons (pv 1) (pa_cons pe_int pa_nil)))) pa_nil))) (pa_cons (pe_tup (pa_cons pe_int (pa_cons pe_int pa_nil))) (pa_cons (pe_call (ok_l_reduce T) (hr.mono (by decide)) (by rfl) T.g_l_reduce T.F_l_reduce.kp T.b_l_reduce .nil pass0 (pa_cons (pe_op op_add pe_int (pe_call (ok_l_draw T) (hr.mono (by decide)) (by rfl) T.g_l_draw T.F_l_draw.kp T.b_l_draw .nil pass0 (pa_cons (pv 1) (pa_cons (pe_op op_pow pe_int pe_int) pa_nil)))) (pa_cons (pe_op op_add pe_int (pe_call (ok_l_draw T) (hr.mono (by decide)) (by rfl) T.g_l_draw T.F_l_draw.kp T.b_l_draw .nil pass0 (pa_cons (pv 1) (pa_cons pe_int pa_nil)))) pa_nil))) pa_nil)))) pa_nil))) pa_nil)))))
      (pss_cons (ps_set (i := 5) sc_law.nd rfl (Or.inl rfl) pe_int)
      (pss_cons (ps_for PassesOwn.never rfl (pi_list (pv 3)) (pg_name (i := 6) sc_law.nd rfl (Or.inl rfl)) (pss_one (ps_set (i := 5) sc_law.nd rfl (Or.inl rfl) (pe_op op_mulW (pe_op op_fdivW (pv 5) (pe_call (ok_l_divisor T) (hr.mono (by decide)) (by rfl) T.g_l_divisor T.F_l_divisor.kp T.b_l_divisor .nil pass0 (pa_cons (pv 5) (pa_cons (pe_ix ix_tup (pv 6) pe_int (fun _ _ => rfl)) pa_nil)))) (pe_ix ix_tup (pv 6) pe_int (fun _ _ => rfl))))))
      (pss_cons (ps_set (i := 7) sc_law.nd rfl (Or.inl rfl) (pe_call (ok_l_choice T) (hr.mono (by decide)) (by rfl) T.g_l_choice T.F_l_choice.kp T.b_l_choice .nil pass0 (pa_cons (pv 1) (pa_cons (pe_lst (pa_cons (pe_call (ok_l_sum T) hr (by rfl) T.g_l_sum T.F_l_sum.kp T.b_l_sum .nil pass0 (pa_cons (pe_lc (own := [("_law_value", 6)]) (g := (gName 6)) (tt := tYes) rfl sc_law.nd (pi_list (pv 3)) (blkOk_by (N := N_law) (sc := defScope s_law) (by decide +kernel)) (fun _ _ _ _ _ => (pg_name (i := 6) sc_law.nd rfl (Or.inl rfl))) (fun _ _ _ _ _ => pts_nil) (fun _ _ _ _ _ => (pe_call (ok_l_times T) (hr.mono (by decide)) (by rfl) T.g_l_times T.F_l_times.kp T.b_l_times .nil pass0 (pa_cons (pe_op op_sub (pe_call (ok_l_draw T) (hr.mono (by decide)) (by rfl) T.g_l_draw T.F_l_draw.kp T.b_l_draw .nil pass0 (pa_cons (pv 1) (pa_cons pe_int pa_nil))) pe_int) (pa_cons (pv 6) pa_nil))))) pa_nil)) (pa_cons (pe_call (ok_l_reduce T) (hr.mono (by decide)) (by rfl) T.g_l_reduce T.F_l_reduce.kp T.b_l_reduce .nil pass0 (pa_cons (pe_call (ok_l_draw T) (hr.mono (by decide)) (by rfl) T.g_l_draw T.F_l_draw.kp T.b_l_draw .nil pass0 (pa_cons (pv 1) (pa_cons (pe_op op_pow pe_int pe_int) pa_nil))) (pa_cons (pv 5) pa_nil))) (pa_cons (pe_call (ok_l_reduce T) (hr.mono (by decide)) (by rfl) T.g_l_reduce T.F_l_reduce.kp T.b_l_reduce .nil pass0 (pa_cons pe_int (pa_cons (pe_op op_mulW (pv 5) (pe_op op_add pe_int (pe_call (ok_l_draw T) (hr.mono (by decide)) (by rfl) T.g_l_draw T.F_l_draw.kp T.b_l_draw .nil pass0 (pa_cons (pv 1) (pa_cons pe_int pa_nil))))) pa_nil))) (pa_cons (pe_call (ok_l_small T) (hr.mono (by decide)) (by rfl) T.g_l_small T.F_l_small.kp T.b_l_small .nil pass0 (pa_cons (pv 1) pa_nil)) pa_nil))))) pa_nil))))
      (pss_cons (ps_par (i := 8) (j := 9) (by rfl) sc_law.nd rfl rfl (by decide) rfl rfl (pa_cons (pe_callTy call_list_of (by rfl) T.m_list (by decide +kernel) (pa_cons (pv 3) pa_nil)) (pa_cons (pe_call (ok_congruence_solution T) (hr.mono (by decide)) (by rfl) T.g_congruence_solution T.F_congruence_solution.kp T.b_congruence_solution .nil pass0 (pa_cons (pv 3) (pa_cons (pv 7) pa_nil))) pa_nil)) (by rfl))
      (pss_cons (ps_set (i := 10) sc_law.nd rfl (Or.inl rfl) (pe_cmpR op_eq (pe_op op_mod (pv 5) (pe_ix ix_tup (pv 7) pe_int (fun _ _ => rfl))) pe_int (nomark _)))
      (pss_cons (ps_if (PW.pt (pw_or (pt_cmpR (op_neD hr.units) (pv 3) (pv 8) (nomark _)) (pw_or1 (pt_cmpR op_ne (pe_cmpR op_notN (pv 9) pe_non (nomark _)) (pv 10) (nomark _))))) (pss_one (ps_ret pe_bl)) pss_nil)
      (pss_cons (ps_if (PW.pt (pw_or (pt_cmpR (op_neD hr.units) (pe_call (ok_congruence_solution T) (hr.mono (by decide)) (by rfl) T.g_congruence_solution T.F_congruence_solution.kp T.b_congruence_solution .nil pass0 (pa_cons (pv 8) (pa_cons (pv 7) pa_nil))) (pv 9) (nomark _)) (pw_or1 (pt_cmpR (op_neD hr.units) (pe_call (ok_congruence_solution T) (hr.mono (by decide)) (by rfl) T.g_congruence_solution T.F_congruence_solution.kp T.b_congruence_solution .nil pass0 (pa_cons (pe_callTy call_tuple_of (by rfl) T.m_tuple (by decide +kernel) (pa_cons (pv 3) pa_nil)) (pa_cons (pv 7) pa_nil))) (pv 9) (nomark _))))) (pss_one (ps_ret pe_bl)) pss_nil)
      (pss_one (ps_if (pt_val (pv 10)) (pss_cons (ps_if (PW.pt (pw_or (pt_not (pt_val (pe_callB call_isi (by rfl) T.m_isinstance (by decide +kernel) (pa_cons (pv 9) (pa_cons (pe_bltn (v := .ty "list") (u := .type "list") (by rfl) T.m_list (by decide +kernel) rfl) pa_nil))))) (pw_or1 (pt_cmpR op_ne (pe_callB call_len_seq (by rfl) T.m_len PySem.boot_len (pa_cons (pv 9) pa_nil)) (pe_callB call_len_seq (by rfl) T.m_len PySem.boot_len (pa_cons (pv 3) pa_nil)) (nomark _))))) (pss_one (ps_ret pe_bl)) pss_nil)
      (pss_cons (ps_if (pt_not (pt_val (pe_callB (cr_all rfl) (by rfl) T.m_all (by decide +kernel) (pa_cons (pe_lc (own := [("_law_one", 12)]) (g := (gName 12)) (tt := tYes) rfl sc_law.nd (pi_list (pv 9)) (blkOk_by (N := N_law) (sc := defScope s_law) (by decide +kernel)) (fun _ _ _ _ _ => (pg_name (i := 12) sc_law.nd rfl (Or.inl rfl))) (fun _ _ _ _ _ => pts_nil) (fun _ _ _ _ _ => (pe_and (pe_callB (r := rIsi K) (id := "isinstance") call_isi (by rfl) T.m_isinstance (by decide +kernel) (pa_cons (pv 12) (pa_cons (pe_bltn (v := .ty "int") (u := .type "int") (by rfl) T.m_int (by decide +kernel) rfl) pa_nil))) (pe_one (pe_not (pe_callB (r := rIsi K) (id := "isinstance") call_isi (by rfl) T.m_isinstance (by decide +kernel) (pa_cons (pv 12) (pa_cons (pe_bltn (v := .ty "bool") (u := .type "bool") (by rfl) T.m_bool (by decide +kernel) rfl) pa_nil)))))))) pa_nil)))) (pss_one (ps_ret pe_bl)) pss_nil)
      (pss_cons (ps_set (i := 11) sc_law.nd rfl (Or.inl rfl) (pe_call (ok_l_sum T) hr (by rfl) T.g_l_sum T.F_l_sum.kp T.b_l_sum .nil pass0 (pa_cons (pe_lc (own := [("_law_k", 4), ("_law_value", 6)]) (g := (gTup K 2 (gCons (gName 4) (gCons (gName 6) gNil)))) (tt := tYes) rfl sc_law.nd (RZ.pi_zipA (by rfl) T.m_zip (pa_cons (pv 9) (pa_cons (pv 3) pa_nil))) (blkOk_by (N := N_law) (sc := defScope s_law) (by decide +kernel)) (fun _ _ _ _ _ => (pg_tup rfl (pgs_cons (pg_name (i := 4) sc_law.nd rfl (Or.inl rfl)) (pgs_cons (pg_name (i := 6) sc_law.nd rfl (Or.inl rfl)) pgs_nil)))) (fun _ _ _ _ _ => pts_nil) (fun _ _ _ _ _ => (pe_call (ok_l_times T) (hr.mono (by decide)) (by rfl) T.g_l_times T.F_l_times.kp T.b_l_times .nil pass0 (pa_cons (pv 4) (pa_cons (pv 6) pa_nil))))) pa_nil)))
      (pss_one (ps_if (pt_cmpR op_ne (pe_ix ix_tup (pe_call (ok_l_subtract T) (hr.mono (by decide)) (by rfl) T.g_l_subtract T.F_l_subtract.kp T.b_l_subtract .nil pass0 (pa_cons (pv 11) (pa_cons (pv 7) pa_nil))) pe_int (fun _ _ => rfl)) pe_int (nomark _)) (pss_one (ps_ret pe_bl)) pss_nil))))) pss_nil))))))))))))
      (pss_one (ps_ret pe_bl)))), ?_⟩
    refine ⟨_, rfl, sc, ns, rfl, hS, hlen, fun r H0 s0 hR => ?_⟩
    refine ⟨4, rfl, by decide, by decide, ?_⟩
    refine for_range (n := 4) (fun i σ H' => Rng H' r ∧ ∃ z2 z3 z4 z5 z6 z7 z8 z9 z10 z11 z12, σ = [some (.ref sc), some (.ref r), z2, z3, z4, z5, z6, z7, z8, z9, z10, z11, z12]) ⟨hR, _, _, _, _, _, _, _, _, _, _, _, rfl⟩ ?_ ?_
    · rintro i σ Hi hi ⟨hR, z2, z3, z4, z5, z6, z7, z8, z9, z10, z11, z12, rfl⟩
      have c6 : CPow 10 6 := ⟨by decide, by decide, by decide⟩
      have c9 : CPow 10 9 := ⟨by decide, by decide, by decide⟩
      -- values = []
      refine ⟨sizeLine2 (by simp), fun vl nvl => ?_⟩
      have m0 := Mo.new (o := HO.lst []) hR nvl
      have vlr : vl ≠ r := hR.ne nvl
      refine ⟨_, rfl, r, 9, rfl, by decide, (B.of (n := 10) (by decide)).mono, m0.b, fun x0 H1 x00 x01 m1 => ?_⟩
      obtain ⟨n, rfl⟩ := Int.eq_ofNat_of_zero_le x00
      refine ⟨_, rfl, by omega, by omega, ?_⟩
      refine for_range (n := ((n : Nat) : Int).toNat) (fun j σ H' => Mo r Hi H' ∧ ∃ (vs : List V) (qs : List (Int × Int)) (z4 : Option V), σ = [some (.ref sc), some (.ref r), some (.int (0 + (i : Nat))), some (.ref vl), z4, z5, z6, z7, z8, z9, z10, z11, z12] ∧ H' vl = some (.lst vs) ∧ Fqs K H' 20 vs qs ∧ vs.length = j) ?_ ?_ ?_
      · exact ⟨m0.trans m1, [], [], _, rfl, m1.g _ _ vlr upd_same, .nil, rfl⟩
      · rintro j σ H2 hj ⟨m2, vs, qs, z4, rfl, hvl, hv, hl⟩
        rw [Int.toNat_natCast] at hj
        refine ⟨_, rfl, .inl ⟨rfl, _, .inl (.inl hvl)⟩, ?_⟩
        refine ⟨_, rfl, _, rfl, r, 25, rfl, by decide, (B.of (n := 10) (by decide)).mono, m2.b, fun a H3 a0 a1 m3 => ?_⟩
        refine ⟨_, _, rfl, rfl, _, rfl, r, 12, rfl, by decide, (B.of (n := 10) (by decide)).mono, m3.b, fun b H4 b0 b1 m4 => ?_⟩
        have bn : B 20 (a - 12) := B.of (by simp only [Nat.reducePow]; omega)
        have bd : B 20 (1 + b) := B.of (by simp only [Nat.reducePow]; omega)
        refine ⟨_, _, rfl, rfl, _, _, rfl, by omega, bn.mono, bd.mono, fun v5 H5 s5 f5 => ?_⟩
        have m5 := Mo.same m4.b s5
        have f5 : Fq K H5 20 v5 _ _ := .red (by omega) f5 bn bd
        refine ⟨sizeLine2 (by simp), fun p6 n6 => ?_⟩
        have m6 := Mo.new (o := HO.tup [.int 0, .int 1]) m5.b n6
        have f6 := Fq.lit (K := K) (k := 20) (upd_same (H := H5) (a := p6) (o := HO.tup [.int 0, .int 1])) (by decide) (B.of (by decide)) (B.of (by decide)) (by decide)
        refine ⟨_, rfl, _, _, rfl, rfl, c6, r, _, rfl, by decide, (B.of (n := 21) (by decide)).mono, m6.b, fun c H7 c0 c1 m7 => ?_⟩
        refine ⟨_, _, rfl, rfl, _, rfl, r, 99, rfl, by decide, (B.of (n := 21) (by decide)).mono, m7.b, fun d H8 d0 d1 m8 => ?_⟩
        simp only [Int.reduceToNat, Int.reducePow] at c1
        have bn2 : B 20 (1 + c) := B.of (by simp only [Nat.reducePow]; omega)
        have bd2 : B 20 (1 + d) := B.of (by simp only [Nat.reducePow]; omega)
        refine ⟨_, _, rfl, rfl, _, _, rfl, by omega, bn2.mono, bd2.mono, fun v9 H9 s9 f9 => ?_⟩
        have m9 := Mo.same m8.b s9
        have f9 : Fq K H9 20 v9 _ _ := .red (by omega) f9 bn2 bd2
        refine ⟨sizeLine2 (by simp), fun lA nA => ?_⟩
        have mA := Mo.new (o := HO.lst [v5, .ref p6, v9]) m9.b nA
        refine ⟨r, lA, _, rfl, .inl (.inl upd_same), m9.b.ne nA, by simp, by simp, mA.b, fun vb HB hvb mB => ?_⟩
        have mAB := mA.trans mB
        have m79 := (m7.trans m8).trans m9
        obtain ⟨a', b', fb⟩ : ∃ a b, Fq K HB 20 vb a b := by
          simp only [List.mem_cons, List.not_mem_nil, or_false] at hvb
          rcases hvb with rfl | rfl | rfl
          · exact ⟨_, _, ((f5.mo m6).mo m79).mo mAB⟩
          · exact ⟨_, _, (f6.mo m79).mo mAB⟩
          · exact ⟨_, _, f9.mo mAB⟩
        have mall := (((m3.trans m4).trans m5).trans m6).trans (m79.trans mAB)
        have hvB := mall.g _ _ vlr hvl
        refine ⟨vl, vs, vb, rfl, rfl, hvB, Nat.lt_of_lt_of_le (show vs.length < 1000 by omega) (by decide), ?_⟩
        exact ⟨(m2.trans mall).mut nvl, vs ++ [vb], qs ++ [(a', b')], _, rfl, upd_same, .snoc ((hv.mo mall).mut hvB) (fb.mut hvB), by rw [List.length_append, hl]; rfl⟩
      rintro σ H2 ⟨m2, vs, qs, z4, rfl, hvl, hv, hl⟩
      rw [Int.toNat_natCast] at hl
      have el := hv.len
      have hbd := hv.bd
      have hpos := hv.frs.pos
      -- whole
      refine ⟨_, rfl, vl, rfl, ⟨_, .inl (.inl hvl)⟩, ?_⟩
      refine for_list (K := K) (xs := vs) (fun j σ H' => H' = H2 ∧ ∃ (wh : Int) (z6 : Option V), σ = [some (.ref sc), some (.ref r), some (.int (0 + (i : Nat))), some (.ref vl), z4, some (.int wh), z6, z7, z8, z9, z10, z11, z12] ∧ wh = cden (qs.take j) 1 ∧ 0 < wh ∧ B (1 + 20 * j) wh) ⟨rfl, 1, _, rfl, rfl, by decide, B.one⟩ (fun j σ H' _ h => h.1 ▸ .inl (.inl hvl)) ?_ ?_
      · rintro j x σ H' hxj ⟨rfl, wh, z6, rfl, ew, pw, bw⟩
        obtain ⟨a, b, e1, ⟨p, rfl, f⟩, pb⟩ := hv.frs.get hxj
        have bb := (hbd _ (List.mem_of_getElem? e1)).2.1
        have hj : j < vs.length := (List.getElem?_eq_some_iff.mp hxj).1
        have bg : B 20 (Int.gcd wh b : Int) := bb.le (gcd_le (by omega))
        have bq : B (1 + 20 * j) (wh / (Int.gcd wh b : Int)) := bw.le (div_abs (gcd_posI pb))
        refine ⟨_, rfl, _, rfl, _, rfl, _, _, _, _, rfl, rfl, f, ix1, wh, b, rfl, _, _, rfl, rfl, cdW (gcd_posI pb) bg, _, rfl, _, _, _, _, rfl, rfl, f, ix1, _, _, rfl, rfl, cm bq bb (by omega) (by decide) (by omega), rfl, lstep wh b, _, rfl, ?_, lstep_pos pw pb, ?_⟩
        · rw [cden_take e1, ew]
        · have := (bw.mul bb).le (lstep_le pw pb)
          rw [Nat.mul_add, Nat.mul_one, ← Nat.add_assoc]; exact this
      rintro σ H' ⟨rfl, wh, z6, rfl, ew, pw, bw⟩
      rw [el, List.take_length] at ew
      have bw : B 180 wh := bw.mono (by omega)
      -- target
      refine ⟨_, rfl, _, rfl, vl, rfl, ⟨_, .inl (.inl hvl)⟩, fun D nD => ?_⟩
      have Dr : D ≠ r := m2.b.ne nD
      refine lc_it (walk_list (xs := vs)) (fun j H3 => Mo r H' H3 ∧ ∃ (us : List V) (ps : List (Int × Int)), H3 D = some (.lst us) ∧ Fqs K H3 40 us ps ∧ us.length = j) ⟨(Mo.refl m2.b).mut nD, [], [], upd_same, .nil, rfl⟩ (fun j H3 _ h => .inl (.inl (h.1.g _ _ vlr hvl))) ?_ ?_
      · rintro j x H3 H4 hj ⟨m3, us, ps, hD, hu, hul⟩ ⟨rfl, hxj⟩
        refine ⟨rfl, ?_⟩
        obtain ⟨a, b, e1, fx, pb⟩ := hv.frs.get hxj
        have bb := hbd _ (List.mem_of_getElem? e1)
        refine ⟨_, rfl, r, 99, rfl, by decide, (B.of (n := 10) (by decide)).mono, m3.b, fun y H5 y0 y1 m5 => ?_⟩
        have by' : B 10 (y - 49) := B.of (by omega)
        have fx' := (fx.mo m3).mo m5
        refine ⟨_, _, rfl, rfl, _, rfl, _, x, a, b, rfl, fx', by omega, by'.mono, bb.1.mono, bb.2.1.mono, fun v6 H6 s6 f6 => ?_⟩
        have f6 : Fq K H6 40 v6 _ _ := .red (by omega) f6 (by'.mul bb.1).mono bb.2.1.mono
        have m6 := m5.trans (.same m5.b s6)
        have hD6 := m6.g _ _ Dr hD
        exact ⟨us, hD6, Nat.lt_of_lt_of_le (show us.length < 1000 by omega) (by decide), (m3.trans m6).mut nD, us ++ [v6], _, upd_same, .snoc ((hu.mo m6).mut hD6) (f6.mut hD6), by rw [List.length_append, hul]; rfl⟩
      rintro H3 ⟨m3, us, ps, hD, hu, hul⟩
      have pl := hu.len
      have sb := sum_ok (k := 40) (qs := ps) (p := (0, 1)) (n := 1) (by decide) (B.of (by decide)) B.one rfl (fun q h => ⟨hu.frs.pos q h, (hu.bd q h).1, (hu.bd q h).2.1⟩)
      refine ⟨D, us, ps, 40, rfl, .inl (.inl hD), hu.frs, fun q h => ⟨(hu.bd q h).1, (hu.bd q h).2.1⟩, by omega, fun v4 H4 s4 f4 => ?_⟩
      have f4 : Fq K H4 400 v4 _ _ := ⟨f4, sb.1, sb.2.1.mono (by omega), sb.2.2.1.mono (by omega), sb.2.2.2⟩
      have m4 := m3.trans (.same m3.b s4)
      refine ⟨_, rfl, _, _, rfl, rfl, c9, r, _, rfl, by decide, (B.of (n := 31) (by decide)).mono, m4.b, fun y H5 y0 y1 m5 => ?_⟩
      simp only [Int.reduceToNat, Int.reducePow] at y1
      have by' : B 180 y := (B.of (n := 31) (by simp only [Nat.reducePow]; omega)).mono
      refine ⟨_, rfl, _, _, rfl, by omega, by'.mono, bw.mono, fun v6 H6 s6 f6 => ?_⟩
      have f6 : Fq K H6 400 v6 _ _ := .red (by omega) f6 by'.mono bw.mono
      have m6 := m5.trans (.same m5.b s6)
      refine ⟨_, rfl, _, rfl, r, 3, rfl, by decide, (B.of (n := 31) (by decide)).mono, m6.b, fun y2 H7 y20 y21 m7 => ?_⟩
      have by2 : B 3 (1 + y2) := B.of (by omega)
      have hw2 : wh * (1 + y2) ≠ 0 := Int.mul_ne_zero (by omega) (by omega)
      refine ⟨_, _, rfl, rfl, _, _, rfl, rfl, cm bw by2, _, _, rfl, hw2, B.one.mono, (bw.mul by2).mono, fun v8 H8 s8 f8 => ?_⟩
      have f8 : Fq K H8 400 v8 _ _ := .red hw2 f8 B.one.mono (bw.mul by2).mono
      have m8 := m7.trans (.same m7.b s8)
      refine ⟨_, rfl, r, rfl, m8.b, fun v9 a9 b9 H9 m9 f9 => ?_⟩
      refine ⟨sizeLine2 (by simp), fun lA nA => ?_⟩
      have mA := Mo.new (o := HO.lst [v4, v6, v8, v9]) m9.b nA
      refine ⟨r, lA, _, rfl, .inl (.inl upd_same), m9.b.ne nA, by simp, by simp, mA.b, fun vt HB hvt mB => ?_⟩
      have mAB := mA.trans mB
      obtain ⟨t0, t1, ft⟩ : ∃ a b, Fq K HB 400 vt a b := by
        simp only [List.mem_cons, List.not_mem_nil, or_false] at hvt
        rcases hvt with rfl | rfl | rfl | rfl
        · exact ⟨_, _, (((f4.mo m6).mo m8).mo m9).mo mAB⟩
        · exact ⟨_, _, ((f6.mo m8).mo m9).mo mAB⟩
        · exact ⟨_, _, (f8.mo m9).mo mAB⟩
        · exact ⟨_, _, f9.mono.mo mAB⟩
      have mall := ((m4.trans m6).trans (m8.trans m9)).trans mAB
      have hv := hv.mo mall
      have hvl := mall.g _ _ vlr hvl
      have hR := mall.b
      clear mall mAB mA mB m9 m8 m7 m6 m5 m4 m3 f4 f6 f8 f9 hvt nA hD hu nD sb by' by2 hw2 s4 s6 s8 m2
      -- kept, row
      refine ⟨_, rfl, vl, vs, rfl, .inl (.inl (.inl hvl)), fun kl nkl => ?_⟩
      have s1 := same_upd (o := HO.lst vs) nkl
      have bq20 : ∀ q ∈ qs, B 20 q.1 ∧ B 20 q.2 := fun q h => ⟨(hbd q h).1, (hbd q h).2.1⟩
      refine ⟨_, rfl, _, rfl, vl, vt, vs, qs, t0, t1, 20, rfl, .inl (.inl (.inl (s1 _ _ hvl))), (hv.same s1).frs, (ft.same s1).f, ft.p, ft.ba.mono, ft.bb.mono, bq20, by decide, by omega, by omega, fun vr H2 s2 hsol => ?_⟩
      refine ⟨_, _, rfl, ?_⟩
      have sA := s1.trans s2
      have hv := hv.same sA
      have ft := ft.same sA
      have hvl := sA _ _ hvl
      have hkl := s2 _ _ (upd_same (H := HB) (a := kl) (o := HO.lst vs))
      have hR := hR.same sA
      clear s1 s2 sA nkl
      -- there
      obtain ⟨tp, rfl, htp⟩ := id ft.f
      refine ⟨_, rfl, _, rfl, _, _, _, _, rfl, rfl, htp, ix1, _, _, rfl, rfl, ft.p, rfl, ?_⟩
      have hcop : ∀ q ∈ qs, 0 < q.2 ∧ Int.gcd q.1 q.2 = 1 := fun q h => ⟨hpos q h, (hbd q h).2.2⟩
      -- values != kept
      refine ⟨_, rfl, _, rfl, .list (ddq qs), .list (ddq qs), .lst (.inl (.inl hvl)) hv.frs.dp, .lst (.inl (.inl hkl)) hv.frs.dp, shq qs, shq qs, _, rfl, ?_⟩
      rw [eqv_self (shq qs)]
      refine iteF ?_
      have hthere : decide (V.int (wh % t1) = V.int 0) = decide (vr ≠ .non) := by
        rw [ew]
        cases ho : sol qs (t0, t1) with
        | none =>
          have hz : ¬ cden qs 1 % t1 = 0 := fun z => by unfold sol at ho; rw [if_pos z] at ho; cases ho
          rw [ho] at hsol
          have : vr = .non := hsol
          rw [this, decide_eq_false (fun z => hz (V.int.inj z))]; rfl
        | some row =>
          have hz : cden qs 1 % t1 = 0 := by
            by_cases z : cden qs 1 % t1 = 0
            · exact z
            · unfold sol at ho; rw [if_neg z] at ho; cases ho
          rw [ho] at hsol
          obtain ⟨p, rfl, _⟩ := hsol
          rw [hz]; rfl
      refine ⟨_, rfl, rfl, _, rfl, rfl, _, rfl, ?_⟩
      rw [hthere]
      have : (!decide (V.bl (!decide (vr = V.non)) = V.bl (decide (vr ≠ V.non)))) = false := by
        by_cases z : vr = .non
        · simp [z]
        · simp [z]
      rw [this]
      refine iteF ?_
      -- the same again
      refine ⟨_, rfl, _, rfl, kl, _, vs, qs, t0, t1, 20, rfl, .inl (.inl (.inl hkl)), hv.frs, ft.f, ft.p, ft.ba.mono, ft.bb.mono, bq20, by decide, by omega, by omega, fun vr2 H3 s3 hsol2 => ?_⟩
      refine ⟨_, rfl, _, _, hsol2.dp, (hsol.same s3).dp, shsol _, shsol _, _, rfl, ?_⟩
      rw [eqv_self (shsol _)]
      refine iteF ?_
      have hv := hv.same s3
      have ft := ft.same s3
      have hvl := s3 _ _ hvl
      have hR := hR.same s3
      have hsol := hsol.same s3
      refine ⟨_, rfl, vl, vs, rfl, .inl ⟨.inl (.inl hvl), fun tl ntl => ?_⟩⟩
      have s4 := same_upd (o := HO.tup vs) ntl
      refine ⟨_, rfl, tl, _, vs, qs, t0, t1, 20, rfl, .inr (.inl (.inl upd_same)), (hv.same s4).frs, (ft.same s4).f, ft.p, ft.ba.mono, ft.bb.mono, bq20, by decide, by omega, by omega, fun vr3 H5 s5 hsol3 => ?_⟩
      have sA := s4.trans s5
      refine ⟨_, rfl, _, _, hsol3.dp, (hsol.same sA).dp, shsol _, shsol _, _, rfl, ?_⟩
      rw [eqv_self (shsol _)]
      refine iteF ?_
      have hv := hv.same sA
      have ft := ft.same sA
      have hvl := sA _ _ hvl
      have hR := hR.same sA
      have hsol := hsol.same sA
      clear hsol2 hsol3 s3 s4 s5 sA ntl hkl htp
      -- if there
      refine ⟨_, rfl, _, rfl, ?_⟩
      cases ho : sol qs (t0, t1) with
      | none =>
        rw [ho] at hsol
        have : vr = .non := hsol
        subst this
        refine iteF ?_
        exact ⟨hR, _, _, _, _, _, _, _, _, _, _, _, rfl⟩
      | some row =>
        rw [ho] at hsol
        obtain ⟨rp, rfl, hrp⟩ := hsol
        refine iteT ?_
        obtain ⟨rlen, rbnd, ck, rfit⟩ := sol_fit hcop ho
        have hrp' : SqL K H5 rp (row.map V.int) := .inl (.inl hrp)
        refine ⟨_, rfl, _, _, _, _, _, rfl, .ty _, ty_list hrp', kt_list_list, _, rfl, iteF ?_⟩
        refine ⟨_, rfl, rp, _, rfl, .inl hrp', _, rfl, vl, _, rfl, .inl (.inl (.inl hvl)), rfl, _, rfl, brNe (fun z => absurd (by rw [List.length_map, rlen, el]) z) (fun _ => ?_)⟩
        -- all ints
        refine ⟨_, rfl, rp, rfl, ⟨_, hrp'⟩, fun D nD => ?_⟩
        refine lc_it (walk_list (xs := row.map V.int)) (fun j H6 => Same H5 H6 ∧ H6 D = some (.lst (List.replicate j (.bl true)))) ⟨same_upd nD, upd_same⟩ (fun j H6 _ h => .inl (.inl (h.1 _ _ hrp))) ?_ ?_
        · rintro j x H6 H7 hj ⟨sH, hD⟩ ⟨rfl, hx⟩
          rw [List.length_map] at hj
          obtain ⟨e, he, rfl⟩ : ∃ e, row[j]? = some e ∧ V.int e = x := by
            rw [List.getElem?_map] at hx
            cases h : row[j]? with
            | none => rw [h] at hx; cases hx
            | some n => rw [h] at hx; exact ⟨n, rfl, Option.some.inj hx⟩
          have ty : TyX K H7 (.int e) (.type "int") := .base (.int e)
          refine ⟨rfl, _, rfl, _, _, _, _, _, rfl, .ty _, ty, kt_int_int, _, rfl, iteT ?_⟩
          refine ⟨_, rfl, _, _, _, _, _, rfl, .ty _, ty, kt_int_bool, _, rfl, _, hD, ?_, ?_, ?_⟩
          · rw [List.length_replicate]; exact Nat.lt_of_lt_of_le (show j < 1000 by omega) (by decide)
          · intro y o e; rw [upd_ne (ne_of_none e nD)]; exact sH _ _ e
          · rw [upd_same, List.replicate_succ']; rfl
        rintro H6 ⟨s6, hD⟩
        refine ⟨D, List.replicate row.length true, rfl, .inl (.inl ?_), _, rfl, ?_⟩
        · rw [List.map_replicate]; rw [List.length_map] at hD; exact hD
        rw [all_true]
        refine iteF ?_
        have hv := hv.same s6
        have ft := ft.same s6
        have hvl := s6 _ _ hvl
        have hR := hR.same s6
        have hrp := s6 _ _ hrp
        clear s6 hD nD hrp'
        -- found
        have hm := pw
        refine ⟨_, rfl, _, rfl, rp, vl, row.map V.int, vs, rfl, .inl ⟨.inl (.inl hrp), .inl (.inl hvl), fun D nD => ?_⟩⟩
        refine lc_it (walk_zip (n := qs.length) (by rw [List.length_map]; omega)) (fun j H7 => Same H6 H7 ∧ ∃ (us : List V) (ps : List (Int × Int)), H7 D = some (.lst us) ∧ Fqs K H7 205 us ps ∧ us.length = j ∧ ∀ (i : Nat) (p : Int × Int) (k : Int) (q : Int × Int), ps[i]? = some p → row[i]? = some k → qs[i]? = some q → Rv p.1 p.2 (k * (q.1 * (wh / q.2))) wh) ⟨same_upd nD, [], [], upd_same, .nil, rfl, fun i p k q h => by simp at h⟩ (fun j H7 _ h => ⟨.inl (.inl (h.1 _ _ hrp)), .inl (.inl (h.1 _ _ hvl))⟩) ?_ ?_
        · rintro j x H7 H8 hj ⟨sH, us, ps, hD, hu, hul, hrv⟩ ⟨U, x1, x2, rfl, nU, rfl, g1, g2⟩
          have sU := same_upd (o := HO.tup [x1, x2]) nU
          obtain ⟨e, he, rfl⟩ : ∃ e, row[j]? = some e ∧ V.int e = x1 := by
            dsimp only at g1
            rw [List.getElem?_map] at g1
            cases h : row[j]? with
            | none => rw [h] at g1; cases g1
            | some n => rw [h] at g1; exact ⟨n, rfl, Option.some.inj g1⟩
          obtain ⟨a, b, e1, fx, pb⟩ := (hv.same (sH.trans sU)).frs.get g2
          have bb := hbd _ (List.mem_of_getElem? e1)
          have he2 := rbnd e (List.mem_of_getElem? he)
          rw [← ew] at he2
          have be : B 180 e := bw.le (by omega)
          refine ⟨U, _, rfl, .inl (.inl upd_same), rfl, _, _, rfl, _, _, rfl, rfl, rfl, ?_⟩
          refine ⟨_, rfl, _, rfl, e, x2, a, b, rfl, fx, by omega, be.mono, bb.1.mono, bb.2.1.mono, fun v9 H9 s9 f9 => ?_⟩
          have f9 : Fq K H9 205 v9 _ _ := .red (by omega) f9 (be.mul bb.1).mono bb.2.1.mono
          have hD9 := s9 _ _ (sU _ _ hD)
          refine ⟨us, hD9, Nat.lt_of_lt_of_le (show us.length < 1000 by omega) (by decide), ?_, us ++ [v9], ps ++ [(rn (e * a) b, rd (e * a) b)], upd_same, .snoc (((hu.same sU).same s9).mut hD9) (f9.mut hD9), by rw [List.length_append, hul]; rfl, ?_⟩
          · intro y o e; rw [upd_ne (ne_of_none e nD)]; exact s9 _ _ (sU _ _ (sH _ _ e))
          · intro i p k q hp hk hq
            have pl := hu.len
            by_cases hi : i < ps.length
            · rw [List.getElem?_append_left hi] at hp; exact hrv i p k q hp hk hq
            · have hlt := (List.getElem?_eq_some_iff.mp hp).1
              rw [List.length_append] at hlt
              have : i = j := by simp at hlt; omega
              subst this
              rw [List.getElem?_append_right (by omega), show i - ps.length = 0 by omega] at hp
              rw [he] at hk; rw [e1] at hq
              cases Option.some.inj hp; cases Option.some.inj hk; cases Option.some.inj hq
              refine Rv.red (by omega) ?_
              obtain ⟨c, hc⟩ := cden_dvd (r := 1) hpos (a, b) (List.mem_of_getElem? e1)
              rw [← ew] at hc
              dsimp only at hc ⊢
              have : wh / b = c := by rw [hc]; exact Int.mul_ediv_cancel_left _ (by omega)
              rw [this, hc]; grind
        rintro H7 ⟨s7, us, ps, hD, hu, hul, hrv⟩
        have pl := hu.len
        have sb := sum_ok (k := 205) (qs := ps) (p := (0, 1)) (n := 1) (by decide) (B.of (by decide)) B.one rfl (fun q h => ⟨hu.frs.pos q h, (hu.bd q h).1, (hu.bd q h).2.1⟩)
        have hps : ps.length ≤ 8 := by omega
        refine ⟨D, us, ps, 205, rfl, .inl (.inl hD), hu.frs, fun q h => ⟨(hu.bd q h).1, (hu.bd q h).2.1⟩, by omega, fun v8 H8 s8 f8 => ?_⟩
        have ft := (ft.same s7).same s8
        refine ⟨_, rfl, _, rfl, v8, _, _, _, t0, t1, rfl, f8, ft.f, Int.ne_of_gt sb.1, Int.ne_of_gt ft.p, sb.2.1.mono (by omega), sb.2.2.1.mono (by omega), ft.ba.mono, ft.bb.mono, fun v9 H9 s9 f9 => ?_⟩
        dsimp only at f9
        have hw1 : wh % t1 = 0 := by
          rw [ew]
          by_cases z : cden qs 1 % t1 = 0
          · exact z
          · unfold sol at ho; rw [if_neg z] at ho; cases ho
        have rt : Rv t0 t1 (t0 * (wh / t1)) wh := by
          obtain ⟨c, hc⟩ := Int.dvd_of_emod_eq_zero hw1
          have : wh / t1 = c := by rw [hc]; exact Int.mul_ediv_cancel_left _ (Int.ne_of_gt ft.p)
          unfold Rv; rw [this, hc]; grind
        have rs := sum_rv (M := wh) (qs := ps) (p := (0, 1)) (x := 0) (ys := List.zipWith (fun k q => k * (q.1 * (wh / q.2))) row qs) (by decide) hu.frs.pos (by unfold Rv; omega) (by rw [List.length_zipWith]; omega) (fun i p y hp hy => by
          rw [List.getElem?_zipWith] at hy
          cases h1 : row[i]? with
          | none => rw [h1] at hy; cases hy
          | some k =>
            cases h2 : qs[i]? with
            | none => rw [h1, h2] at hy; cases hy
            | some q =>
              rw [h1, h2] at hy
              cases Option.some.inj hy
              exact hrv i p k q hp h1 h2)
        rw [← ew, dot_zip] at rfit
        rw [Int.zero_add, rfit] at rs
        have e1 := rd_whole (k := ck) (Int.ne_of_gt sb.1) (Int.ne_of_gt ft.p) (Int.ne_of_gt pw) rs rt (by dsimp only; omega)
        rw [e1] at f9
        obtain ⟨p9, rfl, h9⟩ := f9
        refine ⟨_, _, _, _, rfl, rfl, h9, ix1, rfl, _, rfl, iteF ?_⟩
        exact ⟨((hR.same s7).same s8).same s9, _, _, _, _, _, _, _, _, _, _, _, rfl⟩
    · rintro σ H' ⟨hR, z2, z3, z4, z5, z6, z7, z8, z9, z10, z11, z12, rfl⟩
      exact q _
end
end EP
namespace EP
open PySem PySem.Spec PyProof.Rows L2
set_option maxHeartbeats 8000000 in
theorem all_mk {l : PySem.W.OpenLaw} {w : World} {K : PySem.W.Frag} {h : Heap} {mg : Str → Option Value} {fa : Addr} (X : K.In h) (G : h.Ns mainGlobals mg) (hfa : mg "law" = some (.ref fa))
    {f0 : Addr} {od0 an0 : Option Addr} {sl0 : Array (Option Value)} {oc0 kV0 dc0 pm0 cd0 ct0 : Value}
    (a0 : PySem.W.nsIn K mainGlobals "gcd" = some (some (.ref f0))) (l0 : K.lookup f0 = some ⟨oc0, od0, .func (PySem.W.fnOf "gcd" "gcd" (defArgs s_gcd) (defBody s_gcd) (defScope s_gcd) .none kV0 dc0 pm0 an0 cd0 ct0), sl0⟩) (c0 : PySem.W.codeIn K cd0 "gcd" = true) (k0 : PySem.W.keepIn K (.ref f0) = true)
    {f1 : Addr} {od1 an1 : Option Addr} {sl1 : Array (Option Value)} {oc1 kV1 dc1 pm1 cd1 ct1 : Value}
    (a1 : PySem.W.nsIn K mainGlobals "bezout" = some (some (.ref f1))) (l1 : K.lookup f1 = some ⟨oc1, od1, .func (PySem.W.fnOf "bezout" "bezout" (defArgs s_bezout) (defBody s_bezout) (defScope s_bezout) .none kV1 dc1 pm1 an1 cd1 ct1), sl1⟩) (c1 : PySem.W.codeIn K cd1 "bezout" = true) (k1 : PySem.W.keepIn K (.ref f1) = true)
    {f2 : Addr} {od2 an2 : Option Addr} {sl2 : Array (Option Value)} {oc2 kV2 dc2 pm2 cd2 ct2 : Value}
    (a2 : PySem.W.nsIn K mainGlobals "common_denominator" = some (some (.ref f2))) (l2 : K.lookup f2 = some ⟨oc2, od2, .func (PySem.W.fnOf "common_denominator" "common_denominator" (defArgs s_common_denominator) (defBody s_common_denominator) (defScope s_common_denominator) .none kV2 dc2 pm2 an2 cd2 ct2), sl2⟩) (c2 : PySem.W.codeIn K cd2 "common_denominator" = true) (k2 : PySem.W.keepIn K (.ref f2) = true)
    {f3 : Addr} {od3 an3 : Option Addr} {sl3 : Array (Option Value)} {oc3 kV3 dc3 pm3 cd3 ct3 : Value}
    (a3 : PySem.W.nsIn K mainGlobals "whole" = some (some (.ref f3))) (l3 : K.lookup f3 = some ⟨oc3, od3, .func (PySem.W.fnOf "whole" "whole" (defArgs s_whole) (defBody s_whole) (defScope s_whole) .none kV3 dc3 pm3 an3 cd3 ct3), sl3⟩) (c3 : PySem.W.codeIn K cd3 "whole" = true) (k3 : PySem.W.keepIn K (.ref f3) = true)
    {f4 : Addr} {od4 an4 : Option Addr} {sl4 : Array (Option Value)} {oc4 kV4 dc4 pm4 cd4 ct4 : Value}
    (a4 : PySem.W.nsIn K mainGlobals "scaled_values" = some (some (.ref f4))) (l4 : K.lookup f4 = some ⟨oc4, od4, .func (PySem.W.fnOf "scaled_values" "scaled_values" (defArgs s_scaled_values) (defBody s_scaled_values) (defScope s_scaled_values) .none kV4 dc4 pm4 an4 cd4 ct4), sl4⟩) (c4 : PySem.W.codeIn K cd4 "scaled_values" = true) (k4 : PySem.W.keepIn K (.ref f4) = true)
    {f5 : Addr} {od5 an5 : Option Addr} {sl5 : Array (Option Value)} {oc5 kV5 dc5 pm5 cd5 ct5 : Value}
    (a5 : PySem.W.nsIn K mainGlobals "first_reach" = some (some (.ref f5))) (l5 : K.lookup f5 = some ⟨oc5, od5, .func (PySem.W.fnOf "first_reach" "first_reach" (defArgs s_first_reach) (defBody s_first_reach) (defScope s_first_reach) .none kV5 dc5 pm5 an5 cd5 ct5), sl5⟩) (c5 : PySem.W.codeIn K cd5 "first_reach" = true) (k5 : PySem.W.keepIn K (.ref f5) = true)
    {f6 : Addr} {od6 an6 : Option Addr} {sl6 : Array (Option Value)} {oc6 kV6 dc6 pm6 cd6 ct6 : Value}
    (a6 : PySem.W.nsIn K mainGlobals "next_reach" = some (some (.ref f6))) (l6 : K.lookup f6 = some ⟨oc6, od6, .func (PySem.W.fnOf "next_reach" "next_reach" (defArgs s_next_reach) (defBody s_next_reach) (defScope s_next_reach) .none kV6 dc6 pm6 an6 cd6 ct6), sl6⟩) (c6 : PySem.W.codeIn K cd6 "next_reach" = true) (k6 : PySem.W.keepIn K (.ref f6) = true)
    {f7 : Addr} {od7 an7 : Option Addr} {sl7 : Array (Option Value)} {oc7 kV7 dc7 pm7 cd7 ct7 : Value}
    (a7 : PySem.W.nsIn K mainGlobals "congruence_solution" = some (some (.ref f7))) (l7 : K.lookup f7 = some ⟨oc7, od7, .func (PySem.W.fnOf "congruence_solution" "congruence_solution" (defArgs s_congruence_solution) (defBody s_congruence_solution) (defScope s_congruence_solution) .none kV7 dc7 pm7 an7 cd7 ct7), sl7⟩) (c7 : PySem.W.codeIn K cd7 "congruence_solution" = true) (k7 : PySem.W.keepIn K (.ref f7) = true)
    {f8 : Addr} {od8 an8 : Option Addr} {sl8 : Array (Option Value)} {oc8 kV8 dc8 pm8 cd8 ct8 : Value}
    (a8 : PySem.W.nsIn K mainGlobals "_law_source" = some (some (.ref f8))) (l8 : K.lookup f8 = some ⟨oc8, od8, .func (PySem.W.fnOf "_law_source" "_law_source" (defArgs s_l_source) (defBody s_l_source) (defScope s_l_source) .none kV8 dc8 pm8 an8 cd8 ct8), sl8⟩) (c8 : PySem.W.codeIn K cd8 "_law_source" = true) (k8 : PySem.W.keepIn K (.ref f8) = true)
    {f9 : Addr} {od9 an9 : Option Addr} {sl9 : Array (Option Value)} {oc9 kV9 dc9 pm9 cd9 ct9 : Value}
    (a9 : PySem.W.nsIn K mainGlobals "_law_draw" = some (some (.ref f9))) (l9 : K.lookup f9 = some ⟨oc9, od9, .func (PySem.W.fnOf "_law_draw" "_law_draw" (defArgs s_l_draw) (defBody s_l_draw) (defScope s_l_draw) .none kV9 dc9 pm9 an9 cd9 ct9), sl9⟩) (c9 : PySem.W.codeIn K cd9 "_law_draw" = true) (k9 : PySem.W.keepIn K (.ref f9) = true)
    {f10 : Addr} {od10 an10 : Option Addr} {sl10 : Array (Option Value)} {oc10 kV10 dc10 pm10 cd10 ct10 : Value}
    (a10 : PySem.W.nsIn K mainGlobals "_law_choice" = some (some (.ref f10))) (l10 : K.lookup f10 = some ⟨oc10, od10, .func (PySem.W.fnOf "_law_choice" "_law_choice" (defArgs s_l_choice) (defBody s_l_choice) (defScope s_l_choice) .none kV10 dc10 pm10 an10 cd10 ct10), sl10⟩) (c10 : PySem.W.codeIn K cd10 "_law_choice" = true) (k10 : PySem.W.keepIn K (.ref f10) = true)
    {f11 : Addr} {od11 an11 : Option Addr} {sl11 : Array (Option Value)} {oc11 kV11 dc11 pm11 cd11 ct11 : Value}
    (a11 : PySem.W.nsIn K mainGlobals "_law_divisor" = some (some (.ref f11))) (l11 : K.lookup f11 = some ⟨oc11, od11, .func (PySem.W.fnOf "_law_divisor" "_law_divisor" (defArgs s_l_divisor) (defBody s_l_divisor) (defScope s_l_divisor) .none kV11 dc11 pm11 an11 cd11 ct11), sl11⟩) (c11 : PySem.W.codeIn K cd11 "_law_divisor" = true) (k11 : PySem.W.keepIn K (.ref f11) = true)
    {f12 : Addr} {od12 an12 : Option Addr} {sl12 : Array (Option Value)} {oc12 kV12 dc12 pm12 cd12 ct12 : Value}
    (a12 : PySem.W.nsIn K mainGlobals "_law_reduce" = some (some (.ref f12))) (l12 : K.lookup f12 = some ⟨oc12, od12, .func (PySem.W.fnOf "_law_reduce" "_law_reduce" (defArgs s_l_reduce) (defBody s_l_reduce) (defScope s_l_reduce) .none kV12 dc12 pm12 an12 cd12 ct12), sl12⟩) (c12 : PySem.W.codeIn K cd12 "_law_reduce" = true) (k12 : PySem.W.keepIn K (.ref f12) = true)
    {f13 : Addr} {od13 an13 : Option Addr} {sl13 : Array (Option Value)} {oc13 kV13 dc13 pm13 cd13 ct13 : Value}
    (a13 : PySem.W.nsIn K mainGlobals "_law_add" = some (some (.ref f13))) (l13 : K.lookup f13 = some ⟨oc13, od13, .func (PySem.W.fnOf "_law_add" "_law_add" (defArgs s_l_add) (defBody s_l_add) (defScope s_l_add) .none kV13 dc13 pm13 an13 cd13 ct13), sl13⟩) (c13 : PySem.W.codeIn K cd13 "_law_add" = true) (k13 : PySem.W.keepIn K (.ref f13) = true)
    {f14 : Addr} {od14 an14 : Option Addr} {sl14 : Array (Option Value)} {oc14 kV14 dc14 pm14 cd14 ct14 : Value}
    (a14 : PySem.W.nsIn K mainGlobals "_law_subtract" = some (some (.ref f14))) (l14 : K.lookup f14 = some ⟨oc14, od14, .func (PySem.W.fnOf "_law_subtract" "_law_subtract" (defArgs s_l_subtract) (defBody s_l_subtract) (defScope s_l_subtract) .none kV14 dc14 pm14 an14 cd14 ct14), sl14⟩) (c14 : PySem.W.codeIn K cd14 "_law_subtract" = true) (k14 : PySem.W.keepIn K (.ref f14) = true)
    {f15 : Addr} {od15 an15 : Option Addr} {sl15 : Array (Option Value)} {oc15 kV15 dc15 pm15 cd15 ct15 : Value}
    (a15 : PySem.W.nsIn K mainGlobals "_law_times" = some (some (.ref f15))) (l15 : K.lookup f15 = some ⟨oc15, od15, .func (PySem.W.fnOf "_law_times" "_law_times" (defArgs s_l_times) (defBody s_l_times) (defScope s_l_times) .none kV15 dc15 pm15 an15 cd15 ct15), sl15⟩) (c15 : PySem.W.codeIn K cd15 "_law_times" = true) (k15 : PySem.W.keepIn K (.ref f15) = true)
    {f16 : Addr} {od16 an16 : Option Addr} {sl16 : Array (Option Value)} {oc16 kV16 dc16 pm16 cd16 ct16 : Value}
    (a16 : PySem.W.nsIn K mainGlobals "_law_sum" = some (some (.ref f16))) (l16 : K.lookup f16 = some ⟨oc16, od16, .func (PySem.W.fnOf "_law_sum" "_law_sum" (defArgs s_l_sum) (defBody s_l_sum) (defScope s_l_sum) .none kV16 dc16 pm16 an16 cd16 ct16), sl16⟩) (c16 : PySem.W.codeIn K cd16 "_law_sum" = true) (k16 : PySem.W.keepIn K (.ref f16) = true)
    {f17 : Addr} {od17 an17 : Option Addr} {sl17 : Array (Option Value)} {oc17 kV17 dc17 pm17 cd17 ct17 : Value}
    (a17 : PySem.W.nsIn K mainGlobals "_law_small" = some (some (.ref f17))) (l17 : K.lookup f17 = some ⟨oc17, od17, .func (PySem.W.fnOf "_law_small" "_law_small" (defArgs s_l_small) (defBody s_l_small) (defScope s_l_small) .none kV17 dc17 pm17 an17 cd17 ct17), sl17⟩) (c17 : PySem.W.codeIn K cd17 "_law_small" = true) (k17 : PySem.W.keepIn K (.ref f17) = true)
    {f18 : Addr} {od18 an18 : Option Addr} {sl18 : Array (Option Value)} {oc18 kV18 dc18 pm18 cd18 ct18 : Value}
    (a18 : PySem.W.nsIn K mainGlobals "law" = some (some (.ref f18))) (l18 : K.lookup f18 = some ⟨oc18, od18, .func (PySem.W.fnOf "law" "law" (defArgs s_law) (defBody s_law) (defScope s_law) .none kV18 dc18 pm18 an18 cd18 ct18), sl18⟩) (c18 : PySem.W.codeIn K cd18 "law" = true) (k18 : PySem.W.keepIn K (.ref f18) = true)
    (z0 : PySem.W.nsIn K mainGlobals "abs" = some none)
    (z1 : PySem.W.nsIn K mainGlobals "len" = some none)
    (z2 : PySem.W.nsIn K mainGlobals "enumerate" = some none)
    (z3 : PySem.W.nsIn K mainGlobals "list" = some none)
    (z4 : PySem.W.nsIn K mainGlobals "range" = some none)
    (z5 : PySem.W.nsIn K mainGlobals "tuple" = some none)
    (z6 : PySem.W.nsIn K mainGlobals "isinstance" = some none)
    (z7 : PySem.W.nsIn K mainGlobals "all" = some none)
    (z8 : PySem.W.nsIn K mainGlobals "zip" = some none)
    (z9 : PySem.W.nsIn K mainGlobals "int" = some none)
    (z10 : PySem.W.nsIn K mainGlobals "bool" = some none)
    : ∃ fd : FuncData, (∀ (s : Shared) (v : Value), BindsTo s fd ⟨[v], []⟩ [("_law_script", v)]) ∧ ∀ base : Heap, K.In base → base.Ns mainGlobals mg → FnOk l.prog w K mg base CX0 5 fa fd ["_law_script"] (spLaw K) := by
  have e := hfa.symm.trans (PySem.W.mg_of X G a18)
  cases e
  have F0 := fun_mk (st := s_gcd) l0 c0 k0
  have b0 := F0.binds (ps := ["one", "other"]) fun _ _ _ _ _ _ us hl => match us, hl with | [_, _], _ => rfl
  have F1 := fun_mk (st := s_bezout) l1 c1 k1
  have b1 := F1.binds (ps := ["one", "other"]) fun _ _ _ _ _ _ us hl => match us, hl with | [_, _], _ => rfl
  have F2 := fun_mk (st := s_common_denominator) l2 c2 k2
  have b2 := F2.binds (ps := ["values"]) fun _ _ _ _ _ _ us hl => match us, hl with | [_], _ => rfl
  have F3 := fun_mk (st := s_whole) l3 c3 k3
  have b3 := F3.binds (ps := ["value", "common"]) fun _ _ _ _ _ _ us hl => match us, hl with | [_, _], _ => rfl
  have F4 := fun_mk (st := s_scaled_values) l4 c4 k4
  have b4 := F4.binds (ps := ["values", "modulus"]) fun _ _ _ _ _ _ us hl => match us, hl with | [_, _], _ => rfl
  have F5 := fun_mk (st := s_first_reach) l5 c5 k5
  have b5 := F5.binds (ps := ["values", "modulus"]) fun _ _ _ _ _ _ us hl => match us, hl with | [_, _], _ => rfl
  have F6 := fun_mk (st := s_next_reach) l6 c6 k6
  have b6 := F6.binds (ps := ["reach", "at", "scaled", "modulus"]) fun _ _ _ _ _ _ us hl => match us, hl with | [_, _, _, _], _ => rfl
  have F7 := fun_mk (st := s_congruence_solution) l7 c7 k7
  have b7 := F7.binds (ps := ["values", "target"]) fun _ _ _ _ _ _ us hl => match us, hl with | [_, _], _ => rfl
  have F8 := fun_mk (st := s_l_source) l8 c8 k8
  have b8 := F8.binds (ps := ["_law_script"]) fun _ _ _ _ _ _ us hl => match us, hl with | [_], _ => rfl
  have F9 := fun_mk (st := s_l_draw) l9 c9 k9
  have b9 := F9.binds (ps := ["_law_rng", "_law_many"]) fun _ _ _ _ _ _ us hl => match us, hl with | [_, _], _ => rfl
  have F10 := fun_mk (st := s_l_choice) l10 c10 k10
  have b10 := F10.binds (ps := ["_law_rng", "_law_some"]) fun _ _ _ _ _ _ us hl => match us, hl with | [_, _], _ => rfl
  have F11 := fun_mk (st := s_l_divisor) l11 c11 k11
  have b11 := F11.binds (ps := ["_law_one", "_law_other"]) fun _ _ _ _ _ _ us hl => match us, hl with | [_, _], _ => rfl
  have F12 := fun_mk (st := s_l_reduce) l12 c12 k12
  have b12 := F12.binds (ps := ["_law_num", "_law_den"]) fun _ _ _ _ _ _ us hl => match us, hl with | [_, _], _ => rfl
  have F13 := fun_mk (st := s_l_add) l13 c13 k13
  have b13 := F13.binds (ps := ["_law_one", "_law_other"]) fun _ _ _ _ _ _ us hl => match us, hl with | [_, _], _ => rfl
  have F14 := fun_mk (st := s_l_subtract) l14 c14 k14
  have b14 := F14.binds (ps := ["_law_one", "_law_other"]) fun _ _ _ _ _ _ us hl => match us, hl with | [_, _], _ => rfl
  have F15 := fun_mk (st := s_l_times) l15 c15 k15
  have b15 := F15.binds (ps := ["_law_number", "_law_one"]) fun _ _ _ _ _ _ us hl => match us, hl with | [_, _], _ => rfl
  have F16 := fun_mk (st := s_l_sum) l16 c16 k16
  have b16 := F16.binds (ps := ["_law_some"]) fun _ _ _ _ _ _ us hl => match us, hl with | [_], _ => rfl
  have F17 := fun_mk (st := s_l_small) l17 c17 k17
  have b17 := F17.binds (ps := ["_law_rng"]) fun _ _ _ _ _ _ us hl => match us, hl with | [_], _ => rfl
  have F18 := fun_mk (st := s_law) l18 c18 k18
  have b18 := F18.binds (ps := ["_law_script"]) fun _ _ _ _ _ _ us hl => match us, hl with | [_], _ => rfl
  exact ⟨PySem.W.fnOf "law" "law" (defArgs s_law) (defBody s_law) (defScope s_law) .none kV18 dc18 pm18 an18 cd18 ct18, fun s v => .of_eq rfl, fun base _ _ => ok_law ⟨⟨_, _, F0, b0, PySem.W.mg_of X G a0⟩, ⟨_, _, F1, b1, PySem.W.mg_of X G a1⟩, ⟨_, _, F2, b2, PySem.W.mg_of X G a2⟩, ⟨_, _, F3, b3, PySem.W.mg_of X G a3⟩, ⟨_, _, F4, b4, PySem.W.mg_of X G a4⟩, ⟨_, _, F5, b5, PySem.W.mg_of X G a5⟩, ⟨_, _, F6, b6, PySem.W.mg_of X G a6⟩, ⟨_, _, F7, b7, PySem.W.mg_of X G a7⟩, ⟨_, _, F8, b8, PySem.W.mg_of X G a8⟩, ⟨_, _, F9, b9, PySem.W.mg_of X G a9⟩, ⟨_, _, F10, b10, PySem.W.mg_of X G a10⟩, ⟨_, _, F11, b11, PySem.W.mg_of X G a11⟩, ⟨_, _, F12, b12, PySem.W.mg_of X G a12⟩, ⟨_, _, F13, b13, PySem.W.mg_of X G a13⟩, ⟨_, _, F14, b14, PySem.W.mg_of X G a14⟩, ⟨_, _, F15, b15, PySem.W.mg_of X G a15⟩, ⟨_, _, F16, b16, PySem.W.mg_of X G a16⟩, ⟨_, _, F17, b17, PySem.W.mg_of X G a17⟩, ⟨_, _, F18, b18, PySem.W.mg_of X G a18⟩, PySem.W.mg_none_of X G z0, PySem.W.mg_none_of X G z1, PySem.W.mg_none_of X G z2, PySem.W.mg_none_of X G z3, PySem.W.mg_none_of X G z4, PySem.W.mg_none_of X G z5, PySem.W.mg_none_of X G z6, PySem.W.mg_none_of X G z7, PySem.W.mg_none_of X G z8, PySem.W.mg_none_of X G z9, PySem.W.mg_none_of X G z10⟩⟩
end EP
open PySem PySem.W PyProof.Rows
set_option maxHeartbeats 0 in
theorem PySem.Challenge.cw_evenpace_k05_solutions_of_congruences_holds : PySem.Challenge.rw_evenpace_k05_solutions_of_congruences.Holds := by
  w_on; o_law; k_head; (case hw => w_witness2)
  k_fill
  refine L2.walk_of (l := PySem.Challenge.rw_evenpace_k05_solutions_of_congruences) (n := 63) (k := 5) (x := "_law_script") (CX := fun _ => L2.CX0) (sp := fun w => EP.spLaw _) rfl (by decide) rfl ⟨rfl, by decide, by decide⟩ (fun w h Y => PySem.W.kIn_of Y) ?F (fun _ _ a ns hl _ hS => ⟨a, ns, rfl, hS, hl, fun _ => rfl⟩) (fun _ _ _ _ _ h => h)
  case F =>
    intro w mg fa h KX G hmg
    refine' EP.all_mk KX G hmg ?a0 ?l0 ?c0 ?k0 ?a1 ?l1 ?c1 ?k1 ?a2 ?l2 ?c2 ?k2 ?a3 ?l3 ?c3 ?k3 ?a4 ?l4 ?c4 ?k4 ?a5 ?l5 ?c5 ?k5 ?a6 ?l6 ?c6 ?k6 ?a7 ?l7 ?c7 ?k7 ?a8 ?l8 ?c8 ?k8 ?a9 ?l9 ?c9 ?k9 ?a10 ?l10 ?c10 ?k10 ?a11 ?l11 ?c11 ?k11 ?a12 ?l12 ?c12 ?k12 ?a13 ?l13 ?c13 ?k13 ?a14 ?l14 ?c14 ?k14 ?a15 ?l15 ?c15 ?k15 ?a16 ?l16 ?c16 ?k16 ?a17 ?l17 ?c17 ?k17 ?a18 ?l18 ?c18 ?k18 ?z0 ?z1 ?z2 ?z3 ?z4 ?z5 ?z6 ?z7 ?z8 ?z9 ?z10
    (case a0 => k_is)
    (case l0 => k_is)
    (case c0 => k_is)
    (case k0 => k_is)
    (case a1 => k_is)
    (case l1 => k_is)
    (case c1 => k_is)
    (case k1 => k_is)
    (case a2 => k_is)
    (case l2 => k_is)
    (case c2 => k_is)
    (case k2 => k_is)
    (case a3 => k_is)
    (case l3 => k_is)
    (case c3 => k_is)
    (case k3 => k_is)
    (case a4 => k_is)
    (case l4 => k_is)
    (case c4 => k_is)
    (case k4 => k_is)
    (case a5 => k_is)
    (case l5 => k_is)
    (case c5 => k_is)
    (case k5 => k_is)
    (case a6 => k_is)
    (case l6 => k_is)
    (case c6 => k_is)
    (case k6 => k_is)
    (case a7 => k_is)
    (case l7 => k_is)
    (case c7 => k_is)
    (case k7 => k_is)
    (case a8 => k_is)
    (case l8 => k_is)
    (case c8 => k_is)
    (case k8 => k_is)
    (case a9 => k_is)
    (case l9 => k_is)
    (case c9 => k_is)
    (case k9 => k_is)
    (case a10 => k_is)
    (case l10 => k_is)
    (case c10 => k_is)
    (case k10 => k_is)
    (case a11 => k_is)
    (case l11 => k_is)
    (case c11 => k_is)
    (case k11 => k_is)
    (case a12 => k_is)
    (case l12 => k_is)
    (case c12 => k_is)
    (case k12 => k_is)
    (case a13 => k_is)
    (case l13 => k_is)
    (case c13 => k_is)
    (case k13 => k_is)
    (case a14 => k_is)
    (case l14 => k_is)
    (case c14 => k_is)
    (case k14 => k_is)
    (case a15 => k_is)
    (case l15 => k_is)
    (case c15 => k_is)
    (case k15 => k_is)
    (case a16 => k_is)
    (case l16 => k_is)
    (case c16 => k_is)
    (case k16 => k_is)
    (case a17 => k_is)
    (case l17 => k_is)
    (case c17 => k_is)
    (case k17 => k_is)
    (case a18 => k_is)
    (case l18 => k_is)
    (case c18 => k_is)
    (case k18 => k_is)
    (case z0 => k_is)
    (case z1 => k_is)
    (case z2 => k_is)
    (case z3 => k_is)
    (case z4 => k_is)
    (case z5 => k_is)
    (case z6 => k_is)
    (case z7 => k_is)
    (case z8 => k_is)
    (case z9 => k_is)
    (case z10 => k_is)
