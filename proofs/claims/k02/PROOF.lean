import PyProof.Rows.All
import Wide.All
import OpenK.AllK
import Wide.FinOn
import HandS.ForMost
import HandS.Wide
import HandS.IsInst
import HandS.Zip
import HandS.Walk
import HandS.Flow
import HandS.Evl
import HandS.Defaults
import HandS.NoneIn
import PySem.Challenge.RW_evenpace_k02_floors_and_remainders
set_option Elab.async false
set_option linter.all false
set_option maxRecDepth 100000
set_option autoImplicit false
namespace EP
open PySem PySem.Spec PyProof.Rows L2
/-! ### wide floor division by a divisor of either sign -/
def CDivZ (_ j : Int) : Prop := j ≠ 0 ∧ j.natAbs.log2 < 9000
theorem op_fdivZ {X : Cx} : OpR X (binaryOp .FloorDiv) (rI CDivZ fun i j => .int (i.fdiv j)) := opI fun _ _ _ _ _ _ _ hc q => floordiv_int hc.1 q (.inl (PyProof.noPylong_of_log2 hc.2))
/-! ### heaps -/
def Gw (r : Addr) (H H' : Hp) : Prop := ∀ a o, a ≠ r → H a = some o → H' a = some o
def RngL (L : Addr) (H : Hp) (r : Addr) : Prop := ∃ (ns : List Int) (i c s : Int), H r = some (.lst [.ref L, .int i, .int c, .int s]) ∧ H L = some (.lst (ns.map V.int)) ∧ L ≠ r ∧ 0 ≤ i ∧ ns.length < 100 ∧ 0 ≤ c ∧ 0 ≤ s ∧ s < 2147483563
def Rng (H : Hp) (r : Addr) : Prop := ∃ L, RngL L H r
/-- from H to H' only the generator at r changed; new things may have come -/
structure Mo (r : Addr) (H H' : Hp) : Prop where
  g : Gw r H H'
  a : Rng H r
  l : ∀ L, RngL L H r → RngL L H' r
theorem Mo.b {r : Addr} {H H' : Hp} (m : Mo r H H') : Rng H' r := by
  obtain ⟨L, h⟩ := m.a
  exact ⟨L, m.l L h⟩
theorem RngL.same {L : Addr} {H H' : Hp} {r : Addr} (h : RngL L H r) (s : Same H H') : RngL L H' r := by
  obtain ⟨ns, i, c, sd, h1, h2, h3⟩ := h
  exact ⟨ns, i, c, sd, s _ _ h1, s _ _ h2, h3⟩
theorem Rng.same {H H' : Hp} {r : Addr} (h : Rng H r) (s : Same H H') : Rng H' r := by
  obtain ⟨L, h⟩ := h
  exact ⟨L, h.same s⟩
theorem Mo.same {H H' : Hp} {r : Addr} (h : Rng H r) (s : Same H H') : Mo r H H' := ⟨fun a o _ e => s a o e, h, fun _ h => h.same s⟩
theorem Mo.refl {H : Hp} {r : Addr} (h : Rng H r) : Mo r H H := ⟨fun a o _ e => e, h, fun _ h => h⟩
theorem Mo.trans {H H1 H2 : Hp} {r : Addr} (x : Mo r H H1) (y : Mo r H1 H2) : Mo r H H2 := ⟨fun a o n e => y.g a o n (x.g a o n e), x.a, fun L h => y.l L (x.l L h)⟩
/-- what is new since H may change -/
theorem Mo.mut {r D : Addr} {H H' : Hp} {o : HO} (m : Mo r H H') (n : H D = none) : Mo r H (upd H' D o) := by
  refine ⟨fun a u ha e => ?_, m.a, fun L h => ?_⟩
  · rw [upd_ne (ne_of_none e n)]; exact m.g a u ha e
  · obtain ⟨_, _, _, _, e1, e2, _⟩ := id h
    obtain ⟨ns, i, c, sd, h1, h2, h3⟩ := m.l L h
    refine ⟨ns, i, c, sd, ?_, ?_, h3⟩
    · rw [upd_ne (ne_of_none e1 n)]; exact h1
    · rw [upd_ne (ne_of_none e2 n)]; exact h2
theorem same_upd {H : Hp} {p : Addr} {o : HO} (h : H p = none) : Same H (upd H p o) := fun b x e => by
  rw [upd_ne (ne_of_none e h)]
  exact e
theorem Mo.new {H : Hp} {r p : Addr} {o : HO} (h : Rng H r) (n : H p = none) : Mo r H (upd H p o) := .same h (same_upd n)
theorem sqt_mo {K : PySem.W.Frag} {H H' : Hp} {r a : Addr} {xs : List V} (m : Mo r H H') (h : SqT K H a xs) : SqT K H' a xs := by
  rcases h with h | h
  · left
    obtain ⟨L, ns, i, c, sd, h1, _⟩ := m.a
    rcases h with h | ⟨o, h⟩
    · refine .inl (m.g a _ (fun e => ?_) h)
      subst e; rw [h1] at h; cases h
    · refine .inr ⟨o, m.g a _ (fun e => ?_) h⟩
      subst e; rw [h1] at h; cases h
  · exact .inr h
theorem sql_mo {K : PySem.W.Frag} {H H' : Hp} {r a : Addr} {xs : List V} (m : Mo r H H') (n : a ≠ r) (h : SqL K H a xs) : SqL K H' a xs := by
  rcases h with h | h
  · left
    rcases h with h | ⟨o, h⟩
    · exact .inl (m.g a _ n h)
    · exact .inr ⟨o, m.g a _ n h⟩
  · exact .inr h
/-! ### fractions -/
def Fr (K : PySem.W.Frag) (H : Hp) (v : V) (a b : Int) : Prop := ∃ p, v = .ref p ∧ SqT K H p [.int a, .int b]
theorem Fr.mo {K : PySem.W.Frag} {H H' : Hp} {r : Addr} {v : V} {a b : Int} (h : Fr K H v a b) (m : Mo r H H') : Fr K H' v a b := by
  obtain ⟨p, e, h⟩ := h
  exact ⟨p, e, sqt_mo m h⟩
theorem Fr.same {K : PySem.W.Frag} {H H' : Hp} {v : V} {a b : Int} (h : Fr K H v a b) (m : Same H H') : Fr K H' v a b := by
  obtain ⟨p, e, h⟩ := h
  exact ⟨p, e, Evl.ex_t m h⟩
theorem sizeLine2 {n : Nat} (h : n ≤ 1000) : n ≤ sizeLine := Nat.le_trans h (by decide)
end EP
namespace EP
open PySem PySem.Spec PyProof.Rows L2
/-! ### tests -/
theorem brI {p A B : Prop} [Decidable p] (h1 : p → A) (h2 : ¬ p → B) : if decide p = true then A else B := by
  by_cases h : p
  · rw [if_pos (decide_eq_true h)]; exact h1 h
  · rw [if_neg (by simpa using h)]; exact h2 h
theorem brEq {i j : Int} {A B : Prop} (h1 : i = j → A) (h2 : i ≠ j → B) : if decide (V.int i = V.int j) = true then A else B :=
  brI (fun h => h1 (V.int.inj h)) (fun h => h2 fun e => h (by rw [e]))
theorem brNe {i j : Int} {A B : Prop} (h1 : i ≠ j → A) (h2 : i = j → B) : if (!decide (V.int i = V.int j)) = true then A else B := by
  by_cases h : i = j
  · subst h; rw [if_neg (by simp)]; exact h2 rfl
  · rw [if_pos (by simpa using h)]; exact h1 h
/-! ### items -/
theorem ix0 {x : V} {xs : List V} : atI (x :: xs) 0 = some x := atI_nat (j := 0) rfl
theorem ix1 {x y : V} {xs : List V} : atI (x :: y :: xs) 1 = some y := atI_nat (j := 1) rfl
theorem ix2 {x y z : V} {xs : List V} : atI (x :: y :: z :: xs) 2 = some z := atI_nat (j := 2) rfl
theorem ix3 {x y z u : V} {xs : List V} : atI (x :: y :: z :: u :: xs) 3 = some u := atI_nat (j := 3) rfl
/-! ### sizes -/
def B (n : Nat) (x : Int) : Prop := x.natAbs < 2 ^ n
theorem B.one : B 1 1 := by unfold B; decide
theorem B.mono {n m : Nat} {x : Int} (h : B n x) (l : n ≤ m := by decide) : B m x := Nat.lt_of_lt_of_le h (Nat.pow_le_pow_right (by decide) l)
theorem B.mul {n m : Nat} {x y : Int} (h : B n x) (k : B m y) : B (n + m) (x * y) := wide_lt h k
theorem B.add {n : Nat} {x y : Int} (h : B n x) (k : B n y) : B (n + 1) (x + y) := by
  unfold B at *
  rw [Nat.pow_succ]; omega
theorem B.sub {n : Nat} {x y : Int} (h : B n x) (k : B n y) : B (n + 1) (x - y) := by
  unfold B at *
  rw [Nat.pow_succ]; omega
theorem B.neg {n : Nat} {x : Int} (h : B n x) : B n (-x) := by unfold B at *; omega
theorem B.le {n : Nat} {x y : Int} (h : B n y) (k : x.natAbs ≤ y.natAbs) : B n x := Nat.lt_of_le_of_lt k h
theorem B.log {n : Nat} {x : Int} (h : B n x) (h0 : 0 < n := by decide) : x.natAbs.log2 < n := PySem.Flt.log2_lt_of h0 h
theorem cm {n m : Nat} {x y : Int} (h : B n x) (k : B m y) (h0 : 0 < n := by decide) (h1 : 0 < m := by decide) (l : n + m ≤ 1000000 := by decide) : CMulW x y := wide_mul h k h0 h1 l
theorem cdW {x y : Int} {n : Nat} (h : 0 < y) (k : B n y) (h0 : 0 < n := by decide) (l : n ≤ 9000 := by decide) : CDivW x y := wide_div h k h0 l
end EP

namespace EP
/-! ### the mathematics of fractions in lowest terms -/
def rn (n d : Int) : Int := (if d < 0 then -n else n) / (Int.gcd n d : Int)
def rd (n d : Int) : Int := (d.natAbs : Int) / (Int.gcd n d : Int)
theorem gcd_pos {n d : Int} (h : d ≠ 0) : 0 < Int.gcd n d := Int.gcd_pos_of_ne_zero_right n h
theorem rn_mul {n d : Int} : rn n d * (Int.gcd n d : Int) = if d < 0 then -n else n := by
  unfold rn
  refine Int.ediv_mul_cancel ?_
  split
  · exact Int.dvd_neg.mpr (Int.gcd_dvd_left ..)
  · exact Int.gcd_dvd_left ..
theorem rd_mul {n d : Int} : rd n d * (Int.gcd n d : Int) = (d.natAbs : Int) := by
  unfold rd
  exact Int.ediv_mul_cancel (Int.natCast_dvd_natCast.mpr (Nat.gcd_dvd_right ..))
theorem rd_pos {n d : Int} (h : d ≠ 0) : 0 < rd n d := by
  have h1 := rd_mul (n := n) (d := d)
  have h2 : 0 < (Int.gcd n d : Int) := by have := gcd_pos (n := n) h; omega
  have h3 : 0 < rd n d * (Int.gcd n d : Int) := by rw [h1]; omega
  exact Int.pos_of_mul_pos_left h3 h2
/-- the value is kept -/
theorem rn_rd {n d : Int} (h : d ≠ 0) : rn n d * d = n * rd n d := by
  have h1 := rn_mul (n := n) (d := d)
  have h2 := rd_mul (n := n) (d := d)
  have h3 : (Int.gcd n d : Int) ≠ 0 := by have := gcd_pos (n := n) h; omega
  refine Int.eq_of_mul_eq_mul_right h3 ?_
  rw [Int.mul_right_comm, h1, Int.mul_assoc, h2]
  split
  · rw [show (d.natAbs : Int) = -d by omega]; rw [Int.mul_neg, Int.neg_mul]
  · rw [show (d.natAbs : Int) = d by omega]
theorem gcd_le {n d : Int} (h : d ≠ 0) : (Int.gcd n d : Int).natAbs ≤ d.natAbs := by
  rw [Int.natAbs_natCast]
  exact Nat.le_of_dvd (by omega) (Nat.gcd_dvd_right ..)
theorem rn_abs {n d : Int} (h : d ≠ 0) : (rn n d).natAbs ≤ n.natAbs := by
  have h1 := congrArg Int.natAbs (rn_mul (n := n) (d := d))
  rw [Int.natAbs_mul, Int.natAbs_natCast] at h1
  have h2 := gcd_pos (n := n) h
  have h3 : (if d < 0 then -n else n).natAbs = n.natAbs := by split <;> omega
  rw [h3] at h1; rw [← h1]
  exact Nat.le_mul_of_pos_right _ h2
theorem rd_abs {n d : Int} (h : d ≠ 0) : (rd n d).natAbs ≤ d.natAbs := by
  have h1 := congrArg Int.natAbs (rd_mul (n := n) (d := d))
  rw [Int.natAbs_mul, Int.natAbs_natCast, Int.natAbs_natCast] at h1
  have h2 := gcd_pos (n := n) h
  rw [← h1]
  exact Nat.le_mul_of_pos_right _ h2
theorem B.rn {k : Nat} {n d : Int} (h : d ≠ 0) (b : B k n) : B k (rn n d) := b.le (rn_abs h)
theorem B.rd {k : Nat} {n d : Int} (h : d ≠ 0) (b : B k d) : B k (rd n d) := b.le (rd_abs h)
theorem fdiv_neg_exact {n g : Int} (hg : g ≠ 0) (h : g ∣ n) : n.fdiv (-g) = -n / g := by
  obtain ⟨c, rfl⟩ := h
  rw [show g * c = (-g) * (-c) by rw [Int.neg_mul_neg], Int.mul_fdiv_cancel_left _ (by omega), Int.neg_mul, Int.neg_neg, Int.mul_ediv_cancel_left _ hg]
theorem fdiv_exact {n g : Int} (hg : g ≠ 0) (h : g ∣ n) : n.fdiv g = n / g := by
  obtain ⟨c, rfl⟩ := h
  rw [Int.mul_fdiv_cancel_left _ hg, Int.mul_ediv_cancel_left _ hg]
end EP
namespace EP
open PySem PySem.Spec PyProof.Rows L2
theorem abs_nat (a : Int) : (if a < 0 then -a else a) = (a.natAbs : Int) := by split <;> omega
theorem gcd_step {x y : Int} (hx : 0 ≤ x) (hy : 0 < y) : Int.gcd y (x % y) = Int.gcd x y := by
  obtain ⟨a, rfl⟩ := Int.eq_ofNat_of_zero_le hx
  obtain ⟨b, rfl⟩ := Int.eq_ofNat_of_zero_le (Int.le_of_lt hy)
  show Nat.gcd (Int.natAbs (b : Int)) (Int.natAbs ((a : Int) % (b : Int))) = Nat.gcd (Int.natAbs (a : Int)) (Int.natAbs (b : Int))
  rw [← Int.natCast_emod]
  simp only [Int.natAbs_natCast]
  rw [Nat.gcd_comm a b, Nat.gcd_rec b a, Nat.gcd_comm]
theorem div_abs {x y : Int} (h : 0 < y) : (x / y).natAbs ≤ x.natAbs := by
  by_cases h0 : 0 ≤ x
  · have h1 := Int.ediv_nonneg h0 (Int.le_of_lt h)
    have h2 := Int.ediv_le_self y h0
    omega
  · have h1 : x ≤ x / y := by
      refine Int.le_ediv_of_mul_le h ?_
      have := Int.mul_le_mul_of_nonpos_left (a := x) (b := y) (c := 1) (by omega) (by omega)
      omega
    have h5 : x / y < 0 := Int.ediv_neg_of_neg_of_pos (by omega) h
    omega
/-! ### promises -/
def spGcd : Sp := fun vs H Q _ => ∃ a b : Int, vs = [.int a, .int b] ∧ Q (.int (Int.gcd a b)) H
def spRed (K : PySem.W.Frag) : Sp := fun vs H Q _ => ∃ n d : Int, vs = [.int n, .int d] ∧ d ≠ 0 ∧ B 8000 n ∧ B 8000 d ∧ ∀ v H', Same H H' → Fr K H' v (rn n d) (rd n d) → Q v H'
def spFF (K : PySem.W.Frag) (g : Int → Int → Int → Int → Int × Int) : Sp := fun vs H Q _ => ∃ (x y : V) (a b c d : Int), vs = [x, y] ∧ Fr K H x a b ∧ Fr K H y c d ∧ b ≠ 0 ∧ d ≠ 0 ∧ B 2000 a ∧ B 2000 b ∧ B 2000 c ∧ B 2000 d ∧ ∀ v H', Same H H' → Fr K H' v (g a b c d).1 (g a b c d).2 → Q v H'
def spFD (K : PySem.W.Frag) (g : Int → Int → Int → Int → Int × Int) : Sp := fun vs H Q _ => ∃ (x y : V) (a b c d : Int), vs = [x, y] ∧ Fr K H x a b ∧ Fr K H y c d ∧ b ≠ 0 ∧ c ≠ 0 ∧ B 2000 a ∧ B 2000 b ∧ B 2000 c ∧ B 2000 d ∧ ∀ v H', Same H H' → Fr K H' v (g a b c d).1 (g a b c d).2 → Q v H'
def spLess (K : PySem.W.Frag) : Sp := fun vs H Q _ => ∃ (x y : V) (a b c d : Int), vs = [x, y] ∧ Fr K H x a b ∧ Fr K H y c d ∧ B 2000 a ∧ B 2000 b ∧ B 2000 c ∧ B 2000 d ∧ Q (.bl (decide (a * d < c * b))) H
def spFloor (K : PySem.W.Frag) : Sp := fun vs H Q _ => ∃ (x : V) (a b : Int), vs = [x] ∧ Fr K H x a b ∧ 0 < b ∧ B 4000 b ∧ Q (.int (a / b)) H
def spCeil (K : PySem.W.Frag) : Sp := fun vs H Q _ => ∃ (x : V) (a b : Int), vs = [x] ∧ Fr K H x a b ∧ 0 < b ∧ B 4000 b ∧ Q (.int (-(-a / b))) H
def spTimes (K : PySem.W.Frag) : Sp := fun vs H Q _ => ∃ (n : Int) (x : V) (a b : Int), vs = [.int n, x] ∧ Fr K H x a b ∧ b ≠ 0 ∧ B 2000 n ∧ B 2000 a ∧ B 2000 b ∧ ∀ v H', Same H H' → Fr K H' v (rn (n * a) b) (rd (n * a) b) → Q v H'
/-- one minus the floor of one / period times the period -/
def remN (a b c d : Int) : Int × Int :=
  let t := rn (a * d) (b * c) / rd (a * d) (b * c)
  let n := rn (t * c) d
  let m := rd (t * c) d
  (rn (a * m - n * b) (b * m), rd (a * m - n * b) (b * m))
def spRem (K : PySem.W.Frag) : Sp := fun vs H Q _ => ∃ (x y : V) (a b c d : Int), vs = [x, y] ∧ Fr K H x a b ∧ Fr K H y c d ∧ 0 < b ∧ 0 < c ∧ 0 < d ∧ B 500 a ∧ B 500 b ∧ B 500 c ∧ B 500 d ∧ ∀ v H', Same H H' → Fr K H' v (remN a b c d).1 (remN a b c d).2 → Q v H'
end EP
namespace EP
open PySem PySem.Spec PyProof.Rows L2
def spSource (K : PySem.W.Frag) : Sp := fun vs H Q _ => ∃ (a : Addr) (ns : List Int), vs = [.ref a] ∧ SqL K H a (ns.map V.int) ∧ ns.length ≤ 63 ∧ ∀ r H', Same H H' → Rng H' r → Q (.ref r) H'
def spDraw : Sp := fun vs H Q _ => ∃ (r : Addr) (m : Int), vs = [.ref r, .int m] ∧ 0 < m ∧ B 2000 m ∧ Rng H r ∧ ∀ x H', 0 ≤ x → x < m → Mo r H H' → Q (.int x) H'
def spChoice (K : PySem.W.Frag) : Sp := fun vs H Q _ => ∃ (r l : Addr) (xs : List V), vs = [.ref r, .ref l] ∧ SqL K H l xs ∧ l ≠ r ∧ 0 < xs.length ∧ xs.length < 1000 ∧ Rng H r ∧ ∀ x H', x ∈ xs → Mo r H H' → Q x H'
end EP
namespace EP
open PySem PySem.Spec PyProof.Rows L2
theorem seq_by {t u : TS} {D : Ends} {σ : L2.St} {H : Hp} (C : L2.St → Hp → Prop) (h2 : ∀ σ' H', C σ' H' → u D σ' H') (h1 : (∀ σ' H', C σ' H' → u D σ' H') → t { D with nx := u D } σ H) : tSeq t u D σ H := h1 h2
end EP
namespace EP
open PySem PySem.Spec PyProof.Rows L2
mutual
def dep : PyData → Nat
  | .list xs => deps xs + 1
  | .tuple xs => deps xs + 1
  | _ => 0
def deps : List PyData → Nat
  | [] => 0
  | x :: xs => max (dep x) (deps xs)
end
mutual
def wd : PyData → Nat
  | .list xs => max xs.length (wds xs)
  | .tuple xs => max xs.length (wds xs)
  | _ => 0
def wds : List PyData → Nat
  | [] => 0
  | x :: xs => max (wd x) (wds xs)
end
theorem wds_get : ∀ {ds : List PyData} {i : Nat} {d : PyData}, ds[i]? = some d → wd d ≤ wds ds
  | [], i, _, e => by simp at e
  | x :: xs, 0, _, e => by cases Option.some.inj e; unfold wds; omega
  | x :: xs, i + 1, d, e => by have := wds_get (ds := xs) (i := i) e; unfold wds; omega
def spEqual (K : PySem.W.Frag) (n : Nat) : Sp := fun vs H Q _ => ∃ (x y : V) (d : PyData), vs = [x, y] ∧ Dp K H x d ∧ Dp K H y d ∧ dep d < n ∧ wd d < 1000000 ∧ ∀ H', Same H H' → Q (.bl true) H'
end EP
namespace EP
open PySem PySem.Spec PyProof.Rows L2
theorem kt_bool_bool {K : PySem.W.Frag} : PySem.W.kitOne K (.type "bool") (.type "bool") = some true := kit_ty (by decide +kernel)
theorem kt_bool_int {K : PySem.W.Frag} : PySem.W.kitOne K (.type "bool") (.type "int") = some true := kit_ty (by decide +kernel)
theorem kt_bool_str {K : PySem.W.Frag} : PySem.W.kitOne K (.type "bool") (.type "str") = some false := kit_ty (by decide +kernel)
theorem kt_bool_list {K : PySem.W.Frag} : PySem.W.kitOne K (.type "bool") (.type "list") = some false := kit_ty (by decide +kernel)
theorem kt_bool_tuple {K : PySem.W.Frag} : PySem.W.kitOne K (.type "bool") (.type "tuple") = some false := kit_ty (by decide +kernel)
theorem kt_int_bool {K : PySem.W.Frag} : PySem.W.kitOne K (.type "int") (.type "bool") = some false := kit_ty (by decide +kernel)
theorem kt_int_int {K : PySem.W.Frag} : PySem.W.kitOne K (.type "int") (.type "int") = some true := kit_ty (by decide +kernel)
theorem kt_int_str {K : PySem.W.Frag} : PySem.W.kitOne K (.type "int") (.type "str") = some false := kit_ty (by decide +kernel)
theorem kt_int_list {K : PySem.W.Frag} : PySem.W.kitOne K (.type "int") (.type "list") = some false := kit_ty (by decide +kernel)
theorem kt_int_tuple {K : PySem.W.Frag} : PySem.W.kitOne K (.type "int") (.type "tuple") = some false := kit_ty (by decide +kernel)
theorem kt_str_bool {K : PySem.W.Frag} : PySem.W.kitOne K (.type "str") (.type "bool") = some false := kit_ty (by decide +kernel)
theorem kt_str_int {K : PySem.W.Frag} : PySem.W.kitOne K (.type "str") (.type "int") = some false := kit_ty (by decide +kernel)
theorem kt_str_str {K : PySem.W.Frag} : PySem.W.kitOne K (.type "str") (.type "str") = some true := kit_ty (by decide +kernel)
theorem kt_str_list {K : PySem.W.Frag} : PySem.W.kitOne K (.type "str") (.type "list") = some false := kit_ty (by decide +kernel)
theorem kt_str_tuple {K : PySem.W.Frag} : PySem.W.kitOne K (.type "str") (.type "tuple") = some false := kit_ty (by decide +kernel)
theorem kt_list_bool {K : PySem.W.Frag} : PySem.W.kitOne K (.type "list") (.type "bool") = some false := kit_ty (by decide +kernel)
theorem kt_list_int {K : PySem.W.Frag} : PySem.W.kitOne K (.type "list") (.type "int") = some false := kit_ty (by decide +kernel)
theorem kt_list_str {K : PySem.W.Frag} : PySem.W.kitOne K (.type "list") (.type "str") = some false := kit_ty (by decide +kernel)
theorem kt_list_list {K : PySem.W.Frag} : PySem.W.kitOne K (.type "list") (.type "list") = some true := kit_ty (by decide +kernel)
theorem kt_list_tuple {K : PySem.W.Frag} : PySem.W.kitOne K (.type "list") (.type "tuple") = some false := kit_ty (by decide +kernel)
theorem kt_tuple_bool {K : PySem.W.Frag} : PySem.W.kitOne K (.type "tuple") (.type "bool") = some false := kit_ty (by decide +kernel)
theorem kt_tuple_int {K : PySem.W.Frag} : PySem.W.kitOne K (.type "tuple") (.type "int") = some false := kit_ty (by decide +kernel)
theorem kt_tuple_str {K : PySem.W.Frag} : PySem.W.kitOne K (.type "tuple") (.type "str") = some false := kit_ty (by decide +kernel)
theorem kt_tuple_list {K : PySem.W.Frag} : PySem.W.kitOne K (.type "tuple") (.type "list") = some false := kit_ty (by decide +kernel)
theorem kt_tuple_tuple {K : PySem.W.Frag} : PySem.W.kitOne K (.type "tuple") (.type "tuple") = some true := kit_ty (by decide +kernel)
theorem kt_NoneType_bool {K : PySem.W.Frag} : PySem.W.kitOne K (.type "NoneType") (.type "bool") = some false := kit_ty (by decide +kernel)
theorem kt_NoneType_int {K : PySem.W.Frag} : PySem.W.kitOne K (.type "NoneType") (.type "int") = some false := kit_ty (by decide +kernel)
theorem kt_NoneType_str {K : PySem.W.Frag} : PySem.W.kitOne K (.type "NoneType") (.type "str") = some false := kit_ty (by decide +kernel)
theorem kt_NoneType_list {K : PySem.W.Frag} : PySem.W.kitOne K (.type "NoneType") (.type "list") = some false := kit_ty (by decide +kernel)
theorem kt_NoneType_tuple {K : PySem.W.Frag} : PySem.W.kitOne K (.type "NoneType") (.type "tuple") = some false := kit_ty (by decide +kernel)
end EP
namespace EP
open PySem PySem.Spec PyProof.Rows L2
mutual
theorem Dp_same {K : PySem.W.Frag} {H H' : Hp} (s : Same H H') : ∀ {v : V} {d : PyData}, Dp K H v d → Dp K H' v d
  | _, _, .non => .non
  | _, _, .bl b => .bl b
  | _, _, .int i => .int i
  | _, _, .str x => .str x
  | _, _, .lst h a => .lst (Evl.ex_l s h) (DpAll_same s a)
  | _, _, .tup h a => .tup (Evl.ex_t s h) (DpAll_same s a)
theorem DpAll_same {K : PySem.W.Frag} {H H' : Hp} (s : Same H H') : ∀ {v : List V} {d : List PyData}, DpAll K H v d → DpAll K H' v d
  | _, _, .nil => .nil
  | _, _, .cons h a => .cons (Dp_same s h) (DpAll_same s a)
end
theorem DpAll_len {K : PySem.W.Frag} {H : Hp} : ∀ {v : List V} {d : List PyData}, DpAll K H v d → v.length = d.length
  | _, _, .nil => rfl
  | _, _, .cons _ a => congrArg Nat.succ (DpAll_len a)
theorem DpAll_get {K : PySem.W.Frag} {H : Hp} : ∀ {v : List V} {ds : List PyData} {i : Nat} {x : V}, DpAll K H v ds → v[i]? = some x → ∃ d, ds[i]? = some d ∧ Dp K H x d
  | _, _, i, _, .nil, e => by simp at e
  | _, _, 0, _, .cons h a, e => ⟨_, rfl, by cases Option.some.inj e; exact h⟩
  | _, _, i + 1, _, .cons h a, e => DpAll_get (i := i) a e
theorem deps_get : ∀ {ds : List PyData} {i : Nat} {d : PyData}, ds[i]? = some d → dep d ≤ deps ds
  | [], i, _, e => by simp at e
  | x :: xs, 0, _, e => by cases Option.some.inj e; unfold deps; omega
  | x :: xs, i + 1, d, e => by have := deps_get (ds := xs) (i := i) e; unfold deps; omega
theorem all_true (n : Nat) : (List.replicate n true).all id = true := by
  induction n with
  | zero => rfl
  | succ n ih => rw [List.replicate_succ, List.all_cons, ih]; rfl
theorem walk_zipT {K : PySem.W.Frag} {a b : Addr} {xs ys : List V} {n : Nat} (hn : n = min xs.length ys.length) : Walk (RZ.ItzT K a b) n (fun H => SqT K H a xs ∧ SqT K H b ys) (YPair (fun i => xs[i]?) (fun i => ys[i]?)) := by
  subst hn
  refine ⟨fun i _ hi q => ?_, fun _ q => ⟨xs, ys, q.1, q.2, by omega⟩, fun i H v H' _ q y => ?_⟩
  · have h1 : i < xs.length := by omega
    have h2 : i < ys.length := by omega
    exact ⟨xs, ys, xs[i], ys[i], q.1, q.2, by simp [h1], by simp [h2]⟩
  · obtain ⟨T, x, z, h1, h2, h3, h4, h5⟩ := y
    exact ⟨T, x, z, h1, h2, h3, h4 xs q.1, h5 ys q.2⟩
end EP
namespace EP
open PySem PySem.Spec PyProof.Rows L2
theorem ty_list {K : PySem.W.Frag} {H : Hp} {a : Addr} {xs : List V} (h : SqL K H a xs) : TyX K H (.ref a) (.type "list") := by
  rcases h with (h | ⟨o, h⟩) | ⟨o, its, n, h1, h2, _⟩
  · exact .base (.lst h)
  · exact .base (.frz h)
  · exact .kList h1 h2
theorem ty_tuple {K : PySem.W.Frag} {H : Hp} {a : Addr} {xs : List V} (h : SqT K H a xs) : TyX K H (.ref a) (.type "tuple") := by
  rcases h with (h | ⟨o, h⟩) | ⟨o, its, n, h1, h2, _⟩
  · exact .base (.tup h)
  · exact .fTuple h
  · exact .kTuple h1 h2
end EP
namespace EP
open PySem PySem.Spec PyProof.Rows L2
theorem gcd_red {n d : Int} (h : d ≠ 0) : Int.gcd (rn n d) (rd n d) = 1 := by
  have hg := gcd_pos (n := n) h
  have h1 := congrArg Int.natAbs (rn_mul (n := n) (d := d))
  have h2 := congrArg Int.natAbs (rd_mul (n := n) (d := d))
  rw [Int.natAbs_mul, Int.natAbs_natCast] at h1 h2
  have h3 : (if d < 0 then -n else n).natAbs = n.natAbs := by split <;> omega
  rw [h3] at h1
  rw [Int.natAbs_natCast] at h2
  have h4 : Nat.gcd (rn n d).natAbs (rd n d).natAbs * Int.gcd n d = Int.gcd n d := by
    rw [← Nat.gcd_mul_right, h1, h2]; rfl
  have h5 : Nat.gcd (rn n d).natAbs (rd n d).natAbs * Int.gcd n d = 1 * Int.gcd n d := by rw [h4, Nat.one_mul]
  exact Nat.eq_of_mul_eq_mul_right hg h5
/-- a fraction in lowest terms, below 2 ^ n -/
structure Fq (K : PySem.W.Frag) (H : Hp) (n : Nat) (v : V) (a b : Int) : Prop where
  f : Fr K H v a b
  p : 0 < b
  ba : B n a
  bb : B n b
  g : Int.gcd a b = 1
theorem Fq.mo {K : PySem.W.Frag} {H H' : Hp} {r : Addr} {v : V} {a b : Int} {n : Nat} (h : Fq K H n v a b) (m : Mo r H H') : Fq K H' n v a b := ⟨h.f.mo m, h.p, h.ba, h.bb, h.g⟩
theorem Fq.same {K : PySem.W.Frag} {H H' : Hp} {v : V} {a b : Int} {n : Nat} (h : Fq K H n v a b) (m : Same H H') : Fq K H' n v a b := ⟨h.f.same m, h.p, h.ba, h.bb, h.g⟩
theorem Fq.mono {K : PySem.W.Frag} {H : Hp} {v : V} {a b : Int} {n m : Nat} (h : Fq K H n v a b) (l : n ≤ m := by decide) : Fq K H m v a b := ⟨h.f, h.p, h.ba.mono l, h.bb.mono l, h.g⟩
theorem Fq.red {K : PySem.W.Frag} {H : Hp} {v : V} {n d : Int} {k : Nat} (h : d ≠ 0) (f : Fr K H v (rn n d) (rd n d)) (bn : B k n) (bd : B k d) : Fq K H k v (rn n d) (rd n d) := ⟨f, rd_pos h, bn.rn h, bd.rd h, gcd_red h⟩
theorem Fq.lit {K : PySem.W.Frag} {H : Hp} {p : Addr} {a b : Int} {k : Nat} (h : H p = some (.tup [.int a, .int b])) (hb : 0 < b) (ba : B k a) (bb : B k b) (g : Int.gcd a b = 1) : Fq K H k (.ref p) a b := ⟨⟨p, rfl, .inl (.inl h)⟩, hb, ba, bb, g⟩
/-- a drawn fraction -/
def spDrawn (K : PySem.W.Frag) (n : Nat) : Sp := fun vs H Q _ => ∃ (r : Addr), vs = [.ref r] ∧ Rng H r ∧ ∀ v a b H', Mo r H H' → Fq K H' n v a b → Q v H'
/-- the same, positive -/
def spDrawnP (K : PySem.W.Frag) (n : Nat) : Sp := fun vs H Q _ => ∃ (r : Addr), vs = [.ref r] ∧ Rng H r ∧ ∀ v a b H', Mo r H H' → Fq K H' n v a b → 0 < a → Q v H'
theorem Rng.ne {H : Hp} {r l : Addr} (h : Rng H r) (n : H l = none) : l ≠ r := fun e => by
  obtain ⟨L, ns, i, c, s, h1, _⟩ := h
  subst e; rw [n] at h1; cases h1
theorem B.of {x : Int} {n : Nat} (h : x.natAbs < 2 ^ n) : B n x := h
end EP
namespace EP
theorem rn_pos {n d : Int} (hn : 0 < n) (hd : 0 < d) : 0 < rn n d := by
  have h1 := rn_rd (n := n) (d := d) (by omega)
  have h2 := rd_pos (n := n) (d := d) (by omega)
  have h3 : 0 < rn n d * d := by rw [h1]; exact Int.mul_pos hn h2
  exact Int.pos_of_mul_pos_left h3 hd
end EP
namespace EP
open PySem PySem.Spec PyProof.Rows L2
/-- fractions, one behind another -/
inductive Frs (K : PySem.W.Frag) (H : Hp) : List V → List (Int × Int) → Prop
  | nil : Frs K H [] []
  | cons {v : V} {a b : Int} {vs : List V} {qs : List (Int × Int)} : Fr K H v a b → 0 < b → Frs K H vs qs → Frs K H (v :: vs) ((a, b) :: qs)
theorem Frs.same {K : PySem.W.Frag} {H H' : Hp} (s : Same H H') : ∀ {vs : List V} {qs : List (Int × Int)}, Frs K H vs qs → Frs K H' vs qs
  | _, _, .nil => .nil
  | _, _, .cons f p r => .cons (f.same s) p (r.same s)
theorem Frs.mo {K : PySem.W.Frag} {H H' : Hp} {g : Addr} (s : Mo g H H') : ∀ {vs : List V} {qs : List (Int × Int)}, Frs K H vs qs → Frs K H' vs qs
  | _, _, .nil => .nil
  | _, _, .cons f p r => .cons (f.mo s) p (r.mo s)
theorem Frs.len {K : PySem.W.Frag} {H : Hp} : ∀ {vs : List V} {qs : List (Int × Int)}, Frs K H vs qs → vs.length = qs.length
  | _, _, .nil => rfl
  | _, _, .cons _ _ r => congrArg Nat.succ r.len
theorem Frs.pos {K : PySem.W.Frag} {H : Hp} : ∀ {vs : List V} {qs : List (Int × Int)}, Frs K H vs qs → ∀ q ∈ qs, 0 < q.2
  | _, _, .cons _ p r, q, h => by
    rcases List.mem_cons.mp h with e | e
    · rw [e]; exact p
    · exact r.pos q e
theorem Frs.get {K : PySem.W.Frag} {H : Hp} : ∀ {vs : List V} {qs : List (Int × Int)} {i : Nat} {v : V}, Frs K H vs qs → vs[i]? = some v → ∃ a b, qs[i]? = some (a, b) ∧ Fr K H v a b ∧ 0 < b
  | _, _, _, _, .nil, e => by simp at e
  | _, _, 0, _, .cons f p _, e => ⟨_, _, rfl, by cases Option.some.inj e; exact f, p⟩
  | _, _, i + 1, _, .cons _ _ r, e => Frs.get (i := i) r e
end EP
namespace EP
open PySem PySem.Spec PyProof.Rows L2
theorem sqt_mut {K : PySem.W.Frag} {H : Hp} {D a : Addr} {o : HO} {xs ys : List V} (hD : H D = some (.lst ys)) (h : SqT K H a xs) : SqT K (upd H D o) a xs := by
  rcases h with (h | ⟨u, h⟩) | h
  · refine .inl (.inl ?_)
    rw [upd_ne (fun e => by subst e; rw [hD] at h; cases h)]; exact h
  · refine .inl (.inr ⟨u, ?_⟩)
    rw [upd_ne (fun e => by subst e; rw [hD] at h; cases h)]; exact h
  · exact .inr h
theorem Fr.mut {K : PySem.W.Frag} {H : Hp} {D : Addr} {o : HO} {v : V} {a b : Int} {ys : List V} (h : Fr K H v a b) (hD : H D = some (.lst ys)) : Fr K (upd H D o) v a b := by
  obtain ⟨p, e, h⟩ := h
  exact ⟨p, e, sqt_mut hD h⟩
theorem Fq.mut {K : PySem.W.Frag} {H : Hp} {D : Addr} {o : HO} {v : V} {a b : Int} {n : Nat} {ys : List V} (h : Fq K H n v a b) (hD : H D = some (.lst ys)) : Fq K (upd H D o) n v a b := ⟨h.f.mut hD, h.p, h.ba, h.bb, h.g⟩
/-- drawn fractions, one behind another -/
inductive Fqs (K : PySem.W.Frag) (H : Hp) (n : Nat) : List V → List (Int × Int) → Prop
  | nil : Fqs K H n [] []
  | snoc {v : V} {a b : Int} {vs : List V} {qs : List (Int × Int)} : Fqs K H n vs qs → Fq K H n v a b → Fqs K H n (vs ++ [v]) (qs ++ [(a, b)])
theorem Fqs.mo {K : PySem.W.Frag} {H H' : Hp} {g : Addr} {n : Nat} (s : Mo g H H') : ∀ {vs : List V} {qs : List (Int × Int)}, Fqs K H n vs qs → Fqs K H' n vs qs
  | _, _, .nil => .nil
  | _, _, .snoc r f => .snoc (r.mo s) (f.mo s)
theorem Fqs.same {K : PySem.W.Frag} {H H' : Hp} {n : Nat} (s : Same H H') : ∀ {vs : List V} {qs : List (Int × Int)}, Fqs K H n vs qs → Fqs K H' n vs qs
  | _, _, .nil => .nil
  | _, _, .snoc r f => .snoc (r.same s) (f.same s)
theorem Fqs.mut {K : PySem.W.Frag} {H : Hp} {D : Addr} {o : HO} {n : Nat} {ys : List V} (hD : H D = some (.lst ys)) : ∀ {vs : List V} {qs : List (Int × Int)}, Fqs K H n vs qs → Fqs K (upd H D o) n vs qs
  | _, _, .nil => .nil
  | _, _, .snoc r f => .snoc (r.mut hD) (f.mut hD)
theorem Fqs.len {K : PySem.W.Frag} {H : Hp} {n : Nat} : ∀ {vs : List V} {qs : List (Int × Int)}, Fqs K H n vs qs → vs.length = qs.length
  | _, _, .nil => rfl
  | _, _, .snoc r _ => by rw [List.length_append, List.length_append, r.len]; rfl
theorem Frs.app {K : PySem.W.Frag} {H : Hp} {v : V} {a b : Int} (f : Fr K H v a b) (p : 0 < b) : ∀ {vs : List V} {qs : List (Int × Int)}, Frs K H vs qs → Frs K H (vs ++ [v]) (qs ++ [(a, b)])
  | _, _, .nil => .cons f p .nil
  | _, _, .cons g q r => .cons g q (r.app f p)
theorem Fqs.frs {K : PySem.W.Frag} {H : Hp} {n : Nat} : ∀ {vs : List V} {qs : List (Int × Int)}, Fqs K H n vs qs → Frs K H vs qs
  | _, _, .nil => .nil
  | _, _, .snoc r f => r.frs.app f.f f.p
theorem Fqs.bd {K : PySem.W.Frag} {H : Hp} {n : Nat} : ∀ {vs : List V} {qs : List (Int × Int)}, Fqs K H n vs qs → ∀ q ∈ qs, B n q.1 ∧ B n q.2 ∧ Int.gcd q.1 q.2 = 1
  | _, _, .nil, q, h => by cases h
  | _, _, .snoc r f, q, h => by
    rcases List.mem_append.mp h with e | e
    · exact r.bd q e
    · rw [List.mem_singleton.mp e]; exact ⟨f.ba, f.bb, f.g⟩
theorem Fqs.two {K : PySem.W.Frag} {H : Hp} {n : Nat} {vs : List V} {qs : List (Int × Int)} (h : Fqs K H n vs qs) (e : vs.length = 2) : ∃ v1 v2 a1 b1 a2 b2, vs = [v1, v2] ∧ Fq K H n v1 a1 b1 ∧ Fq K H n v2 a2 b2 := by
  cases h with
  | nil => cases e
  | @snoc v a b vs1 qs1 r f =>
    cases r with
    | nil => cases e
    | @snoc v' a' b' vs2 qs2 r2 f2 =>
      have : vs2 = [] := by cases vs2 with
        | nil => rfl
        | cons x xs => simp at e
      subst this
      exact ⟨v', v, a', b', a, b, rfl, f2, f⟩
end EP
namespace EP
theorem rd_one {n m : Int} (hm : m ≠ 0) (h : m ∣ n) : rd n m = 1 := by
  unfold rd
  have : Int.gcd n m = m.natAbs := by
    unfold Int.gcd
    exact Nat.gcd_eq_right (Int.natAbs_dvd_natAbs.mpr h)
  rw [this]
  exact Int.ediv_self (by omega)
end EP
namespace EP
/-- the quotient by the divisor is whole -/
theorem by_whole {a b d g : Int} (hb : b ≠ 0) (hd : d ≠ 0) (hg : g ≠ 0) (h : g ∣ a * d) : b * rn g (b * d) ∣ a * rd g (b * d) ∧ rn g (b * d) ≠ 0 := by
  have e := rn_rd (n := g) (d := b * d) (Int.mul_ne_zero hb hd)
  have p := rd_pos (n := g) (d := b * d) (Int.mul_ne_zero hb hd)
  generalize rn g (b * d) = x at *
  generalize rd g (b * d) = y at *
  obtain ⟨k, hk⟩ := h
  refine ⟨⟨k, ?_⟩, fun z => ?_⟩
  · refine Int.eq_of_mul_eq_mul_right hg ?_
    have : a * y * g = a * (g * y) := by grind
    rw [this, ← e]
    have : a * (x * (b * d)) = x * b * (a * d) := by grind
    rw [this, hk]
    grind
  · rw [z, Int.zero_mul] at e
    have := Int.mul_eq_zero.mp e.symm
    omega
theorem rem_bounds {a b c d : Int} (hb : 0 < b) (hc : 0 < c) (hd : 0 < d) : 0 ≤ (remN a b c d).1 ∧ 0 < (remN a b c d).2 ∧ (remN a b c d).1 * d < c * (remN a b c d).2 := by
  have hbc : 0 < b * c := Int.mul_pos hb hc
  unfold remN
  have e1 := rn_rd (n := a * d) (d := b * c) (by omega)
  have p1 := rd_pos (n := a * d) (d := b * c) (by omega)
  generalize rn (a * d) (b * c) = qn at *
  generalize rd (a * d) (b * c) = qd at *
  have t1 : qn / qd * qd ≤ qn := Int.ediv_mul_le qn (by omega)
  have t2 : qn < (qn / qd + 1) * qd := Int.lt_ediv_add_one_mul_self qn p1
  dsimp only
  generalize qn / qd = t at *
  have u1 : t * (b * c) ≤ a * d := by
    refine Int.le_of_mul_le_mul_right ?_ p1
    rw [← e1]
    have := Int.mul_le_mul_of_nonneg_right t1 (Int.le_of_lt hbc)
    have e : t * (b * c) * qd = t * qd * (b * c) := by grind
    omega
  have u2 : a * d < (t + 1) * (b * c) := by
    refine Int.lt_of_mul_lt_mul_right ?_ (Int.le_of_lt p1)
    rw [← e1]
    have := Int.mul_lt_mul_of_pos_right t2 hbc
    have e : (t + 1) * (b * c) * qd = (t + 1) * qd * (b * c) := by grind
    omega
  have e2 := rn_rd (n := t * c) (d := d) (by omega)
  have p2 := rd_pos (n := t * c) (d := d) (by omega)
  generalize rn (t * c) d = n at *
  generalize rd (t * c) d = m at *
  have hbm : 0 < b * m := Int.mul_pos hb p2
  have e3 := rn_rd (n := a * m - n * b) (d := b * m) (by omega)
  have p3 := rd_pos (n := a * m - n * b) (d := b * m) (by omega)
  generalize rn (a * m - n * b) (b * m) = x at *
  generalize rd (a * m - n * b) (b * m) = y at *
  have k1 : (a * m - n * b) * d = m * (a * d - t * (b * c)) := by grind
  refine ⟨?_, p3, ?_⟩
  · refine Int.le_of_mul_le_mul_right (a := b * m * d) ?_ (Int.mul_pos hbm hd)
    have : x * (b * m * d) = y * ((a * m - n * b) * d) := by grind
    rw [this, k1, Int.zero_mul]
    exact Int.mul_nonneg (Int.le_of_lt p3) (Int.mul_nonneg (Int.le_of_lt p2) (by omega))
  · refine Int.lt_of_mul_lt_mul_right (a := b * m) ?_ (Int.le_of_lt hbm)
    have : x * d * (b * m) = y * ((a * m - n * b) * d) := by grind
    rw [this, k1]
    have h0 : (t + 1) * (b * c) = t * (b * c) + b * c := by grind
    have h1 : y * (m * (a * d - t * (b * c))) < y * (m * (b * c)) := Int.mul_lt_mul_of_pos_left (Int.mul_lt_mul_of_pos_left (by omega) p2) p3
    have : c * y * (b * m) = y * (m * (b * c)) := by grind
    omega
theorem rem_B {a b c d : Int} (hb : 0 < b) (hc : 0 < c) (hd : 0 < d) (ba : B 40 a) (bb : B 40 b) (bc : B 40 c) (bd : B 40 d) : B 500 (remN a b c d).1 ∧ B 500 (remN a b c d).2 := by
  have hbc : b * c ≠ 0 := Int.mul_ne_zero (by omega) (by omega)
  unfold remN
  have b1 : B 80 (rn (a * d) (b * c) / rd (a * d) (b * c)) := ((ba.mul bd).rn hbc).le (div_abs (rd_pos hbc))
  dsimp only
  generalize rn (a * d) (b * c) / rd (a * d) (b * c) = t at *
  have b2 : B 120 (rn (t * c) d) := (b1.mul bc).rn (by omega)
  have b3 : B 40 (rd (t * c) d) := bd.rd (by omega)
  have p2 := rd_pos (n := t * c) (d := d) (by omega)
  generalize rn (t * c) d = n at *
  generalize rd (t * c) d = m at *
  have hbm : b * m ≠ 0 := Int.mul_ne_zero (by omega) (by omega)
  exact ⟨(((ba.mul b3).mono (m := 160)).sub (b2.mul bb)).mono.rn hbm, (bb.mul b3).mono.rd hbm⟩
end EP
namespace EP
open PySem PySem.Spec PyProof.Rows L2
def topS (i : Nat) : Stmt := PySem.Challenge.pw_evenpace_k02_floors_and_remainders.main.body.getD i (.Pass ⟨0, 0, 0, 0⟩)
abbrev s_gcd : Stmt := topS 3
abbrev N_gcd : List Str := ["one", "other"]
abbrev Ps_gcd : List Str := ["one", "other"]
theorem sc_gcd : FnScope N_gcd Ps_gcd (defScope s_gcd) := ⟨rfl, rfl, rfl, by decide +kernel, rfl, by decide +kernel, by decide +kernel⟩
abbrev s_fraction : Stmt := topS 4
abbrev N_fraction : List Str := ["num", "den", "divisor"]
abbrev Ps_fraction : List Str := ["num", "den"]
theorem sc_fraction : FnScope N_fraction Ps_fraction (defScope s_fraction) := ⟨rfl, rfl, rfl, by decide +kernel, rfl, by decide +kernel, by decide +kernel⟩
abbrev s_subtract : Stmt := topS 5
abbrev N_subtract : List Str := ["one", "other"]
abbrev Ps_subtract : List Str := ["one", "other"]
theorem sc_subtract : FnScope N_subtract Ps_subtract (defScope s_subtract) := ⟨rfl, rfl, rfl, by decide +kernel, rfl, by decide +kernel, by decide +kernel⟩
abbrev s_multiply : Stmt := topS 6
abbrev N_multiply : List Str := ["one", "other"]
abbrev Ps_multiply : List Str := ["one", "other"]
theorem sc_multiply : FnScope N_multiply Ps_multiply (defScope s_multiply) := ⟨rfl, rfl, rfl, by decide +kernel, rfl, by decide +kernel, by decide +kernel⟩
abbrev s_divide : Stmt := topS 7
abbrev N_divide : List Str := ["one", "other"]
abbrev Ps_divide : List Str := ["one", "other"]
theorem sc_divide : FnScope N_divide Ps_divide (defScope s_divide) := ⟨rfl, rfl, rfl, by decide +kernel, rfl, by decide +kernel, by decide +kernel⟩
abbrev s_floor_of : Stmt := topS 8
abbrev N_floor_of : List Str := ["one"]
abbrev Ps_floor_of : List Str := ["one"]
theorem sc_floor_of : FnScope N_floor_of Ps_floor_of (defScope s_floor_of) := ⟨rfl, rfl, rfl, by decide +kernel, rfl, by decide +kernel, by decide +kernel⟩
abbrev s_ceiling_of : Stmt := topS 9
abbrev N_ceiling_of : List Str := ["one"]
abbrev Ps_ceiling_of : List Str := ["one"]
theorem sc_ceiling_of : FnScope N_ceiling_of Ps_ceiling_of (defScope s_ceiling_of) := ⟨rfl, rfl, rfl, by decide +kernel, rfl, by decide +kernel, by decide +kernel⟩
abbrev s_remainder : Stmt := topS 10
abbrev N_remainder : List Str := ["one", "period", "turns"]
abbrev Ps_remainder : List Str := ["one", "period"]
theorem sc_remainder : FnScope N_remainder Ps_remainder (defScope s_remainder) := ⟨rfl, rfl, rfl, by decide +kernel, rfl, by decide +kernel, by decide +kernel⟩
abbrev s_common_divisor : Stmt := topS 11
abbrev N_common_divisor : List Str := ["one", "other"]
abbrev Ps_common_divisor : List Str := ["one", "other"]
theorem sc_common_divisor : FnScope N_common_divisor Ps_common_divisor (defScope s_common_divisor) := ⟨rfl, rfl, rfl, by decide +kernel, rfl, by decide +kernel, by decide +kernel⟩
abbrev s_l_source : Stmt := topS 13
abbrev N_l_source : List Str := ["_law_script", "_law_seed", "_law_cell"]
abbrev Ps_l_source : List Str := ["_law_script"]
theorem sc_l_source : FnScope N_l_source Ps_l_source (defScope s_l_source) := ⟨rfl, rfl, rfl, by decide +kernel, rfl, by decide +kernel, by decide +kernel⟩
abbrev s_l_draw : Stmt := topS 14
abbrev N_l_draw : List Str := ["_law_rng", "_law_many", "_law_cell", "_law_got", "_law_seed"]
abbrev Ps_l_draw : List Str := ["_law_rng", "_law_many"]
theorem sc_l_draw : FnScope N_l_draw Ps_l_draw (defScope s_l_draw) := ⟨rfl, rfl, rfl, by decide +kernel, rfl, by decide +kernel, by decide +kernel⟩
abbrev s_l_choice : Stmt := topS 15
abbrev N_l_choice : List Str := ["_law_rng", "_law_some"]
abbrev Ps_l_choice : List Str := ["_law_rng", "_law_some"]
theorem sc_l_choice : FnScope N_l_choice Ps_l_choice (defScope s_l_choice) := ⟨rfl, rfl, rfl, by decide +kernel, rfl, by decide +kernel, by decide +kernel⟩
abbrev s_l_equal : Stmt := topS 16
abbrev N_l_equal : List Str := ["_law_result", "_law_expected", "_law_a", "_law_b"]
abbrev Ps_l_equal : List Str := ["_law_result", "_law_expected"]
theorem sc_l_equal : FnScope N_l_equal Ps_l_equal (defScope s_l_equal) := ⟨rfl, rfl, rfl, by decide +kernel, rfl, by decide +kernel, by decide +kernel⟩
abbrev s_l_divisor : Stmt := topS 17
abbrev N_l_divisor : List Str := ["_law_one", "_law_other"]
abbrev Ps_l_divisor : List Str := ["_law_one", "_law_other"]
theorem sc_l_divisor : FnScope N_l_divisor Ps_l_divisor (defScope s_l_divisor) := ⟨rfl, rfl, rfl, by decide +kernel, rfl, by decide +kernel, by decide +kernel⟩
abbrev s_l_reduce : Stmt := topS 18
abbrev N_l_reduce : List Str := ["_law_num", "_law_den", "_law_by", "_law_sign"]
abbrev Ps_l_reduce : List Str := ["_law_num", "_law_den"]
theorem sc_l_reduce : FnScope N_l_reduce Ps_l_reduce (defScope s_l_reduce) := ⟨rfl, rfl, rfl, by decide +kernel, rfl, by decide +kernel, by decide +kernel⟩
abbrev s_l_subtract : Stmt := topS 19
abbrev N_l_subtract : List Str := ["_law_one", "_law_other"]
abbrev Ps_l_subtract : List Str := ["_law_one", "_law_other"]
theorem sc_l_subtract : FnScope N_l_subtract Ps_l_subtract (defScope s_l_subtract) := ⟨rfl, rfl, rfl, by decide +kernel, rfl, by decide +kernel, by decide +kernel⟩
abbrev s_l_divide : Stmt := topS 20
abbrev N_l_divide : List Str := ["_law_one", "_law_other"]
abbrev Ps_l_divide : List Str := ["_law_one", "_law_other"]
theorem sc_l_divide : FnScope N_l_divide Ps_l_divide (defScope s_l_divide) := ⟨rfl, rfl, rfl, by decide +kernel, rfl, by decide +kernel, by decide +kernel⟩
abbrev s_l_less : Stmt := topS 21
abbrev N_l_less : List Str := ["_law_one", "_law_other"]
abbrev Ps_l_less : List Str := ["_law_one", "_law_other"]
theorem sc_l_less : FnScope N_l_less Ps_l_less (defScope s_l_less) := ⟨rfl, rfl, rfl, by decide +kernel, rfl, by decide +kernel, by decide +kernel⟩
abbrev s_l_times : Stmt := topS 22
abbrev N_l_times : List Str := ["_law_number", "_law_one"]
abbrev Ps_l_times : List Str := ["_law_number", "_law_one"]
theorem sc_l_times : FnScope N_l_times Ps_l_times (defScope s_l_times) := ⟨rfl, rfl, rfl, by decide +kernel, rfl, by decide +kernel, by decide +kernel⟩
abbrev s_l_floor : Stmt := topS 23
abbrev N_l_floor : List Str := ["_law_one"]
abbrev Ps_l_floor : List Str := ["_law_one"]
theorem sc_l_floor : FnScope N_l_floor Ps_l_floor (defScope s_l_floor) := ⟨rfl, rfl, rfl, by decide +kernel, rfl, by decide +kernel, by decide +kernel⟩
abbrev s_l_rest : Stmt := topS 24
abbrev N_l_rest : List Str := ["_law_one", "_law_period"]
abbrev Ps_l_rest : List Str := ["_law_one", "_law_period"]
theorem sc_l_rest : FnScope N_l_rest Ps_l_rest (defScope s_l_rest) := ⟨rfl, rfl, rfl, by decide +kernel, rfl, by decide +kernel, by decide +kernel⟩
abbrev s_l_common : Stmt := topS 25
abbrev N_l_common : List Str := ["_law_one", "_law_other"]
abbrev Ps_l_common : List Str := ["_law_one", "_law_other"]
theorem sc_l_common : FnScope N_l_common Ps_l_common (defScope s_l_common) := ⟨rfl, rfl, rfl, by decide +kernel, rfl, by decide +kernel, by decide +kernel⟩
abbrev s_l_small : Stmt := topS 26
abbrev N_l_small : List Str := ["_law_rng"]
abbrev Ps_l_small : List Str := ["_law_rng"]
theorem sc_l_small : FnScope N_l_small Ps_l_small (defScope s_l_small) := ⟨rfl, rfl, rfl, by decide +kernel, rfl, by decide +kernel, by decide +kernel⟩
abbrev s_l_wide : Stmt := topS 27
abbrev N_l_wide : List Str := ["_law_rng", "_law_wide_here"]
abbrev Ps_l_wide : List Str := ["_law_rng"]
theorem sc_l_wide : FnScope N_l_wide Ps_l_wide (defScope s_l_wide) := ⟨rfl, rfl, rfl, by decide +kernel, rfl, by decide +kernel, by decide +kernel⟩
abbrev s_l_positive : Stmt := topS 28
abbrev N_l_positive : List Str := ["_law_rng"]
abbrev Ps_l_positive : List Str := ["_law_rng"]
theorem sc_l_positive : FnScope N_l_positive Ps_l_positive (defScope s_l_positive) := ⟨rfl, rfl, rfl, by decide +kernel, rfl, by decide +kernel, by decide +kernel⟩
abbrev s_law : Stmt := topS 29
abbrev N_law : List Str := ["_law_script", "_law_rng", "_law_turn", "_law_one", "_law_period", "_law_low", "_law_high", "_law_left", "_law_other", "_law_by"]
abbrev Ps_law : List Str := ["_law_script"]
theorem sc_law : FnScope N_law Ps_law (defScope s_law) := ⟨rfl, rfl, rfl, by decide +kernel, rfl, by decide +kernel, by decide +kernel⟩
structure Txt (K : PySem.W.Frag) (mg : Str → Option Value) where
  f_gcd : Addr
  d_gcd : FuncData
  F_gcd : Fun K "gcd" "gcd" s_gcd f_gcd d_gcd
  b_gcd : Binds K d_gcd ["one", "other"] []
  g_gcd : mg "gcd" = some (.ref f_gcd)
  f_fraction : Addr
  d_fraction : FuncData
  F_fraction : FunD K "fraction" "fraction" (defArgs s_fraction) (defBody s_fraction) (defScope s_fraction) [.int 1] [] f_fraction d_fraction
  b_fraction : Binds K d_fraction ["num", "den"] []
  g_fraction : mg "fraction" = some (.ref f_fraction)
  f_subtract : Addr
  d_subtract : FuncData
  F_subtract : Fun K "subtract" "subtract" s_subtract f_subtract d_subtract
  b_subtract : Binds K d_subtract ["one", "other"] []
  g_subtract : mg "subtract" = some (.ref f_subtract)
  f_multiply : Addr
  d_multiply : FuncData
  F_multiply : Fun K "multiply" "multiply" s_multiply f_multiply d_multiply
  b_multiply : Binds K d_multiply ["one", "other"] []
  g_multiply : mg "multiply" = some (.ref f_multiply)
  f_divide : Addr
  d_divide : FuncData
  F_divide : Fun K "divide" "divide" s_divide f_divide d_divide
  b_divide : Binds K d_divide ["one", "other"] []
  g_divide : mg "divide" = some (.ref f_divide)
  f_floor_of : Addr
  d_floor_of : FuncData
  F_floor_of : Fun K "floor_of" "floor_of" s_floor_of f_floor_of d_floor_of
  b_floor_of : Binds K d_floor_of ["one"] []
  g_floor_of : mg "floor_of" = some (.ref f_floor_of)
  f_ceiling_of : Addr
  d_ceiling_of : FuncData
  F_ceiling_of : Fun K "ceiling_of" "ceiling_of" s_ceiling_of f_ceiling_of d_ceiling_of
  b_ceiling_of : Binds K d_ceiling_of ["one"] []
  g_ceiling_of : mg "ceiling_of" = some (.ref f_ceiling_of)
  f_remainder : Addr
  d_remainder : FuncData
  F_remainder : Fun K "remainder" "remainder" s_remainder f_remainder d_remainder
  b_remainder : Binds K d_remainder ["one", "period"] []
  g_remainder : mg "remainder" = some (.ref f_remainder)
  f_common_divisor : Addr
  d_common_divisor : FuncData
  F_common_divisor : Fun K "common_divisor" "common_divisor" s_common_divisor f_common_divisor d_common_divisor
  b_common_divisor : Binds K d_common_divisor ["one", "other"] []
  g_common_divisor : mg "common_divisor" = some (.ref f_common_divisor)
  f_l_source : Addr
  d_l_source : FuncData
  F_l_source : Fun K "_law_source" "_law_source" s_l_source f_l_source d_l_source
  b_l_source : Binds K d_l_source ["_law_script"] []
  g_l_source : mg "_law_source" = some (.ref f_l_source)
  f_l_draw : Addr
  d_l_draw : FuncData
  F_l_draw : Fun K "_law_draw" "_law_draw" s_l_draw f_l_draw d_l_draw
  b_l_draw : Binds K d_l_draw ["_law_rng", "_law_many"] []
  g_l_draw : mg "_law_draw" = some (.ref f_l_draw)
  f_l_choice : Addr
  d_l_choice : FuncData
  F_l_choice : Fun K "_law_choice" "_law_choice" s_l_choice f_l_choice d_l_choice
  b_l_choice : Binds K d_l_choice ["_law_rng", "_law_some"] []
  g_l_choice : mg "_law_choice" = some (.ref f_l_choice)
  f_l_equal : Addr
  d_l_equal : FuncData
  F_l_equal : Fun K "_law_equal" "_law_equal" s_l_equal f_l_equal d_l_equal
  b_l_equal : Binds K d_l_equal ["_law_result", "_law_expected"] []
  g_l_equal : mg "_law_equal" = some (.ref f_l_equal)
  f_l_divisor : Addr
  d_l_divisor : FuncData
  F_l_divisor : Fun K "_law_divisor" "_law_divisor" s_l_divisor f_l_divisor d_l_divisor
  b_l_divisor : Binds K d_l_divisor ["_law_one", "_law_other"] []
  g_l_divisor : mg "_law_divisor" = some (.ref f_l_divisor)
  f_l_reduce : Addr
  d_l_reduce : FuncData
  F_l_reduce : Fun K "_law_reduce" "_law_reduce" s_l_reduce f_l_reduce d_l_reduce
  b_l_reduce : Binds K d_l_reduce ["_law_num", "_law_den"] []
  g_l_reduce : mg "_law_reduce" = some (.ref f_l_reduce)
  f_l_subtract : Addr
  d_l_subtract : FuncData
  F_l_subtract : Fun K "_law_subtract" "_law_subtract" s_l_subtract f_l_subtract d_l_subtract
  b_l_subtract : Binds K d_l_subtract ["_law_one", "_law_other"] []
  g_l_subtract : mg "_law_subtract" = some (.ref f_l_subtract)
  f_l_divide : Addr
  d_l_divide : FuncData
  F_l_divide : Fun K "_law_divide" "_law_divide" s_l_divide f_l_divide d_l_divide
  b_l_divide : Binds K d_l_divide ["_law_one", "_law_other"] []
  g_l_divide : mg "_law_divide" = some (.ref f_l_divide)
  f_l_less : Addr
  d_l_less : FuncData
  F_l_less : Fun K "_law_less" "_law_less" s_l_less f_l_less d_l_less
  b_l_less : Binds K d_l_less ["_law_one", "_law_other"] []
  g_l_less : mg "_law_less" = some (.ref f_l_less)
  f_l_times : Addr
  d_l_times : FuncData
  F_l_times : Fun K "_law_times" "_law_times" s_l_times f_l_times d_l_times
  b_l_times : Binds K d_l_times ["_law_number", "_law_one"] []
  g_l_times : mg "_law_times" = some (.ref f_l_times)
  f_l_floor : Addr
  d_l_floor : FuncData
  F_l_floor : Fun K "_law_floor" "_law_floor" s_l_floor f_l_floor d_l_floor
  b_l_floor : Binds K d_l_floor ["_law_one"] []
  g_l_floor : mg "_law_floor" = some (.ref f_l_floor)
  f_l_rest : Addr
  d_l_rest : FuncData
  F_l_rest : Fun K "_law_rest" "_law_rest" s_l_rest f_l_rest d_l_rest
  b_l_rest : Binds K d_l_rest ["_law_one", "_law_period"] []
  g_l_rest : mg "_law_rest" = some (.ref f_l_rest)
  f_l_common : Addr
  d_l_common : FuncData
  F_l_common : Fun K "_law_common" "_law_common" s_l_common f_l_common d_l_common
  b_l_common : Binds K d_l_common ["_law_one", "_law_other"] []
  g_l_common : mg "_law_common" = some (.ref f_l_common)
  f_l_small : Addr
  d_l_small : FuncData
  F_l_small : Fun K "_law_small" "_law_small" s_l_small f_l_small d_l_small
  b_l_small : Binds K d_l_small ["_law_rng"] []
  g_l_small : mg "_law_small" = some (.ref f_l_small)
  f_l_wide : Addr
  d_l_wide : FuncData
  F_l_wide : Fun K "_law_wide" "_law_wide" s_l_wide f_l_wide d_l_wide
  b_l_wide : Binds K d_l_wide ["_law_rng"] []
  g_l_wide : mg "_law_wide" = some (.ref f_l_wide)
  f_l_positive : Addr
  d_l_positive : FuncData
  F_l_positive : Fun K "_law_positive" "_law_positive" s_l_positive f_l_positive d_l_positive
  b_l_positive : Binds K d_l_positive ["_law_rng"] []
  g_l_positive : mg "_law_positive" = some (.ref f_l_positive)
  f_law : Addr
  d_law : FuncData
  F_law : Fun K "law" "law" s_law f_law d_law
  b_law : Binds K d_law ["_law_script"] []
  g_law : mg "law" = some (.ref f_law)
  m_abs : mg "abs" = none
  m_len : mg "len" = none
  m_list : mg "list" = none
  m_isinstance : mg "isinstance" = none
  m_tuple : mg "tuple" = none
  m_all : mg "all" = none
  m_zip : mg "zip" = none
  m_bool : mg "bool" = none
  m_int : mg "int" = none
  m_str : mg "str" = none
  m_range : mg "range" = none
section
variable {P : Program} {w : World} {K : PySem.W.Frag} {mg : Str → Option Value} {base : Heap}
theorem ok_gcd (T : Txt K mg) : FnOk P w K mg base CX0 1 T.f_gcd T.d_gcd Ps_gcd spGcd := by
  refine T.F_gcd.ok sc_gcd (fun vs H Q E h => ?_) (fun cdv A outer s H vs Q E hr h => ?_)
  · obtain ⟨a, b, rfl, _⟩ := h; rfl
  · obtain ⟨a, b, rfl, q⟩ := h
    refine ⟨_, (pss_cons (ps_par (i := 0) (j := 1) (by rfl) sc_gcd.nd rfl rfl (by decide) rfl rfl (pa_cons (pe_callB call_abs (by rfl) T.m_abs (by decide +kernel) (pa_cons (pv 0) pa_nil)) (pa_cons (pe_callB call_abs (by rfl) T.m_abs (by decide +kernel) (pa_cons (pv 1) pa_nil)) pa_nil)) (by rfl))
      (pss_cons (ps_while PassesOwn.never (pt_cmpR op_ne (pv 1) pe_int (nomark _)) (pss_one (ps_par (i := 0) (j := 1) (by rfl) sc_gcd.nd rfl rfl (by decide) rfl rfl (pa_cons (pv 1) (pa_cons (pe_op op_mod (pv 0) (pv 1)) pa_nil)) (by rfl))))
      (pss_one (ps_ret (pv 0))))), ?_⟩
    refine ⟨.int a, rfl, a, rfl, .int b, rfl, b, rfl, _, _, rfl, ?_⟩
    refine while_by (fun σ H' => H' = H ∧ ∃ x y : Int, σ = [some (.int x), some (.int y)] ∧ 0 ≤ x ∧ 0 ≤ y ∧ Int.gcd x y = Int.gcd a b) (fun σ _ => match σ with | [_, some (.int y)] => y.toNat | _ => 0) ?_ ?_ (fun σ H Q Q' h ⟨v, e, s, k, ek, q⟩ => ⟨v, e, s, k, ek, h _ _ q⟩)
    · refine ⟨rfl, _, _, rfl, ?_, ?_, ?_⟩
      · rw [abs_nat]; omega
      · rw [abs_nat]; omega
      · rw [abs_nat, abs_nat]; unfold Int.gcd; simp only [Int.natAbs_natCast]
    · rintro σ H' ⟨rfl, x, y, rfl, hx, hy, e⟩
      refine ⟨.int y, rfl, rfl, _, rfl, brNe (fun h0 => ?_) (fun h0 => ?_)⟩
      · refine ⟨.int y, rfl, .int x, rfl, .int y, rfl, _, _, rfl, rfl, (by show 0 < y; omega), _, _, rfl, ⟨rfl, _, _, rfl, hy, ?_, ?_⟩, ?_⟩
        · exact Int.emod_nonneg _ h0
        · rw [← e]; exact gcd_step hx (by omega)
        · show (x % y).toNat < y.toNat
          have := Int.emod_lt_of_pos x (show 0 < y by omega)
          have := Int.emod_nonneg x h0
          omega
      · subst h0
        refine ⟨_, rfl, ?_⟩
        have : x = (Int.gcd a b : Int) := by rw [← e]; unfold Int.gcd; simp; omega
        show Q (.int x) _
        rw [this]; exact q
theorem ok_l_divisor (T : Txt K mg) : FnOk P w K mg base CX0 1 T.f_l_divisor T.d_l_divisor Ps_l_divisor spGcd := by
  refine T.F_l_divisor.ok sc_l_divisor (fun vs H Q E h => ?_) (fun cdv A outer s H vs Q E hr h => ?_)
  · obtain ⟨a, b, rfl, _⟩ := h; rfl
  · obtain ⟨a, b, rfl, q⟩ := h
    refine ⟨_, (pss_cons (ps_par (i := 0) (j := 1) (by rfl) sc_l_divisor.nd rfl rfl (by decide) rfl rfl (pa_cons (pe_callB call_abs (by rfl) T.m_abs (by decide +kernel) (pa_cons (pv 0) pa_nil)) (pa_cons (pe_callB call_abs (by rfl) T.m_abs (by decide +kernel) (pa_cons (pv 1) pa_nil)) pa_nil)) (by rfl))
      (pss_cons (ps_while PassesOwn.never (pt_cmpR op_ne (pv 1) pe_int (nomark _)) (pss_one (ps_par (i := 0) (j := 1) (by rfl) sc_l_divisor.nd rfl rfl (by decide) rfl rfl (pa_cons (pv 1) (pa_cons (pe_op op_mod (pv 0) (pv 1)) pa_nil)) (by rfl))))
      (pss_one (ps_ret (pv 0))))), ?_⟩
    refine ⟨.int a, rfl, a, rfl, .int b, rfl, b, rfl, _, _, rfl, ?_⟩
    refine while_by (fun σ H' => H' = H ∧ ∃ x y : Int, σ = [some (.int x), some (.int y)] ∧ 0 ≤ x ∧ 0 ≤ y ∧ Int.gcd x y = Int.gcd a b) (fun σ _ => match σ with | [_, some (.int y)] => y.toNat | _ => 0) ?_ ?_ (fun σ H Q Q' h ⟨v, e, s, k, ek, q⟩ => ⟨v, e, s, k, ek, h _ _ q⟩)
    · refine ⟨rfl, _, _, rfl, ?_, ?_, ?_⟩
      · rw [abs_nat]; omega
      · rw [abs_nat]; omega
      · rw [abs_nat, abs_nat]; unfold Int.gcd; simp only [Int.natAbs_natCast]
    · rintro σ H' ⟨rfl, x, y, rfl, hx, hy, e⟩
      refine ⟨.int y, rfl, rfl, _, rfl, brNe (fun h0 => ?_) (fun h0 => ?_)⟩
      · refine ⟨.int y, rfl, .int x, rfl, .int y, rfl, _, _, rfl, rfl, (by show 0 < y; omega), _, _, rfl, ⟨rfl, _, _, rfl, hy, ?_, ?_⟩, ?_⟩
        · exact Int.emod_nonneg _ h0
        · rw [← e]; exact gcd_step hx (by omega)
        · show (x % y).toNat < y.toNat
          have := Int.emod_lt_of_pos x (show 0 < y by omega)
          have := Int.emod_nonneg x h0
          omega
      · subst h0
        refine ⟨_, rfl, ?_⟩
        have : x = (Int.gcd a b : Int) := by rw [← e]; unfold Int.gcd; simp; omega
        show Q (.int x) _
        rw [this]; exact q
theorem ok_fraction (T : Txt K mg) : FnOk P w K mg base CX0 2 T.f_fraction T.d_fraction Ps_fraction (spRed K) := by
  refine T.F_fraction.ok sc_fraction (fun vs H Q E h => ?_) (fun cdv A outer s H vs Q E hr h => ?_)
  · obtain ⟨n, d, rfl, _⟩ := h; rfl
  · obtain ⟨n, d, rfl, hd, bn, bd, q⟩ := h
    have hg : (0 : Int) < (Int.gcd n d : Int) := by have := gcd_pos (n := n) hd; omega
    have bg : B 8000 (Int.gcd n d : Int) := bd.le (gcd_le hd)
    refine ⟨_, PSs.nox ((pss_cons (ps_if (pt_cmpR op_eq (pv 1) pe_int (nomark _)) (pss_one ps_never) pss_nil)
      (pss_cons (ps_set (i := 2) sc_fraction.nd rfl (Or.inl rfl) (pe_call (ok_gcd T) hr (by rfl) T.g_gcd T.F_gcd.kp T.b_gcd .nil pass0 (pa_cons (pv 0) (pa_cons (pv 1) pa_nil))))
      (pss_cons (ps_if (pt_cmpR op_lt (pv 1) pe_int (nomark _)) (pss_one (ps_set (i := 2) sc_fraction.nd rfl (Or.inl rfl) (pe_un un_neg (pv 2)))) pss_nil)
      (pss_one (ps_ret (pe_tup (pa_cons (pe_op op_fdivZ (pv 0) (pv 2)) (pa_cons (pe_op op_fdivZ (pv 1) (pv 2)) pa_nil))))))))), ?_⟩
    refine ⟨_, rfl, rfl, _, rfl, brEq (fun z => absurd z hd) (fun _ => ?_)⟩
    refine ⟨_, rfl, _, rfl, n, d, rfl, ?_⟩
    refine ⟨_, rfl, _, _, rfl, rfl, _, rfl, brI (fun hneg => ?_) (fun hpos => ?_)⟩
    · refine ⟨_, rfl, _, rfl, ?_⟩
      have c : CDivZ n (-(Int.gcd n d : Int)) := ⟨by omega, (bg.neg.mono (m := 9000)).log⟩
      have c2 : CDivZ d (-(Int.gcd n d : Int)) := c
      refine ⟨_, rfl, _, rfl, _, _, rfl, rfl, c, _, rfl, _, rfl, _, _, rfl, rfl, c2, sizeLine2 (by simp), fun p np => ?_⟩
      refine q _ _ (same_upd np) ⟨p, rfl, .inl (.inl ?_)⟩
      rw [upd_same]; dsimp only
      rw [fdiv_neg_exact (n := n) (by omega) (Int.gcd_dvd_left ..), fdiv_neg_exact (n := d) (by omega) (Int.gcd_dvd_right ..)]
      unfold rn rd
      rw [if_pos hneg, show (d.natAbs : Int) = -d by omega]
    · have c : CDivZ n (Int.gcd n d : Int) := ⟨by omega, (bg.mono (m := 9000)).log⟩
      have c2 : CDivZ d (Int.gcd n d : Int) := c
      refine ⟨_, rfl, _, rfl, _, _, rfl, rfl, c, _, rfl, _, rfl, _, _, rfl, rfl, c2, sizeLine2 (by simp), fun p np => ?_⟩
      refine q _ _ (same_upd np) ⟨p, rfl, .inl (.inl ?_)⟩
      rw [upd_same]; dsimp only
      rw [fdiv_exact (n := n) (by omega) (Int.gcd_dvd_left ..), fdiv_exact (n := d) (by omega) (Int.gcd_dvd_right ..)]
      unfold rn rd
      rw [if_neg hpos, show (d.natAbs : Int) = d by omega]
theorem ok_l_reduce (T : Txt K mg) : FnOk P w K mg base CX0 2 T.f_l_reduce T.d_l_reduce Ps_l_reduce (spRed K) := by
  refine T.F_l_reduce.ok sc_l_reduce (fun vs H Q E h => ?_) (fun cdv A outer s H vs Q E hr h => ?_)
  · obtain ⟨n, d, rfl, _⟩ := h; rfl
  · obtain ⟨n, d, rfl, hd, bn, bd, q⟩ := h
    have hg : (0 : Int) < (Int.gcd n d : Int) := by have := gcd_pos (n := n) hd; omega
    have bg : B 8000 (Int.gcd n d : Int) := bd.le (gcd_le hd)
    have b1 : B 1 1 := by unfold B; decide
    have b2 : B 1 (-1) := by unfold B; decide
    refine ⟨_, (pss_cons (ps_set (i := 2) sc_l_reduce.nd rfl (Or.inl rfl) (pe_call (ok_l_divisor T) hr (by rfl) T.g_l_divisor T.F_l_divisor.kp T.b_l_divisor .nil pass0 (pa_cons (pv 0) (pa_cons (pv 1) pa_nil))))
      (pss_cons (ps_set (i := 3) sc_l_reduce.nd rfl (Or.inl rfl) (pe_ifExp (pt_cmpR op_gt (pv 1) pe_int (nomark _)) pe_int (pe_un un_neg pe_int)))
      (pss_one (ps_ret (pe_tup (pa_cons (pe_op op_fdivW (pe_op op_mulW (pv 3) (pv 0)) (pv 2)) (pa_cons (pe_op op_fdivW (pe_op op_mulW (pv 3) (pv 1)) (pv 2)) pa_nil))))))), ?_⟩
    refine ⟨_, rfl, _, rfl, n, d, rfl, ?_⟩
    refine ⟨_, rfl, _, _, rfl, rfl, _, rfl, brI (fun hpos => ?_) (fun hneg => ?_)⟩
    · refine ⟨_, rfl, _, rfl, _, _, rfl, rfl, cm b1 bn, _, rfl, _, _, rfl, rfl, cdW hg bg, _, rfl, _, rfl, _, _, rfl, rfl, cm b1 bd, _, rfl, _, _, rfl, rfl, cdW hg bg, sizeLine2 (by simp), fun p np => ?_⟩
      refine q _ _ (same_upd np) ⟨p, rfl, .inl (.inl ?_)⟩
      rw [upd_same]; dsimp only
      rw [Int.one_mul, Int.one_mul]
      unfold rn rd
      rw [if_neg (by omega), show (d.natAbs : Int) = d by omega]
    · refine ⟨_, rfl, ?_⟩
      refine ⟨_, rfl, _, rfl, _, _, rfl, rfl, cm b2 bn, _, rfl, _, _, rfl, rfl, cdW hg bg, _, rfl, _, rfl, _, _, rfl, rfl, cm b2 bd, _, rfl, _, _, rfl, rfl, cdW hg bg, sizeLine2 (by simp), fun p np => ?_⟩
      refine q _ _ (same_upd np) ⟨p, rfl, .inl (.inl ?_)⟩
      rw [upd_same]; dsimp only
      rw [show (-1 : Int) * n = -n by omega, show (-1 : Int) * d = -d by omega]
      unfold rn rd
      rw [if_pos (by omega), show (d.natAbs : Int) = -d by omega]
theorem ok_subtract (T : Txt K mg) : FnOk P w K mg base CX0 3 T.f_subtract T.d_subtract Ps_subtract (spFF K fun a b c d => (rn (a * d - c * b) (b * d), rd (a * d - c * b) (b * d))) := by
  refine T.F_subtract.ok sc_subtract (fun vs H Q E h => ?_) (fun cdv A outer s H vs Q E hr h => ?_)
  · obtain ⟨x, y, _, _, _, _, rfl, _⟩ := h; rfl
  · obtain ⟨x, y, a, b, c, d, rfl, ⟨p1, rfl, h1⟩, ⟨p2, rfl, h2⟩, hb, hd, ba, bb, bc, bd, q⟩ := h
    refine ⟨_, (pss_one (ps_ret (pe_call (ok_fraction T) hr (by rfl) T.g_fraction T.F_fraction.kp T.b_fraction .nil pass0 (pa_cons (pe_op op_sub (pe_op op_mulW (pe_ix ix_tup (pv 0) pe_int (fun _ _ => rfl)) (pe_ix ix_tup (pv 1) pe_int (fun _ _ => rfl))) (pe_op op_mulW (pe_ix ix_tup (pv 1) pe_int (fun _ _ => rfl)) (pe_ix ix_tup (pv 0) pe_int (fun _ _ => rfl)))) (pa_cons (pe_op op_mulW (pe_ix ix_tup (pv 0) pe_int (fun _ _ => rfl)) (pe_ix ix_tup (pv 1) pe_int (fun _ _ => rfl))) pa_nil))))), ?_⟩
    exact ⟨_, rfl, _, _, _, _, rfl, rfl, h1, ix0, _, rfl, _, _, _, _, rfl, rfl, h2, ix1, _, _, rfl, rfl, (cm ba bd), _, rfl, _, _, _, _, rfl, rfl, h2, ix0, _, rfl, _, _, _, _, rfl, rfl, h1, ix1, _, _, rfl, rfl, (cm bc bb), _, _, rfl, rfl, _, rfl, _, _, _, _, rfl, rfl, h1, ix1, _, rfl, _, _, _, _, rfl, rfl, h2, ix1, _, _, rfl, rfl, (cm bb bd), _, _, rfl, Int.mul_ne_zero hb hd, ((ba.mul bd).sub (bc.mul bb)).mono, (bb.mul bd).mono, q⟩
theorem ok_l_subtract (T : Txt K mg) : FnOk P w K mg base CX0 3 T.f_l_subtract T.d_l_subtract Ps_l_subtract (spFF K fun a b c d => (rn (a * d - c * b) (b * d), rd (a * d - c * b) (b * d))) := by
  refine T.F_l_subtract.ok sc_l_subtract (fun vs H Q E h => ?_) (fun cdv A outer s H vs Q E hr h => ?_)
  · obtain ⟨x, y, _, _, _, _, rfl, _⟩ := h; rfl
  · obtain ⟨x, y, a, b, c, d, rfl, ⟨p1, rfl, h1⟩, ⟨p2, rfl, h2⟩, hb, hd, ba, bb, bc, bd, q⟩ := h
    refine ⟨_, (pss_one (ps_ret (pe_call (ok_l_reduce T) hr (by rfl) T.g_l_reduce T.F_l_reduce.kp T.b_l_reduce .nil pass0 (pa_cons (pe_op op_sub (pe_op op_mulW (pe_ix ix_tup (pv 0) pe_int (fun _ _ => rfl)) (pe_ix ix_tup (pv 1) pe_int (fun _ _ => rfl))) (pe_op op_mulW (pe_ix ix_tup (pv 1) pe_int (fun _ _ => rfl)) (pe_ix ix_tup (pv 0) pe_int (fun _ _ => rfl)))) (pa_cons (pe_op op_mulW (pe_ix ix_tup (pv 0) pe_int (fun _ _ => rfl)) (pe_ix ix_tup (pv 1) pe_int (fun _ _ => rfl))) pa_nil))))), ?_⟩
    exact ⟨_, rfl, _, _, _, _, rfl, rfl, h1, ix0, _, rfl, _, _, _, _, rfl, rfl, h2, ix1, _, _, rfl, rfl, (cm ba bd), _, rfl, _, _, _, _, rfl, rfl, h2, ix0, _, rfl, _, _, _, _, rfl, rfl, h1, ix1, _, _, rfl, rfl, (cm bc bb), _, _, rfl, rfl, _, rfl, _, _, _, _, rfl, rfl, h1, ix1, _, rfl, _, _, _, _, rfl, rfl, h2, ix1, _, _, rfl, rfl, (cm bb bd), _, _, rfl, Int.mul_ne_zero hb hd, ((ba.mul bd).sub (bc.mul bb)).mono, (bb.mul bd).mono, q⟩
theorem ok_multiply (T : Txt K mg) : FnOk P w K mg base CX0 3 T.f_multiply T.d_multiply Ps_multiply (spFF K fun a b c d => (rn (a * c) (b * d), rd (a * c) (b * d))) := by
  refine T.F_multiply.ok sc_multiply (fun vs H Q E h => ?_) (fun cdv A outer s H vs Q E hr h => ?_)
  · obtain ⟨x, y, _, _, _, _, rfl, _⟩ := h; rfl
  · obtain ⟨x, y, a, b, c, d, rfl, ⟨p1, rfl, h1⟩, ⟨p2, rfl, h2⟩, hb, hd, ba, bb, bc, bd, q⟩ := h
    refine ⟨_, (pss_one (ps_ret (pe_call (ok_fraction T) hr (by rfl) T.g_fraction T.F_fraction.kp T.b_fraction .nil pass0 (pa_cons (pe_op op_mulW (pe_ix ix_tup (pv 0) pe_int (fun _ _ => rfl)) (pe_ix ix_tup (pv 1) pe_int (fun _ _ => rfl))) (pa_cons (pe_op op_mulW (pe_ix ix_tup (pv 0) pe_int (fun _ _ => rfl)) (pe_ix ix_tup (pv 1) pe_int (fun _ _ => rfl))) pa_nil))))), ?_⟩
    exact ⟨_, rfl, _, _, _, _, rfl, rfl, h1, ix0, _, rfl, _, _, _, _, rfl, rfl, h2, ix0, _, _, rfl, rfl, (cm ba bc), _, rfl, _, _, _, _, rfl, rfl, h1, ix1, _, rfl, _, _, _, _, rfl, rfl, h2, ix1, _, _, rfl, rfl, (cm bb bd), _, _, rfl, Int.mul_ne_zero hb hd, (ba.mul bc).mono, (bb.mul bd).mono, q⟩
theorem ok_divide (T : Txt K mg) : FnOk P w K mg base CX0 3 T.f_divide T.d_divide Ps_divide (spFD K fun a b c d => (rn (a * d) (b * c), rd (a * d) (b * c))) := by
  refine T.F_divide.ok sc_divide (fun vs H Q E h => ?_) (fun cdv A outer s H vs Q E hr h => ?_)
  · obtain ⟨x, y, _, _, _, _, rfl, _⟩ := h; rfl
  · obtain ⟨x, y, a, b, c, d, rfl, ⟨p1, rfl, h1⟩, ⟨p2, rfl, h2⟩, hb, hc, ba, bb, bc, bd, q⟩ := h
    refine ⟨_, (pss_one (ps_ret (pe_call (ok_fraction T) hr (by rfl) T.g_fraction T.F_fraction.kp T.b_fraction .nil pass0 (pa_cons (pe_op op_mulW (pe_ix ix_tup (pv 0) pe_int (fun _ _ => rfl)) (pe_ix ix_tup (pv 1) pe_int (fun _ _ => rfl))) (pa_cons (pe_op op_mulW (pe_ix ix_tup (pv 0) pe_int (fun _ _ => rfl)) (pe_ix ix_tup (pv 1) pe_int (fun _ _ => rfl))) pa_nil))))), ?_⟩
    exact ⟨_, rfl, _, _, _, _, rfl, rfl, h1, ix0, _, rfl, _, _, _, _, rfl, rfl, h2, ix1, _, _, rfl, rfl, (cm ba bd), _, rfl, _, _, _, _, rfl, rfl, h1, ix1, _, rfl, _, _, _, _, rfl, rfl, h2, ix0, _, _, rfl, rfl, (cm bb bc), _, _, rfl, Int.mul_ne_zero hb hc, (ba.mul bd).mono, (bb.mul bc).mono, q⟩
theorem ok_l_divide (T : Txt K mg) : FnOk P w K mg base CX0 3 T.f_l_divide T.d_l_divide Ps_l_divide (spFD K fun a b c d => (rn (a * d) (b * c), rd (a * d) (b * c))) := by
  refine T.F_l_divide.ok sc_l_divide (fun vs H Q E h => ?_) (fun cdv A outer s H vs Q E hr h => ?_)
  · obtain ⟨x, y, _, _, _, _, rfl, _⟩ := h; rfl
  · obtain ⟨x, y, a, b, c, d, rfl, ⟨p1, rfl, h1⟩, ⟨p2, rfl, h2⟩, hb, hc, ba, bb, bc, bd, q⟩ := h
    refine ⟨_, (pss_one (ps_ret (pe_call (ok_l_reduce T) hr (by rfl) T.g_l_reduce T.F_l_reduce.kp T.b_l_reduce .nil pass0 (pa_cons (pe_op op_mulW (pe_ix ix_tup (pv 0) pe_int (fun _ _ => rfl)) (pe_ix ix_tup (pv 1) pe_int (fun _ _ => rfl))) (pa_cons (pe_op op_mulW (pe_ix ix_tup (pv 0) pe_int (fun _ _ => rfl)) (pe_ix ix_tup (pv 1) pe_int (fun _ _ => rfl))) pa_nil))))), ?_⟩
    exact ⟨_, rfl, _, _, _, _, rfl, rfl, h1, ix0, _, rfl, _, _, _, _, rfl, rfl, h2, ix1, _, _, rfl, rfl, (cm ba bd), _, rfl, _, _, _, _, rfl, rfl, h1, ix1, _, rfl, _, _, _, _, rfl, rfl, h2, ix0, _, _, rfl, rfl, (cm bb bc), _, _, rfl, Int.mul_ne_zero hb hc, (ba.mul bd).mono, (bb.mul bc).mono, q⟩
theorem ok_l_less (T : Txt K mg) : FnOk P w K mg base CX0 1 T.f_l_less T.d_l_less Ps_l_less (spLess K) := by
  refine T.F_l_less.ok sc_l_less (fun vs H Q E h => ?_) (fun cdv A outer s H vs Q E hr h => ?_)
  · obtain ⟨x, y, _, _, _, _, rfl, _⟩ := h; rfl
  · obtain ⟨x, y, a, b, c, d, rfl, ⟨p1, rfl, h1⟩, ⟨p2, rfl, h2⟩, ba, bb, bc, bd, q⟩ := h
    refine ⟨_, (pss_one (ps_ret (pe_cmpR op_lt (pe_op op_mulW (pe_ix ix_tup (pv 0) pe_int (fun _ _ => rfl)) (pe_ix ix_tup (pv 1) pe_int (fun _ _ => rfl))) (pe_op op_mulW (pe_ix ix_tup (pv 1) pe_int (fun _ _ => rfl)) (pe_ix ix_tup (pv 0) pe_int (fun _ _ => rfl))) (nomark _)))), ?_⟩
    exact ⟨_, rfl, _, _, _, _, rfl, rfl, h1, ix0, _, rfl, _, _, _, _, rfl, rfl, h2, ix1, _, _, rfl, rfl, (cm ba bd), _, rfl, _, _, _, _, rfl, rfl, h2, ix0, _, rfl, _, _, _, _, rfl, rfl, h1, ix1, _, _, rfl, rfl, (cm bc bb), _, _, rfl, rfl, q⟩
theorem ok_floor_of (T : Txt K mg) : FnOk P w K mg base CX0 1 T.f_floor_of T.d_floor_of Ps_floor_of (spFloor K) := by
  refine T.F_floor_of.ok sc_floor_of (fun vs H Q E h => ?_) (fun cdv A outer s H vs Q E hr h => ?_)
  · obtain ⟨x, _, _, rfl, _⟩ := h; rfl
  · obtain ⟨x, a, b, rfl, ⟨p1, rfl, h1⟩, hb, bb, q⟩ := h
    refine ⟨_, (pss_one (ps_ret (pe_op op_fdivW (pe_ix ix_tup (pv 0) pe_int (fun _ _ => rfl)) (pe_ix ix_tup (pv 0) pe_int (fun _ _ => rfl))))), ?_⟩
    exact ⟨_, rfl, _, _, _, _, rfl, rfl, h1, ix0, _, rfl, _, _, _, _, rfl, rfl, h1, ix1, _, _, rfl, rfl, cdW hb bb, q⟩
theorem ok_l_floor (T : Txt K mg) : FnOk P w K mg base CX0 1 T.f_l_floor T.d_l_floor Ps_l_floor (spFloor K) := by
  refine T.F_l_floor.ok sc_l_floor (fun vs H Q E h => ?_) (fun cdv A outer s H vs Q E hr h => ?_)
  · obtain ⟨x, _, _, rfl, _⟩ := h; rfl
  · obtain ⟨x, a, b, rfl, ⟨p1, rfl, h1⟩, hb, bb, q⟩ := h
    refine ⟨_, (pss_one (ps_ret (pe_op op_fdivW (pe_ix ix_tup (pv 0) pe_int (fun _ _ => rfl)) (pe_ix ix_tup (pv 0) pe_int (fun _ _ => rfl))))), ?_⟩
    exact ⟨_, rfl, _, _, _, _, rfl, rfl, h1, ix0, _, rfl, _, _, _, _, rfl, rfl, h1, ix1, _, _, rfl, rfl, cdW hb bb, q⟩
theorem ok_ceiling_of (T : Txt K mg) : FnOk P w K mg base CX0 1 T.f_ceiling_of T.d_ceiling_of Ps_ceiling_of (spCeil K) := by
  refine T.F_ceiling_of.ok sc_ceiling_of (fun vs H Q E h => ?_) (fun cdv A outer s H vs Q E hr h => ?_)
  · obtain ⟨x, _, _, rfl, _⟩ := h; rfl
  · obtain ⟨x, a, b, rfl, ⟨p1, rfl, h1⟩, hb, bb, q⟩ := h
    refine ⟨_, (pss_one (ps_ret (pe_un un_neg (pe_op op_fdivW (pe_un un_neg (pe_ix ix_tup (pv 0) pe_int (fun _ _ => rfl))) (pe_ix ix_tup (pv 0) pe_int (fun _ _ => rfl)))))), ?_⟩
    exact ⟨_, rfl, _, _, _, _, rfl, rfl, h1, ix0, _, rfl, _, rfl, _, _, _, _, rfl, rfl, h1, ix1, _, _, rfl, rfl, cdW hb bb, _, rfl, q⟩
theorem ok_l_times (T : Txt K mg) : FnOk P w K mg base CX0 3 T.f_l_times T.d_l_times Ps_l_times (spTimes K) := by
  refine T.F_l_times.ok sc_l_times (fun vs H Q E h => ?_) (fun cdv A outer s H vs Q E hr h => ?_)
  · obtain ⟨n, x, _, _, rfl, _⟩ := h; rfl
  · obtain ⟨n, x, a, b, rfl, ⟨p1, rfl, h1⟩, hb, bn, ba, bb, q⟩ := h
    refine ⟨_, (pss_one (ps_ret (pe_call (ok_l_reduce T) hr (by rfl) T.g_l_reduce T.F_l_reduce.kp T.b_l_reduce .nil pass0 (pa_cons (pe_op op_mulW (pv 0) (pe_ix ix_tup (pv 1) pe_int (fun _ _ => rfl))) (pa_cons (pe_ix ix_tup (pv 1) pe_int (fun _ _ => rfl)) pa_nil))))), ?_⟩
    exact ⟨_, rfl, _, rfl, _, _, _, _, rfl, rfl, h1, ix0, _, _, rfl, rfl, (cm bn ba), _, rfl, _, _, _, _, rfl, rfl, h1, ix1, _, _, rfl, hb, (bn.mul ba).mono, bb.mono, q⟩
theorem ok_common_divisor (T : Txt K mg) : FnOk P w K mg base CX0 3 T.f_common_divisor T.d_common_divisor Ps_common_divisor (spFF K fun a b c d => (rn (Int.gcd (a * d) (c * b)) (b * d), rd (Int.gcd (a * d) (c * b)) (b * d))) := by
  refine T.F_common_divisor.ok sc_common_divisor (fun vs H Q E h => ?_) (fun cdv A outer s H vs Q E hr h => ?_)
  · obtain ⟨x, y, _, _, _, _, rfl, _⟩ := h; rfl
  · obtain ⟨x, y, a, b, c, d, rfl, ⟨p1, rfl, h1⟩, ⟨p2, rfl, h2⟩, hb, hd, ba, bb, bc, bd, q⟩ := h
    refine ⟨_, (pss_one (ps_ret (pe_call (ok_fraction T) hr (by rfl) T.g_fraction T.F_fraction.kp T.b_fraction .nil pass0 (pa_cons (pe_call (ok_gcd T) (hr.mono (by decide)) (by rfl) T.g_gcd T.F_gcd.kp T.b_gcd .nil pass0 (pa_cons (pe_op op_mulW (pe_ix ix_tup (pv 0) pe_int (fun _ _ => rfl)) (pe_ix ix_tup (pv 1) pe_int (fun _ _ => rfl))) (pa_cons (pe_op op_mulW (pe_ix ix_tup (pv 1) pe_int (fun _ _ => rfl)) (pe_ix ix_tup (pv 0) pe_int (fun _ _ => rfl))) pa_nil))) (pa_cons (pe_op op_mulW (pe_ix ix_tup (pv 0) pe_int (fun _ _ => rfl)) (pe_ix ix_tup (pv 1) pe_int (fun _ _ => rfl))) pa_nil))))), ?_⟩
    have hB : B 4000 (Int.gcd (a * d) (c * b) : Int) := by
      by_cases z : c * b = 0
      · refine (ba.mul bd).le ?_
        rw [z, Int.gcd_zero_right, Int.natAbs_natCast]; exact Nat.le_refl _
      · exact (bc.mul bb).le (gcd_le z)
    exact ⟨_, rfl, _, _, _, _, rfl, rfl, h1, ix0, _, rfl, _, _, _, _, rfl, rfl, h2, ix1, _, _, rfl, rfl, (cm ba bd), _, rfl, _, _, _, _, rfl, rfl, h2, ix0, _, rfl, _, _, _, _, rfl, rfl, h1, ix1, _, _, rfl, rfl, (cm bc bb), _, _, rfl, _, rfl, _, _, _, _, rfl, rfl, h1, ix1, _, rfl, _, _, _, _, rfl, rfl, h2, ix1, _, _, rfl, rfl, (cm bb bd), _, _, rfl, Int.mul_ne_zero hb hd, hB.mono, (bb.mul bd).mono, q⟩
theorem ok_l_common (T : Txt K mg) : FnOk P w K mg base CX0 3 T.f_l_common T.d_l_common Ps_l_common (spFF K fun a b c d => (rn (Int.gcd (a * d) (c * b)) (b * d), rd (Int.gcd (a * d) (c * b)) (b * d))) := by
  refine T.F_l_common.ok sc_l_common (fun vs H Q E h => ?_) (fun cdv A outer s H vs Q E hr h => ?_)
  · obtain ⟨x, y, _, _, _, _, rfl, _⟩ := h; rfl
  · obtain ⟨x, y, a, b, c, d, rfl, ⟨p1, rfl, h1⟩, ⟨p2, rfl, h2⟩, hb, hd, ba, bb, bc, bd, q⟩ := h
    refine ⟨_, (pss_one (ps_ret (pe_call (ok_l_reduce T) hr (by rfl) T.g_l_reduce T.F_l_reduce.kp T.b_l_reduce .nil pass0 (pa_cons (pe_call (ok_l_divisor T) (hr.mono (by decide)) (by rfl) T.g_l_divisor T.F_l_divisor.kp T.b_l_divisor .nil pass0 (pa_cons (pe_op op_mulW (pe_ix ix_tup (pv 0) pe_int (fun _ _ => rfl)) (pe_ix ix_tup (pv 1) pe_int (fun _ _ => rfl))) (pa_cons (pe_op op_mulW (pe_ix ix_tup (pv 1) pe_int (fun _ _ => rfl)) (pe_ix ix_tup (pv 0) pe_int (fun _ _ => rfl))) pa_nil))) (pa_cons (pe_op op_mulW (pe_ix ix_tup (pv 0) pe_int (fun _ _ => rfl)) (pe_ix ix_tup (pv 1) pe_int (fun _ _ => rfl))) pa_nil))))), ?_⟩
    have hB : B 4000 (Int.gcd (a * d) (c * b) : Int) := by
      by_cases z : c * b = 0
      · refine (ba.mul bd).le ?_
        rw [z, Int.gcd_zero_right, Int.natAbs_natCast]; exact Nat.le_refl _
      · exact (bc.mul bb).le (gcd_le z)
    exact ⟨_, rfl, _, _, _, _, rfl, rfl, h1, ix0, _, rfl, _, _, _, _, rfl, rfl, h2, ix1, _, _, rfl, rfl, (cm ba bd), _, rfl, _, _, _, _, rfl, rfl, h2, ix0, _, rfl, _, _, _, _, rfl, rfl, h1, ix1, _, _, rfl, rfl, (cm bc bb), _, _, rfl, _, rfl, _, _, _, _, rfl, rfl, h1, ix1, _, rfl, _, _, _, _, rfl, rfl, h2, ix1, _, _, rfl, rfl, (cm bb bd), _, _, rfl, Int.mul_ne_zero hb hd, hB.mono, (bb.mul bd).mono, q⟩
theorem ok_remainder (T : Txt K mg) : FnOk P w K mg base CX0 4 T.f_remainder T.d_remainder Ps_remainder (spRem K) := by
  refine T.F_remainder.ok sc_remainder (fun vs H Q E h => ?_) (fun cdv A outer s H vs Q E hr h => ?_)
  · obtain ⟨x, y, _, _, _, _, rfl, _⟩ := h; rfl
  · obtain ⟨x, y, a, b, c, d, rfl, f1, f2, hb, hc, hd, ba, bb, bc, bd, q⟩ := h
    refine ⟨_, (pss_cons (ps_set (i := 2) sc_remainder.nd rfl (Or.inl rfl) (pe_call (ok_floor_of T) (hr.mono (by decide)) (by rfl) T.g_floor_of T.F_floor_of.kp T.b_floor_of .nil pass0 (pa_cons (pe_call (ok_divide T) hr (by rfl) T.g_divide T.F_divide.kp T.b_divide .nil pass0 (pa_cons (pv 0) (pa_cons (pv 1) pa_nil))) pa_nil)))
      (pss_one (ps_ret (pe_call (ok_subtract T) hr (by rfl) T.g_subtract T.F_subtract.kp T.b_subtract .nil pass0 (pa_cons (pv 0) (pa_cons (pe_call (ok_multiply T) hr (by rfl) T.g_multiply T.F_multiply.kp T.b_multiply .nil pass0 (pa_cons (pe_tup (pa_cons (pv 2) (pa_cons pe_int pa_nil))) (pa_cons (pv 1) pa_nil))) pa_nil)))))), ?_⟩
    refine ⟨_, rfl, _, rfl, x, y, a, b, c, d, rfl, f1, f2, by omega, by omega, ba.mono, bb.mono, bc.mono, bd.mono, fun v H1 s1 f3 => ?_⟩
    have hbc : b * c ≠ 0 := Int.mul_ne_zero (by omega) (by omega)
    have b3 : B 1000 (rd (a * d) (b * c)) := (bb.mul bc).mono.rd hbc
    have b4 : B 1000 (rn (a * d) (b * c)) := (ba.mul bd).mono.rn hbc
    refine ⟨v, _, _, rfl, f3, rd_pos hbc, b3.mono, ?_⟩
    have b5 : B 1000 (rn (a * d) (b * c) / rd (a * d) (b * c)) := b4.le (div_abs (rd_pos hbc))
    refine ⟨_, rfl, _, rfl, sizeLine2 (by simp), fun p np => ?_⟩
    have s2 := same_upd (o := HO.tup [V.int (rn (a * d) (b * c) / rd (a * d) (b * c)), V.int 1]) np
    refine ⟨_, rfl, _, _, _, _, c, d, rfl, ⟨p, rfl, .inl (.inl upd_same)⟩, (f2.same s1).same s2, by omega, by omega, b5.mono, B.one.mono, bc.mono, bd.mono, fun v2 H2 s3 f4 => ?_⟩
    have h1d : 1 * d ≠ 0 := by omega
    have b6 := (b5.mul bc).rn h1d
    have b7 : B 1000 (rd (rn (a * d) (b * c) / rd (a * d) (b * c) * c) (1 * d)) := (show B 1000 (1 * d) by rw [Int.one_mul]; exact bd.mono).rd h1d
    refine ⟨_, _, a, b, _, _, rfl, ((f1.same s1).same s2).same s3, f4, by omega, Int.ne_of_gt (rd_pos h1d), ba.mono, bb.mono, b6.mono, b7.mono, fun v3 H3 s4 f5 => ?_⟩
    simp only [Int.one_mul] at f5
    exact q v3 H3 (((s1.trans s2).trans s3).trans s4) f5
theorem ok_l_rest (T : Txt K mg) : FnOk P w K mg base CX0 4 T.f_l_rest T.d_l_rest Ps_l_rest (spRem K) := by
  refine T.F_l_rest.ok sc_l_rest (fun vs H Q E h => ?_) (fun cdv A outer s H vs Q E hr h => ?_)
  · obtain ⟨x, y, _, _, _, _, rfl, _⟩ := h; rfl
  · obtain ⟨x, y, a, b, c, d, rfl, f1, f2, hb, hc, hd, ba, bb, bc, bd, q⟩ := h
    refine ⟨_, (pss_one (ps_ret (pe_call (ok_l_subtract T) hr (by rfl) T.g_l_subtract T.F_l_subtract.kp T.b_l_subtract .nil pass0 (pa_cons (pv 0) (pa_cons (pe_call (ok_l_times T) hr (by rfl) T.g_l_times T.F_l_times.kp T.b_l_times .nil pass0 (pa_cons (pe_call (ok_l_floor T) (hr.mono (by decide)) (by rfl) T.g_l_floor T.F_l_floor.kp T.b_l_floor .nil pass0 (pa_cons (pe_call (ok_l_divide T) hr (by rfl) T.g_l_divide T.F_l_divide.kp T.b_l_divide .nil pass0 (pa_cons (pv 0) (pa_cons (pv 1) pa_nil))) pa_nil)) (pa_cons (pv 1) pa_nil))) pa_nil))))), ?_⟩
    refine ⟨_, rfl, _, rfl, _, rfl, x, y, a, b, c, d, rfl, f1, f2, by omega, by omega, ba.mono, bb.mono, bc.mono, bd.mono, fun v H1 s1 f3 => ?_⟩
    have hbc : b * c ≠ 0 := Int.mul_ne_zero (by omega) (by omega)
    have b3 : B 1000 (rd (a * d) (b * c)) := (bb.mul bc).mono.rd hbc
    have b4 : B 1000 (rn (a * d) (b * c)) := (ba.mul bd).mono.rn hbc
    refine ⟨v, _, _, rfl, f3, rd_pos hbc, b3.mono, ?_⟩
    have b5 : B 1000 (rn (a * d) (b * c) / rd (a * d) (b * c)) := b4.le (div_abs (rd_pos hbc))
    refine ⟨_, rfl, _, _, c, d, rfl, f2.same s1, by omega, b5.mono, bc.mono, bd.mono, fun v2 H2 s3 f4 => ?_⟩
    have h1d : d ≠ 0 := by omega
    have b6 := (b5.mul bc).rn h1d
    have b7 : B 1000 (rd (rn (a * d) (b * c) / rd (a * d) (b * c) * c) d) := (show B 1000 d from bd.mono).rd h1d
    exact ⟨_, _, a, b, _, _, rfl, (f1.same s1).same s3, f4, by omega, Int.ne_of_gt (rd_pos h1d), ba.mono, bb.mono, b6.mono, b7.mono, fun v3 H3 s4 f5 => q v3 H3 ((s1.trans s3).trans s4) f5⟩
end
end EP
namespace EP
open PySem PySem.Spec PyProof.Rows L2
section
variable {P : Program} {w : World} {K : PySem.W.Frag} {mg : Str → Option Value} {base : Heap}
theorem ok_l_source (T : Txt K mg) : FnOk P w K mg base CX0 1 T.f_l_source T.d_l_source Ps_l_source (spSource K) := by
  refine T.F_l_source.ok sc_l_source (fun vs H Q E h => ?_) (fun cdv A outer s H vs Q E hr h => ?_)
  · obtain ⟨a, ns, rfl, _⟩ := h; rfl
  · obtain ⟨a, ns, rfl, hS, hlen, q⟩ := h
    refine ⟨_, (pss_cons (ps_set (i := 1) sc_l_source.nd rfl (Or.inl rfl) (pe_op op_add pe_int (pe_op op_mulW pe_int (pe_callB call_len_seq (by rfl) T.m_len PySem.boot_len (pa_cons (pe_slice sl_list (pv 0) po_none (po_some pe_int)) pa_nil)))))
      (pss_cons (ps_for PassesOwn.never rfl (pi_list (pe_slice sl_list (pv 0) po_none (po_some pe_int))) (pg_name (i := 2) sc_l_source.nd rfl (Or.inl rfl)) (pss_one (ps_set (i := 1) sc_l_source.nd rfl (Or.inl rfl) (pe_op op_mod (pe_op op_add (pe_op op_add (pe_op op_mulW (pv 1) pe_int) (pe_op op_mod (pv 2) pe_int)) pe_int) pe_int))))
      (pss_one (ps_ret (pe_lst (pa_cons (pe_callTy call_list_of (by rfl) T.m_list (by decide +kernel) (pa_cons (pe_slice sl_list (pv 0) po_none (po_some pe_int)) pa_nil)) (pa_cons pe_int (pa_cons pe_int (pa_cons (pv 1) pa_nil))))))))), ?_⟩
    have bc : B 7 59 := by unfold B; decide
    have bm : B 32 48271 := by unfold B; decide
    have ecut : cutV (ns.map V.int) none (some 63) = ns.map V.int := by
      unfold cutV
      rw [HT.sIx_none, show HT.sIx (ns.map V.int).length (ns.map V.int).length (some 63) = min 63 (ns.map V.int).length from HT.sIx_nat _ _ 63, List.drop_zero, List.length_map, List.take_of_length_le]
      rw [List.length_map]; omega
    refine ⟨.ref a, rfl, 63, rfl, a, _, rfl, hS, fun c nc => ?_⟩
    rw [ecut]
    have s1 := same_upd (o := HO.lst (ns.map V.int)) nc
    refine ⟨c, _, rfl, .inl (.inl (.inl upd_same)), _, _, rfl, rfl, ?_, _, _, rfl, rfl, ?_⟩
    · rw [List.length_map]; exact cm (n := 7) (m := 7) bc (show (ns.length : Int).natAbs < 2 ^ 7 by omega)
    refine ⟨.ref a, rfl, 63, rfl, a, _, rfl, Evl.ex_l s1 hS, fun c2 nc2 => ?_⟩
    rw [ecut]
    have s2 := same_upd (o := HO.lst (ns.map V.int)) nc2
    refine ⟨c2, rfl, ⟨_, .inl (.inl upd_same)⟩, ?_⟩
    refine for_list (K := K) (xs := ns.map V.int) (fun i σ H' => Same H H' ∧ (H' c2 = some (.lst (ns.map V.int))) ∧ ∃ (sd : Int) (z : Option V), σ = [some (.ref a), some (.int sd), z] ∧ 0 ≤ sd ∧ sd < 2147483563) ?_ ?_ ?_ ?_
    · refine ⟨s1.trans s2, upd_same, _, none, rfl, ?_, ?_⟩
      · rw [List.length_map]; omega
      · rw [List.length_map]; omega
    · rintro i σ H' _ ⟨_, h, _⟩; exact .inl (.inl h)
    · rintro i x σ H' hx ⟨sH, hc2, sd, z, rfl, h0, h1⟩
      obtain ⟨n, hn, rfl⟩ : ∃ n, ns[i]? = some n ∧ V.int n = x := by
        rw [List.getElem?_map] at hx
        cases e : ns[i]? with
        | none => rw [e] at hx; cases hx
        | some n => rw [e] at hx; exact ⟨n, rfl, Option.some.inj hx⟩
      have bs : B 31 sd := by unfold B; omega
      refine ⟨_, rfl, _, _, rfl, rfl, cm bs bm, _, rfl, _, _, rfl, rfl, (by decide : (0:Int) < 2147483563), _, _, rfl, rfl, _, _, rfl, rfl, _, _, rfl, rfl, (by decide : (0:Int) < 2147483563), sH, hc2, _, _, rfl, ?_, ?_⟩
      · exact Int.emod_nonneg _ (by decide)
      · exact Int.emod_lt_of_pos _ (by decide)
    · rintro σ H' ⟨sH, hc2, sd, z, rfl, h0, h1⟩
      refine ⟨.ref a, rfl, 63, rfl, a, _, rfl, Evl.ex_l sH hS, fun c3 nc3 => ?_⟩
      rw [ecut]
      have s3 := same_upd (o := HO.lst (ns.map V.int)) nc3
      refine ⟨c3, _, rfl, .inl (.inl (.inl upd_same)), fun L nL => ?_⟩
      have s4 := same_upd (o := HO.lst (ns.map V.int)) nL
      refine ⟨_, rfl, sizeLine2 (by simp), fun r nr => ?_⟩
      have s5 := same_upd (o := HO.lst [.ref L, .int 0, .int 0, .int sd]) nr
      refine q r _ (((sH.trans s3).trans s4).trans s5) ⟨L, ns, 0, 0, sd, upd_same, ?_, ?_, by omega, by omega, by omega, h0, h1⟩
      · exact s5 _ _ upd_same
      · intro e; subst e; rw [upd_same] at nr; cases nr
theorem ok_l_draw (T : Txt K mg) : FnOk P w K mg base CX0 1 T.f_l_draw T.d_l_draw Ps_l_draw spDraw := by
  refine T.F_l_draw.ok sc_l_draw (fun vs H Q E h => ?_) (fun cdv A outer s H vs Q E hr h => ?_)
  · obtain ⟨a, m, rfl, _⟩ := h; rfl
  · obtain ⟨r, m, rfl, hm, bm, h0R, q⟩ := h
    obtain ⟨L, ns, i, c, sd, hr0, hL, nL, hi, hl, hc, hs0, hs1⟩ := id h0R
    have hrH := hr0
    refine ⟨_, (pss_cons (ps_if (PW.pt (pw_and (pt_cmpR op_eq (pe_ix ix_list (pv 0) pe_int (fun _ _ => rfl)) pe_int (nomark _)) (pw_and1 (pt_cmpR op_lt (pe_ix ix_list (pv 0) pe_int (fun _ _ => rfl)) (pe_callB call_len_seq (by rfl) T.m_len PySem.boot_len (pa_cons (pe_ix ix_list (pv 0) pe_int (fun _ _ => rfl)) pa_nil)) (nomark _))))) (pss_cons (ps_set (i := 2) sc_l_draw.nd rfl (Or.inl rfl) (pe_ix ix_list (pe_ix ix_list (pv 0) pe_int (fun _ _ => rfl)) (pe_ix ix_list (pv 0) pe_int (fun _ _ => rfl)) (fun _ _ => rfl)))
      (pss_cons (ps_asg (pe_op op_add (pe_ix ix_list (pv 0) pe_int (fun _ _ => rfl)) pe_int) (pg_sub (pv 0) pe_int set_list))
      (pss_one (ps_if (pt_cmpR op_ge (pv 2) (pe_op op_pow pe_int pe_int) (nomark _)) (pss_one (ps_asg (pv 2) (pg_sub (pv 0) pe_int set_list))) (pss_one (ps_asg (pe_op op_mod (pe_op op_add (pe_op op_add (pe_op op_mulW (pe_ix ix_list (pv 0) pe_int (fun _ _ => rfl)) pe_int) (pe_op op_mulW (pe_op op_mod (pv 2) pe_int) pe_int)) (pe_ix ix_list (pv 0) pe_int (fun _ _ => rfl))) pe_int) (pg_sub (pv 0) pe_int set_list))))))) pss_nil)
      (pss_cons (ps_if (pt_cmpR op_gt (pe_ix ix_list (pv 0) pe_int (fun _ _ => rfl)) pe_int (nomark _)) (pss_cons (ps_set (i := 3) sc_l_draw.nd rfl (Or.inl rfl) (pe_op op_mod (pe_ix ix_list (pv 0) pe_int (fun _ _ => rfl)) (pv 1)))
      (pss_cons (ps_asg (pe_op op_fdivW (pe_ix ix_list (pv 0) pe_int (fun _ _ => rfl)) (pv 1)) (pg_sub (pv 0) pe_int set_list))
      (pss_one (ps_ret (pv 3))))) pss_nil)
      (pss_cons (ps_set (i := 4) sc_l_draw.nd rfl (Or.inl rfl) (pe_ix ix_list (pv 0) pe_int (fun _ _ => rfl)))
      (pss_cons (ps_asg (pe_op op_mod (pe_op op_add (pe_op op_add (pe_op op_mulW (pv 4) (pv 4)) (pe_op op_mulW (pv 4) pe_int)) pe_int) pe_int) (pg_sub (pv 0) pe_int set_list))
      (pss_one (ps_ret (pe_op op_mod (pe_op op_add (pe_op op_fdivW (pe_ix ix_list (pv 0) pe_int (fun _ _ => rfl)) pe_int) (pe_op op_mulW (pe_op op_mod (pe_ix ix_list (pv 0) pe_int (fun _ _ => rfl)) pe_int) pe_int)) (pv 1)))))))), ?_⟩
    refine seq_by (fun σ H' => ∃ (i c sd : Int) (z1 : Option V), σ = [some (.ref r), some (.int m), z1, none, none] ∧ Gw r H H' ∧ H' r = some (.lst [.ref L, .int i, .int c, .int sd]) ∧ H' L = some (.lst (ns.map V.int)) ∧ 0 ≤ i ∧ 0 ≤ c ∧ 0 ≤ sd ∧ sd < 2147483563) ?_ (fun fin => ?_)
    · rintro σ H' ⟨i, c, sd, z1, rfl, g, hr0, hL, hi, hc, hs0, hs1⟩
      have hR : SqL K H' r [.ref L, .int i, .int c, .int sd] := .inl (.inl hr0)
      have mo : ∀ (c' sd' : Int), 0 ≤ c' → 0 ≤ sd' → sd' < 2147483563 → Mo r H (upd H' r (.lst [.ref L, .int i, .int c', .int sd'])) := fun c' sd' h1 h2 h3 =>
        ⟨fun a o n e => by rw [upd_ne n]; exact g a o n e, h0R, fun L' hL' => by
          obtain ⟨_, _, _, _, e1, _⟩ := hL'
          rw [hrH] at e1; cases e1
          exact ⟨ns, i, c', sd', upd_same, by rw [upd_ne nL]; exact hL, nL, hi, hl, h1, h2, h3⟩⟩
      refine ⟨_, rfl, _, _, _, _, rfl, rfl, hR, ix2, _, _, rfl, rfl, _, rfl, brI (fun hp => ?_) (fun hp => ?_)⟩
      · refine ⟨_, rfl, _, _, _, _, rfl, rfl, hR, ix2, _, rfl, _, _, rfl, rfl, hm, ?_⟩
        refine ⟨_, rfl, _, _, _, _, rfl, rfl, hR, ix2, _, rfl, _, _, rfl, rfl, cdW hm bm, _, rfl, r, _, _, 2, rfl, rfl, hr0, rfl, ?_⟩
        refine ⟨_, rfl, ?_⟩
        refine q _ _ (Int.emod_nonneg _ (by omega)) (Int.emod_lt_of_pos _ hm) ?_
        exact mo _ _ (Int.ediv_nonneg hc (by omega)) hs0 hs1
      · refine ⟨_, rfl, _, _, _, _, rfl, rfl, hR, ix3, ?_⟩
        have bs : B 31 sd := by unfold B; omega
        have b4 : B 20 40123 := by unfold B; decide
        have h1 := Int.emod_nonneg (sd * sd + sd * 40123 + 70001) (show (2147483563 : Int) ≠ 0 by decide)
        have h2 := Int.emod_lt_of_pos (sd * sd + sd * 40123 + 70001) (show (0 : Int) < 2147483563 by decide)
        refine ⟨_, rfl, _, rfl, _, _, rfl, rfl, cm bs bs, _, rfl, _, _, rfl, rfl, cm bs b4, _, _, rfl, rfl, _, _, rfl, rfl, _, _, rfl, rfl, (by decide : (0 : Int) < 2147483563), _, rfl, r, _, _, 3, rfl, rfl, hr0, rfl, ?_⟩
        have hR2 : SqL K (upd H' r (.lst [.ref L, .int i, .int c, .int ((sd * sd + sd * 40123 + 70001) % 2147483563)])) r [.ref L, .int i, .int c, .int ((sd * sd + sd * 40123 + 70001) % 2147483563)] := .inl (.inl upd_same)
        have b5 : B 7 59 := by unfold B; decide
        have b6 : ∀ e : Int, B 13 (e % 8111) := fun e => by unfold B; have := Int.emod_nonneg e (show (8111 : Int) ≠ 0 by decide); have := Int.emod_lt_of_pos e (show (0 : Int) < 8111 by decide); omega
        have b7 : B 8 229 := by unfold B; decide
        refine ⟨_, rfl, _, _, _, _, rfl, rfl, hR2, ix3, _, _, rfl, rfl, cdW (by decide) b5, _, rfl, _, _, _, _, rfl, rfl, hR2, ix3, _, _, rfl, rfl, (by decide : (0 : Int) < 8111), _, _, rfl, rfl, cm (b6 _) b7, _, _, rfl, rfl, _, rfl, _, _, rfl, rfl, hm, ?_⟩
        exact q _ _ (Int.emod_nonneg _ (by omega)) (Int.emod_lt_of_pos _ hm) (mo _ _ hc h1 h2)
    · have hR : SqL K H r [.ref L, .int i, .int c, .int sd] := .inl (.inl hr0)
      have hLL : SqL K H L (ns.map V.int) := .inl (.inl hL)
      refine ⟨_, rfl, _, _, _, _, rfl, rfl, hR, ix2, rfl, _, rfl, brEq (fun hc0 => ?_) (fun hc0 => ?_)⟩
      · refine ⟨_, rfl, _, _, _, _, rfl, rfl, hR, ix1, _, rfl, _, _, _, _, rfl, rfl, hR, ix0, L, _, rfl, .inl hLL, _, _, rfl, rfl, _, rfl, brI (fun hlt => ?_) (fun hlt => ?_)⟩
        · rw [List.length_map] at hlt
          obtain ⟨k, rfl⟩ := Int.eq_ofNat_of_zero_le hi
          have hk : k < ns.length := by omega
          refine ⟨_, rfl, _, _, _, _, rfl, rfl, hR, ix0, _, rfl, _, _, _, _, rfl, rfl, hR, ix1, L, _, _, .int ns[k], rfl, rfl, hLL, atI_nat (by rw [List.getElem?_map, List.getElem?_eq_getElem hk]; rfl), ?_⟩
          refine ⟨_, rfl, _, _, _, _, rfl, rfl, hR, ix1, _, _, rfl, rfl, _, rfl, r, _, _, 1, rfl, rfl, hr0, rfl, ?_⟩
          have hR2 : SqL K (upd H r (.lst [.ref L, .int (k + 1), .int c, .int sd])) r [.ref L, .int (k + 1), .int c, .int sd] := .inl (.inl upd_same)
          refine ⟨_, rfl, _, _, rfl, rfl, (⟨by decide, by decide, by decide⟩ : CPow 10 18), _, _, rfl, rfl, _, rfl, brI (fun hbig => ?_) (fun hbig => ?_)⟩
          · refine ⟨_, rfl, _, rfl, r, _, _, 2, rfl, rfl, upd_same, rfl, ?_⟩
            refine fin _ _ ⟨k + 1, ns[k], sd, _, rfl, fun a o n e => ?_, ?_, ?_, by omega, ?_, hs0, hs1⟩
            · rw [upd_ne n, upd_ne n]; exact e
            · rw [upd_same]; rfl
            · rw [upd_ne nL, upd_ne nL]; exact hL
            · have : (10 : Int) ^ (18 : Int).toNat ≤ ns[k] := hbig
              have h10 : (0 : Int) ≤ 10 ^ (18 : Int).toNat := by decide
              omega
          · have bs : B 31 sd := by unfold B; omega
            have b4 : B 20 40692 := by unfold B; decide
            have b6 : B 32 (ns[k] % 2147483563) := by unfold B; have := Int.emod_nonneg ns[k] (show (2147483563 : Int) ≠ 0 by decide); have := Int.emod_lt_of_pos ns[k] (show (0 : Int) < 2147483563 by decide); omega
            have b7 : B 8 67 := by unfold B; decide
            refine ⟨_, rfl, _, _, _, _, rfl, rfl, hR2, ix3, _, _, rfl, rfl, cm bs b4, _, rfl, _, _, rfl, rfl, (by decide : (0 : Int) < 2147483563), _, _, rfl, rfl, cm b6 b7, _, _, rfl, rfl, _, rfl, _, _, _, _, rfl, rfl, hR2, ix1, _, _, rfl, rfl, _, _, rfl, rfl, (by decide : (0 : Int) < 2147483563), _, rfl, r, _, _, 3, rfl, rfl, upd_same, rfl, ?_⟩
            refine fin _ _ ⟨k + 1, c, (sd * 40692 + ns[k] % 2147483563 * 67 + (k + 1)) % 2147483563, _, rfl, fun a o n e => ?_, ?_, ?_, by omega, hc, Int.emod_nonneg _ (by decide), Int.emod_lt_of_pos _ (by decide)⟩
            · rw [upd_ne n, upd_ne n]; exact e
            · rw [upd_same]; rfl
            · rw [upd_ne nL, upd_ne nL]; exact hL
        · exact fin _ _ ⟨i, c, sd, _, rfl, fun a o n e => e, hr0, hL, hi, hc, hs0, hs1⟩
      · exact fin _ _ ⟨i, c, sd, _, rfl, fun a o n e => e, hr0, hL, hi, hc, hs0, hs1⟩
theorem ok_l_choice (T : Txt K mg) : FnOk P w K mg base CX0 2 T.f_l_choice T.d_l_choice Ps_l_choice (spChoice K) := by
  refine T.F_l_choice.ok sc_l_choice (fun vs H Q E h => ?_) (fun cdv A outer s H vs Q E hr h => ?_)
  · obtain ⟨a, l, xs, rfl, _⟩ := h; rfl
  · obtain ⟨r, l, xs, rfl, hx, hlr, h0, hl, hR, q⟩ := h
    refine ⟨_, (pss_one (ps_ret (pe_ix ix_list (pv 1) (pe_call (ok_l_draw T) hr (by rfl) T.g_l_draw T.F_l_draw.kp T.b_l_draw .nil pass0 (pa_cons (pv 0) (pa_cons (pe_callB call_len_seq (by rfl) T.m_len PySem.boot_len (pa_cons (pv 1) pa_nil)) pa_nil))) (fun _ _ => rfl)))), ?_⟩
    refine ⟨_, rfl, _, rfl, _, rfl, l, xs, rfl, .inl hx, r, _, rfl, by omega, ?_, hR, fun x H' x0 x1 mo => ?_⟩
    · show B 2000 (xs.length : Int)
      exact B.mono (n := 20) (show (xs.length : Int).natAbs < 2 ^ 20 by omega)
    · obtain ⟨j, rfl⟩ := Int.eq_ofNat_of_zero_le x0
      have hj : j < xs.length := by omega
      exact ⟨l, xs, _, xs[j], rfl, rfl, sql_mo mo hlr hx, atI_nat (List.getElem?_eq_getElem hj), q _ _ (List.getElem_mem hj) mo⟩
theorem ok_l_equal (T : Txt K mg) : ∀ n : Nat, FnOk P w K mg base CX0 (n + 1) T.f_l_equal T.d_l_equal Ps_l_equal (spEqual K n) := by
  intro n
  induction n with
  | zero =>
    refine T.F_l_equal.ok sc_l_equal (fun vs H Q E h => ?_) (fun cdv A outer s H vs Q E hr h => ?_)
    · obtain ⟨x, y, d, rfl, _⟩ := h; rfl
    · obtain ⟨x, y, d, rfl, h1, h2, hd, hw, q⟩ := h
      exact absurd hd (Nat.not_lt_zero _)
  | succ n IH =>
    refine T.F_l_equal.ok sc_l_equal (fun vs H Q E h => ?_) (fun cdv A outer s H vs Q E hr h => ?_)
    · obtain ⟨x, y, d, rfl, _⟩ := h; rfl
    · obtain ⟨x, y, d, rfl, h1, h2, hd, hw, q⟩ := h
      refine ⟨_, (pss_cons (ps_if (pt_cmpR op_isN (pv 1) pe_non (nomark _)) (pss_one (ps_ret (pe_cmpR op_isN (pv 0) pe_non (nomark _)))) pss_nil)
      (pss_cons (ps_if (PW.pt (pw_or (pt_val (pe_callB call_isi (by rfl) T.m_isinstance (by decide +kernel) (pa_cons (pv 1) (pa_cons (pe_bltn (v := .ty "list") (u := .type "list") (by rfl) T.m_list (by decide +kernel) rfl) pa_nil)))) (pw_or1 (pt_val (pe_callB call_isi (by rfl) T.m_isinstance (by decide +kernel) (pa_cons (pv 1) (pa_cons (pe_bltn (v := .ty "tuple") (u := .type "tuple") (by rfl) T.m_tuple (by decide +kernel) rfl) pa_nil))))))) (pss_cons (ps_if (PW.pt (pw_or (pt_cmpR op_ne (pe_callB call_isi (by rfl) T.m_isinstance (by decide +kernel) (pa_cons (pv 0) (pa_cons (pe_bltn (v := .ty "list") (u := .type "list") (by rfl) T.m_list (by decide +kernel) rfl) pa_nil))) (pe_callB call_isi (by rfl) T.m_isinstance (by decide +kernel) (pa_cons (pv 1) (pa_cons (pe_bltn (v := .ty "list") (u := .type "list") (by rfl) T.m_list (by decide +kernel) rfl) pa_nil))) (nomark _)) (pw_or1 (pt_cmpR op_ne (pe_callB call_isi (by rfl) T.m_isinstance (by decide +kernel) (pa_cons (pv 0) (pa_cons (pe_bltn (v := .ty "tuple") (u := .type "tuple") (by rfl) T.m_tuple (by decide +kernel) rfl) pa_nil))) (pe_callB call_isi (by rfl) T.m_isinstance (by decide +kernel) (pa_cons (pv 1) (pa_cons (pe_bltn (v := .ty "tuple") (u := .type "tuple") (by rfl) T.m_tuple (by decide +kernel) rfl) pa_nil))) (nomark _))))) (pss_one (ps_ret pe_bl)) pss_nil)
      (pss_one (ps_ret (pe_and (pe_cmpR op_eq (pe_callB call_len_seq (by rfl) T.m_len PySem.boot_len (pa_cons (pv 0) pa_nil)) (pe_callB call_len_seq (by rfl) T.m_len PySem.boot_len (pa_cons (pv 1) pa_nil)) (nomark _)) (pe_one (pe_callB (cr_all rfl) (by rfl) T.m_all (by decide +kernel) (pa_cons (pe_lc (own := [("_law_a", 2), ("_law_b", 3)]) (g := (gTup K 2 (gCons (gName 2) (gCons (gName 3) gNil)))) (tt := tYes) rfl sc_l_equal.nd (RZ.pi_zipA (by rfl) T.m_zip (pa_cons (pv 0) (pa_cons (pv 1) pa_nil))) (blkOk_by (N := N_l_equal) (sc := defScope s_l_equal) (by decide +kernel)) (fun _ _ _ _ _ => (pg_tup rfl (pgs_cons (pg_name (i := 2) sc_l_equal.nd rfl (Or.inl rfl)) (pgs_cons (pg_name (i := 3) sc_l_equal.nd rfl (Or.inl rfl)) pgs_nil)))) (fun _ _ _ _ _ => pts_nil) (fun _ _ _ _ _ => (pe_call IH hr (by rfl) T.g_l_equal T.F_l_equal.kp T.b_l_equal .nil pass0 (pa_cons (pv 2) (pa_cons (pv 3) pa_nil))))) pa_nil))))))) pss_nil)
      (pss_cons (ps_if (PW.pt (pw_or (pt_cmpR op_ne (pe_callB call_isi (by rfl) T.m_isinstance (by decide +kernel) (pa_cons (pv 1) (pa_cons (pe_bltn (v := .ty "bool") (u := .type "bool") (by rfl) T.m_bool (by decide +kernel) rfl) pa_nil))) (pe_callB call_isi (by rfl) T.m_isinstance (by decide +kernel) (pa_cons (pv 0) (pa_cons (pe_bltn (v := .ty "bool") (u := .type "bool") (by rfl) T.m_bool (by decide +kernel) rfl) pa_nil))) (nomark _)) (pw_or1 (pt_cmpR op_ne (pe_callB call_isi (by rfl) T.m_isinstance (by decide +kernel) (pa_cons (pv 1) (pa_cons (pe_bltn (v := .ty "int") (u := .type "int") (by rfl) T.m_int (by decide +kernel) rfl) pa_nil))) (pe_callB call_isi (by rfl) T.m_isinstance (by decide +kernel) (pa_cons (pv 0) (pa_cons (pe_bltn (v := .ty "int") (u := .type "int") (by rfl) T.m_int (by decide +kernel) rfl) pa_nil))) (nomark _))))) (pss_one (ps_ret pe_bl)) pss_nil)
      (pss_one (ps_ret (pe_and (pe_cmpR op_eq (pe_callB call_isi (by rfl) T.m_isinstance (by decide +kernel) (pa_cons (pv 0) (pa_cons (pe_bltn (v := .ty "str") (u := .type "str") (by rfl) T.m_str (by decide +kernel) rfl) pa_nil))) (pe_callB call_isi (by rfl) T.m_isinstance (by decide +kernel) (pa_cons (pv 1) (pa_cons (pe_bltn (v := .ty "str") (u := .type "str") (by rfl) T.m_str (by decide +kernel) rfl) pa_nil))) (nomark _)) (pe_one (pe_cmpR op_eq (pv 0) (pv 1) (nomark _))))))))), ?_⟩
      cases d with
      | none =>
        cases h1; cases h2
        refine ⟨_, rfl, rfl, _, rfl, iteT ?_⟩
        exact ⟨_, rfl, rfl, q _ (Same.refl _)⟩
      | bool b =>
        cases h1; cases h2
        have ty : TyX K H (.bl b) (.type "bool") := .base (.bl b)
        refine ⟨_, rfl, rfl, _, rfl, iteF ?_⟩
        refine ⟨_, rfl, _, _, _, _, _, rfl, .ty _, ty, kt_bool_list, _, rfl, iteF ⟨_, rfl, _, _, _, _, _, rfl, .ty _, ty, kt_bool_tuple, _, rfl, iteF ?_⟩⟩
        refine ⟨_, rfl, _, _, _, _, _, rfl, .ty _, ty, kt_bool_bool, _, rfl, _, _, _, _, _, rfl, .ty _, ty, kt_bool_bool, rfl, _, rfl, iteF ⟨_, rfl, _, _, _, _, _, rfl, .ty _, ty, kt_bool_int, _, rfl, _, _, _, _, _, rfl, .ty _, ty, kt_bool_int, rfl, _, rfl, iteF ?_⟩⟩
        refine ⟨_, rfl, _, _, _, _, _, rfl, .ty _, ty, kt_bool_str, _, rfl, _, _, _, _, _, rfl, .ty _, ty, kt_bool_str, rfl, _, rfl, iteT ?_⟩
        refine ⟨_, rfl, _, rfl, rfl, ?_⟩
        rw [decide_eq_true rfl]; exact q _ (Same.refl _)
      | int b =>
        cases h1; cases h2
        have ty : TyX K H (.int b) (.type "int") := .base (.int b)
        refine ⟨_, rfl, rfl, _, rfl, iteF ?_⟩
        refine ⟨_, rfl, _, _, _, _, _, rfl, .ty _, ty, kt_int_list, _, rfl, iteF ⟨_, rfl, _, _, _, _, _, rfl, .ty _, ty, kt_int_tuple, _, rfl, iteF ?_⟩⟩
        refine ⟨_, rfl, _, _, _, _, _, rfl, .ty _, ty, kt_int_bool, _, rfl, _, _, _, _, _, rfl, .ty _, ty, kt_int_bool, rfl, _, rfl, iteF ⟨_, rfl, _, _, _, _, _, rfl, .ty _, ty, kt_int_int, _, rfl, _, _, _, _, _, rfl, .ty _, ty, kt_int_int, rfl, _, rfl, iteF ?_⟩⟩
        refine ⟨_, rfl, _, _, _, _, _, rfl, .ty _, ty, kt_int_str, _, rfl, _, _, _, _, _, rfl, .ty _, ty, kt_int_str, rfl, _, rfl, iteT ?_⟩
        refine ⟨_, rfl, _, rfl, rfl, ?_⟩
        rw [decide_eq_true rfl]; exact q _ (Same.refl _)
      | str b =>
        cases h1; cases h2
        have ty : TyX K H (.str b) (.type "str") := .base (.str b)
        refine ⟨_, rfl, rfl, _, rfl, iteF ?_⟩
        refine ⟨_, rfl, _, _, _, _, _, rfl, .ty _, ty, kt_str_list, _, rfl, iteF ⟨_, rfl, _, _, _, _, _, rfl, .ty _, ty, kt_str_tuple, _, rfl, iteF ?_⟩⟩
        refine ⟨_, rfl, _, _, _, _, _, rfl, .ty _, ty, kt_str_bool, _, rfl, _, _, _, _, _, rfl, .ty _, ty, kt_str_bool, rfl, _, rfl, iteF ⟨_, rfl, _, _, _, _, _, rfl, .ty _, ty, kt_str_int, _, rfl, _, _, _, _, _, rfl, .ty _, ty, kt_str_int, rfl, _, rfl, iteF ?_⟩⟩
        refine ⟨_, rfl, _, _, _, _, _, rfl, .ty _, ty, kt_str_str, _, rfl, _, _, _, _, _, rfl, .ty _, ty, kt_str_str, rfl, _, rfl, iteT ?_⟩
        refine ⟨_, rfl, _, rfl, rfl, ?_⟩
        rw [decide_eq_true rfl]; exact q _ (Same.refl _)
      | dict b => cases h1
      | list ds =>
        cases h1 with
        | @lst p xs _ hs ha =>
        cases h2 with
        | @lst p2 ys _ hs2 ha2 =>
        have ty : TyX K H (.ref p) (.type "list") := ty_list hs
        have ty2 : TyX K H (.ref p2) (.type "list") := ty_list hs2
        have e1 := DpAll_len ha
        have e2 := DpAll_len ha2
        refine ⟨_, rfl, rfl, _, rfl, iteF ?_⟩
        refine ⟨_, rfl, _, _, _, _, _, rfl, .ty _, ty2, kt_list_list, _, rfl, iteT (iteT ?_)⟩
        refine ⟨_, rfl, _, _, _, _, _, rfl, .ty _, ty, kt_list_list, _, rfl, _, _, _, _, _, rfl, .ty _, ty2, kt_list_list, rfl, _, rfl, iteF ⟨_, rfl, _, _, _, _, _, rfl, .ty _, ty, kt_list_tuple, _, rfl, _, _, _, _, _, rfl, .ty _, ty2, kt_list_tuple, rfl, _, rfl, iteF ?_⟩⟩
        refine ⟨_, rfl, p, xs, rfl, .inl hs, _, rfl, p2, ys, rfl, .inl hs2, rfl, _, rfl, brEq (fun _ => ?_) (fun z => absurd (by omega) z)⟩
        refine ⟨_, rfl, _, rfl, p, p2, xs, ys, rfl, .inl ⟨hs, hs2, fun D nD => ?_⟩⟩
        refine lc_it (walk_zip (n := ds.length) (by omega)) (fun i H' => Same H H' ∧ H' D = some (.lst (List.replicate i (.bl true)))) ⟨same_upd nD, upd_same⟩ (fun i H' _ h => ⟨Evl.ex_l h.1 hs, Evl.ex_l h.1 hs2⟩) ?_ ?_
        · rintro i x H1 H2 hi ⟨sH, hD⟩ ⟨U, x1, x2, rfl, nU, rfl, g1, g2⟩
          have sU := same_upd (o := HO.tup [x1, x2]) nU
          obtain ⟨d1, k1, q1⟩ := DpAll_get ha g1
          obtain ⟨d2, k2, q2⟩ := DpAll_get ha2 g2
          rw [k1] at k2; cases k2
          have hdep := deps_get k1
          refine ⟨U, [x1, x2], rfl, .inl (.inl upd_same), rfl, x1, [x2], rfl, x2, [], rfl, rfl, rfl, ?_⟩
          refine ⟨_, rfl, _, rfl, x1, x2, d1, rfl, Dp_same (sH.trans sU) q1, Dp_same (sH.trans sU) q2, by unfold dep at hd; omega, by unfold wd at hw; have := wds_get k1; omega, fun H4 s4 => ?_⟩
          refine ⟨_, s4 _ _ (sU _ _ hD), ?_, ?_, ?_⟩
          · rw [List.length_replicate]; exact Nat.lt_of_lt_of_le (show i < 1000000 by unfold wd at hw; omega) (by decide)
          · intro b o e
            have nb : b ≠ D := fun z => by subst z; rw [nD] at e; cases e
            rw [upd_ne nb]; exact s4 _ _ (sU _ _ (sH _ _ e))
          · rw [upd_same, List.replicate_succ']
        · rintro H1 ⟨sH, hD⟩
          refine ⟨D, List.replicate ds.length true, rfl, .inl (.inl ?_), ?_⟩
          · rw [List.map_replicate]; exact hD
          · rw [all_true]; exact q _ sH
      | tuple ds =>
        cases h1 with
        | @tup p xs _ hs ha =>
        cases h2 with
        | @tup p2 ys _ hs2 ha2 =>
        have ty : TyX K H (.ref p) (.type "tuple") := ty_tuple hs
        have ty2 : TyX K H (.ref p2) (.type "tuple") := ty_tuple hs2
        have e1 := DpAll_len ha
        have e2 := DpAll_len ha2
        refine ⟨_, rfl, rfl, _, rfl, iteF ?_⟩
        refine ⟨_, rfl, _, _, _, _, _, rfl, .ty _, ty2, kt_tuple_list, _, rfl, iteF ⟨_, rfl, _, _, _, _, _, rfl, .ty _, ty2, kt_tuple_tuple, _, rfl, iteT ?_⟩⟩
        refine ⟨_, rfl, _, _, _, _, _, rfl, .ty _, ty, kt_tuple_list, _, rfl, _, _, _, _, _, rfl, .ty _, ty2, kt_tuple_list, rfl, _, rfl, iteF ⟨_, rfl, _, _, _, _, _, rfl, .ty _, ty, kt_tuple_tuple, _, rfl, _, _, _, _, _, rfl, .ty _, ty2, kt_tuple_tuple, rfl, _, rfl, iteF ?_⟩⟩
        refine ⟨_, rfl, p, xs, rfl, .inr hs, _, rfl, p2, ys, rfl, .inr hs2, rfl, _, rfl, brEq (fun _ => ?_) (fun z => absurd (by omega) z)⟩
        refine ⟨_, rfl, _, rfl, p, p2, xs, ys, rfl, .inr ⟨hs, hs2, fun D nD => ?_⟩⟩
        refine lc_it (walk_zipT (n := ds.length) (by omega)) (fun i H' => Same H H' ∧ H' D = some (.lst (List.replicate i (.bl true)))) ⟨same_upd nD, upd_same⟩ (fun i H' _ h => ⟨Evl.ex_t h.1 hs, Evl.ex_t h.1 hs2⟩) ?_ ?_
        · rintro i x H1 H2 hi ⟨sH, hD⟩ ⟨U, x1, x2, rfl, nU, rfl, g1, g2⟩
          have sU := same_upd (o := HO.tup [x1, x2]) nU
          obtain ⟨d1, k1, q1⟩ := DpAll_get ha g1
          obtain ⟨d2, k2, q2⟩ := DpAll_get ha2 g2
          rw [k1] at k2; cases k2
          have hdep := deps_get k1
          refine ⟨U, [x1, x2], rfl, .inl (.inl upd_same), rfl, x1, [x2], rfl, x2, [], rfl, rfl, rfl, ?_⟩
          refine ⟨_, rfl, _, rfl, x1, x2, d1, rfl, Dp_same (sH.trans sU) q1, Dp_same (sH.trans sU) q2, by unfold dep at hd; omega, by unfold wd at hw; have := wds_get k1; omega, fun H4 s4 => ?_⟩
          refine ⟨_, s4 _ _ (sU _ _ hD), ?_, ?_, ?_⟩
          · rw [List.length_replicate]; exact Nat.lt_of_lt_of_le (show i < 1000000 by unfold wd at hw; omega) (by decide)
          · intro b o e
            have nb : b ≠ D := fun z => by subst z; rw [nD] at e; cases e
            rw [upd_ne nb]; exact s4 _ _ (sU _ _ (sH _ _ e))
          · rw [upd_same, List.replicate_succ']
        · rintro H1 ⟨sH, hD⟩
          refine ⟨D, List.replicate ds.length true, rfl, .inl (.inl ?_), ?_⟩
          · rw [List.map_replicate]; exact hD
          · rw [all_true]; exact q _ sH
theorem ok_l_small (T : Txt K mg) : FnOk P w K mg base CX0 3 T.f_l_small T.d_l_small Ps_l_small (spDrawn K 5) := by
  refine T.F_l_small.ok sc_l_small (fun vs H Q E h => ?_) (fun cdv A outer s H vs Q E hr h => ?_)
  · obtain ⟨r, rfl, _⟩ := h; rfl
  · obtain ⟨r, rfl, hR, q⟩ := h
    refine ⟨_, (pss_one (ps_ret (pe_call (ok_l_reduce T) hr (by rfl) T.g_l_reduce T.F_l_reduce.kp T.b_l_reduce .nil pass0 (pa_cons (pe_op op_sub (pe_call (ok_l_draw T) (hr.mono (by decide)) (by rfl) T.g_l_draw T.F_l_draw.kp T.b_l_draw .nil pass0 (pa_cons (pv 0) (pa_cons pe_int pa_nil))) pe_int) (pa_cons (pe_call (ok_l_choice T) hr (by rfl) T.g_l_choice T.F_l_choice.kp T.b_l_choice .nil pass0 (pa_cons (pv 0) (pa_cons (pe_lst (pa_cons pe_int (pa_cons pe_int (pa_cons pe_int (pa_cons pe_int (pa_cons pe_int pa_nil)))))) pa_nil))) pa_nil))))), ?_⟩
    refine ⟨_, rfl, r, 25, rfl, by decide, (B.of (n := 10) (by decide)).mono, hR, fun x H1 x0 x1 m1 => ?_⟩
    refine ⟨_, _, rfl, rfl, _, rfl, sizeLine2 (by simp), fun l nl => ?_⟩
    have m2 := Mo.new (o := HO.lst [.int 1, .int 1, .int 2, .int 3, .int 4]) m1.b nl
    refine ⟨r, l, _, rfl, .inl (.inl upd_same), m1.b.ne nl, by simp, by simp, m2.b, fun y H2 hy m3 => ?_⟩
    obtain ⟨d, rfl, hd⟩ : ∃ d : Int, y = .int d ∧ 1 ≤ d ∧ d ≤ 4 := by
      simp only [List.mem_cons, List.not_mem_nil, or_false] at hy
      rcases hy with rfl | rfl | rfl | rfl | rfl <;> exact ⟨_, rfl, by decide, by decide⟩
    have bn : B 5 (x - 12) := B.of (by omega)
    have bd : B 5 d := B.of (by omega)
    refine ⟨_, d, rfl, by omega, bn.mono, bd.mono, fun v H3 s f => ?_⟩
    exact q v _ _ H3 (((m1.trans m2).trans m3).trans (.same m3.b s)) (.red (by omega) f bn bd)
theorem ok_l_wide (T : Txt K mg) : FnOk P w K mg base CX0 4 T.f_l_wide T.d_l_wide Ps_l_wide (spDrawn K 40) := by
  refine T.F_l_wide.ok sc_l_wide (fun vs H Q E h => ?_) (fun cdv A outer s H vs Q E hr h => ?_)
  · obtain ⟨r, rfl, _⟩ := h; rfl
  · obtain ⟨r, rfl, hR, q⟩ := h
    refine ⟨_, (pss_cons (ps_set (i := 1) sc_l_wide.nd rfl (Or.inl rfl) (pe_call (ok_l_reduce T) (hr.mono (by decide)) (by rfl) T.g_l_reduce T.F_l_reduce.kp T.b_l_reduce .nil pass0 (pa_cons (pe_op op_add (pe_op op_sub (pe_call (ok_l_draw T) (hr.mono (by decide)) (by rfl) T.g_l_draw T.F_l_draw.kp T.b_l_draw .nil pass0 (pa_cons (pv 0) (pa_cons (pe_op op_sub (pe_op op_mulW pe_int (pe_op op_pow pe_int pe_int)) pe_int) pa_nil))) (pe_op op_pow pe_int pe_int)) pe_int) (pa_cons (pe_op op_add pe_int (pe_call (ok_l_draw T) (hr.mono (by decide)) (by rfl) T.g_l_draw T.F_l_draw.kp T.b_l_draw .nil pass0 (pa_cons (pv 0) (pa_cons (pe_op op_sub (pe_op op_pow pe_int pe_int) pe_int) pa_nil)))) pa_nil))))
      (pss_one (ps_ret (pe_call (ok_l_choice T) (hr.mono (by decide)) (by rfl) T.g_l_choice T.F_l_choice.kp T.b_l_choice .nil pass0 (pa_cons (pv 0) (pa_cons (pe_lst (pa_cons (pv 1) (pa_cons (pe_call (ok_l_small T) hr (by rfl) T.g_l_small T.F_l_small.kp T.b_l_small .nil pass0 (pa_cons (pv 0) pa_nil)) (pa_cons (pe_call (ok_l_small T) hr (by rfl) T.g_l_small T.F_l_small.kp T.b_l_small .nil pass0 (pa_cons (pv 0) pa_nil)) (pa_cons (pe_tup (pa_cons pe_int (pa_cons pe_int pa_nil))) (pa_cons (pe_tup (pa_cons pe_int (pa_cons pe_int pa_nil))) (pa_cons (pe_tup (pa_cons (pe_op op_sub (pe_op op_pow pe_int pe_int) pe_int) (pa_cons pe_int pa_nil))) pa_nil))))))) pa_nil)))))), ?_⟩
    have c12 : CPow 10 12 := ⟨by decide, by decide, by decide⟩
    have b2 : B 2 2 := B.of (by decide)
    have b12 : B 40 (10 ^ (12 : Int).toNat) := B.of (by decide)
    refine ⟨_, rfl, _, _, rfl, rfl, c12, _, _, rfl, rfl, cm b2 b12, _, _, rfl, rfl, r, _, rfl, by decide, (B.of (n := 41) (by decide)).mono, hR, fun x H1 x0 x1 m1 => ?_⟩
    refine ⟨_, _, rfl, rfl, c12, _, _, rfl, rfl, _, _, rfl, rfl, _, rfl, _, _, rfl, rfl, c12, _, _, rfl, rfl, r, _, rfl, by decide, (B.of (n := 41) (by decide)).mono, m1.b, fun y H2 y0 y1 m2 => ?_⟩
    simp only [Int.reduceToNat, Int.reducePow, Int.reduceMul, Int.reduceSub] at x1 y1
    have bn : B 40 (x - 10 ^ (12 : Int).toNat + 1) := B.of (by simp only [Int.reduceToNat, Int.reducePow, Nat.reducePow]; omega)
    have bd : B 40 (1 + y) := B.of (by simp only [Nat.reducePow]; omega)
    refine ⟨_, _, rfl, rfl, _, _, rfl, by omega, bn.mono, bd.mono, fun v H3 s f => ?_⟩
    have fv : Fq K H3 40 v _ _ := .red (by omega) f bn bd
    have m3 := (m1.trans m2).trans (.same m2.b s)
    refine ⟨_, rfl, _, rfl, _, rfl, r, rfl, m3.b, fun v4 a4 b4 H4 m4 f4 => ?_⟩
    refine ⟨_, rfl, r, rfl, m4.b, fun v5 a5 b5 H5 m5 f5 => ?_⟩
    refine ⟨sizeLine2 (by simp), fun p6 n6 => ?_⟩
    have m6 := Mo.new (o := HO.tup [.int 0, .int 1]) m5.b n6
    have f6 : Fq K (upd H5 p6 (.tup [.int 0, .int 1])) 40 (.ref p6) 0 1 := .lit upd_same (by decide) (B.of (by decide)) (B.of (by decide)) rfl
    refine ⟨sizeLine2 (by simp), fun p7 n7 => ?_⟩
    have m7 := Mo.new (o := HO.tup [.int 1, .int 1]) m6.b n7
    have f7 : Fq K (upd (upd H5 p6 (.tup [.int 0, .int 1])) p7 (.tup [.int 1, .int 1])) 40 (.ref p7) 1 1 := .lit upd_same (by decide) (B.of (by decide)) (B.of (by decide)) rfl
    refine ⟨_, _, rfl, rfl, c12, _, _, rfl, rfl, sizeLine2 (by simp), fun p8 n8 => ?_⟩
    have m8 := Mo.new (o := HO.tup [.int (10 ^ (12 : Int).toNat - 1), .int 1]) m7.b n8
    have f8 := Fq.lit (K := K) (k := 40) (upd_same (H := upd (upd H5 p6 (.tup [.int 0, .int 1])) p7 (.tup [.int 1, .int 1])) (a := p8) (o := HO.tup [.int (10 ^ (12 : Int).toNat - 1), .int 1])) (by decide) (B.of (by decide)) (B.of (by decide)) (by decide)
    refine ⟨sizeLine2 (by simp), fun l nl => ?_⟩
    have m9 := Mo.new (o := HO.lst [v, v4, v5, .ref p6, .ref p7, .ref p8]) m8.b nl
    refine ⟨r, l, _, rfl, .inl (.inl upd_same), m8.b.ne nl, by simp, by simp, m9.b, fun y H9 hy m10 => ?_⟩
    have mm := m9.trans m10
    have mall := (((((m3.trans m4).trans m5).trans m6).trans m7).trans m8).trans mm
    simp only [List.mem_cons, List.not_mem_nil, or_false] at hy
    rcases hy with rfl | rfl | rfl | rfl | rfl | rfl
    · exact q _ _ _ _ mall (((((fv.mo m4).mo m5).mo m6).mo m7).mo m8 |>.mo mm)
    · exact q _ _ _ _ mall (((((f4.mono.mo m5).mo m6).mo m7).mo m8).mo mm)
    · exact q _ _ _ _ mall ((((f5.mono.mo m6).mo m7).mo m8).mo mm)
    · exact q _ _ _ _ mall (((f6.mo m7).mo m8).mo mm)
    · exact q _ _ _ _ mall ((f7.mo m8).mo mm)
    · exact q _ _ _ _ mall (f8.mo mm)
theorem ok_l_positive (T : Txt K mg) : FnOk P w K mg base CX0 3 T.f_l_positive T.d_l_positive Ps_l_positive (spDrawnP K 40) := by
  refine T.F_l_positive.ok sc_l_positive (fun vs H Q E h => ?_) (fun cdv A outer s H vs Q E hr h => ?_)
  · obtain ⟨r, rfl, _⟩ := h; rfl
  · obtain ⟨r, rfl, hR, q⟩ := h
    refine ⟨_, (pss_one (ps_ret (pe_call (ok_l_reduce T) hr (by rfl) T.g_l_reduce T.F_l_reduce.kp T.b_l_reduce .nil pass0 (pa_cons (pe_op op_add pe_int (pe_call (ok_l_choice T) hr (by rfl) T.g_l_choice T.F_l_choice.kp T.b_l_choice .nil pass0 (pa_cons (pv 0) (pa_cons (pe_lst (pa_cons (pe_call (ok_l_draw T) (hr.mono (by decide)) (by rfl) T.g_l_draw T.F_l_draw.kp T.b_l_draw .nil pass0 (pa_cons (pv 0) (pa_cons pe_int pa_nil))) (pa_cons (pe_call (ok_l_draw T) (hr.mono (by decide)) (by rfl) T.g_l_draw T.F_l_draw.kp T.b_l_draw .nil pass0 (pa_cons (pv 0) (pa_cons (pe_op op_pow pe_int pe_int) pa_nil))) pa_nil))) pa_nil)))) (pa_cons (pe_call (ok_l_choice T) hr (by rfl) T.g_l_choice T.F_l_choice.kp T.b_l_choice .nil pass0 (pa_cons (pv 0) (pa_cons (pe_lst (pa_cons pe_int (pa_cons pe_int (pa_cons pe_int (pa_cons (pe_op op_add pe_int (pe_call (ok_l_draw T) (hr.mono (by decide)) (by rfl) T.g_l_draw T.F_l_draw.kp T.b_l_draw .nil pass0 (pa_cons (pv 0) (pa_cons (pe_op op_pow pe_int pe_int) pa_nil)))) pa_nil))))) pa_nil))) pa_nil))))), ?_⟩
    have c6 : CPow 10 6 := ⟨by decide, by decide, by decide⟩
    refine ⟨_, rfl, _, rfl, r, 6, rfl, by decide, (B.of (n := 10) (by decide)).mono, hR, fun x H1 x0 x1 m1 => ?_⟩
    refine ⟨_, rfl, _, _, rfl, rfl, c6, r, _, rfl, by decide, (B.of (n := 41) (by decide)).mono, m1.b, fun y H2 y0 y1 m2 => ?_⟩
    refine ⟨sizeLine2 (by simp), fun l nl => ?_⟩
    have m3 := Mo.new (o := HO.lst [.int x, .int y]) m2.b nl
    refine ⟨r, l, _, rfl, .inl (.inl upd_same), m2.b.ne nl, by simp, by simp, m3.b, fun z H3 hz m4 => ?_⟩
    simp only [Int.reduceToNat, Int.reducePow] at y1
    obtain ⟨n, rfl, hn⟩ : ∃ d : Int, z = .int d ∧ 0 ≤ d ∧ d < 1000000 := by
      simp only [List.mem_cons, List.not_mem_nil, or_false] at hz
      rcases hz with rfl | rfl
      · exact ⟨_, rfl, by omega, by omega⟩
      · exact ⟨_, rfl, by omega, by omega⟩
    refine ⟨_, _, rfl, rfl, _, rfl, _, rfl, _, _, rfl, rfl, c6, r, _, rfl, by decide, (B.of (n := 41) (by decide)).mono, m4.b, fun u H4 u0 u1 m5 => ?_⟩
    simp only [Int.reduceToNat, Int.reducePow] at u1
    refine ⟨_, _, rfl, rfl, sizeLine2 (by simp), fun l2 nl2 => ?_⟩
    have m6 := Mo.new (o := HO.lst [.int 1, .int 2, .int 3, .int (1 + u)]) m5.b nl2
    refine ⟨r, l2, _, rfl, .inl (.inl upd_same), m5.b.ne nl2, by simp, by simp, m6.b, fun z H5 hz m7 => ?_⟩
    obtain ⟨d, rfl, hd⟩ : ∃ d : Int, z = .int d ∧ 1 ≤ d ∧ d ≤ 1000000 := by
      simp only [List.mem_cons, List.not_mem_nil, or_false] at hz
      rcases hz with rfl | rfl | rfl | rfl
      · exact ⟨_, rfl, by omega, by omega⟩
      · exact ⟨_, rfl, by omega, by omega⟩
      · exact ⟨_, rfl, by omega, by omega⟩
      · exact ⟨_, rfl, by omega, by omega⟩
    have bn : B 40 (1 + n) := B.of (by simp only [Nat.reducePow]; omega)
    have bd : B 40 d := B.of (by simp only [Nat.reducePow]; omega)
    refine ⟨_, d, rfl, by omega, bn.mono, bd.mono, fun v H6 s f => ?_⟩
    refine q v _ _ H6 ((((((m1.trans m2).trans m3).trans m4).trans m5).trans m6).trans m7 |>.trans (.same m7.b s)) (.red (by omega) f bn bd) ?_
    exact rn_pos (by omega) (by omega)
end
end EP
namespace EP
open PySem PySem.Spec PyProof.Rows L2
section
variable {P : Program} {w : World} {K : PySem.W.Frag} {mg : Str → Option Value} {base : Heap}
def spLaw (K : PySem.W.Frag) : Sp := fun vs H Q _ => ∃ (a : Addr) (ns : List Int), vs = [.ref a] ∧ SqL K H a (ns.map V.int) ∧ ns.length ≤ 63 ∧ ∀ H', Q (.bl true) H'
theorem Fr.dp {K : PySem.W.Frag} {H : Hp} {v : V} {a b : Int} (h : Fr K H v a b) : Dp K H v (.tuple [.int a, .int b]) := by
  obtain ⟨p, rfl, h⟩ := h
  exact .tup h (.cons (.int _) (.cons (.int _) .nil))
theorem ok_law (T : Txt K mg) : FnOk P w K mg base CX0 8 T.f_law T.d_law Ps_law (spLaw K) := by
  refine T.F_law.ok sc_law (fun vs H Q E h => ?_) (fun cdv A outer s H vs Q E hr h => ?_)
  · obtain ⟨a, ns, rfl, _⟩ := h; rfl
  · obtain ⟨sc, ns, rfl, hS, hlen, q⟩ := h
    refine ⟨_, (pss_cons (ps_set (i := 1) sc_law.nd rfl (Or.inl rfl) (pe_call (ok_l_source T) (hr.mono (by decide)) (by rfl) T.g_l_source T.F_l_source.kp T.b_l_source .nil pass0 (pa_cons (pv 0) pa_nil)))
      (pss_cons (ps_for PassesOwn.never rfl (pi_range1 rfl T.m_range (pa_cons pe_int pa_nil)) (pg_name (i := 2) sc_law.nd rfl (Or.inl rfl)) (pss_cons (ps_set (i := 3) sc_law.nd rfl (Or.inl rfl) (pe_call (ok_l_wide T) (hr.mono (by decide)) (by rfl) T.g_l_wide T.F_l_wide.kp T.b_l_wide .nil pass0 (pa_cons (pv 1) pa_nil)))
      (pss_cons (ps_set (i := 4) sc_law.nd rfl (Or.inl rfl) (pe_call (ok_l_choice T) (hr.mono (by decide)) (by rfl) T.g_l_choice T.F_l_choice.kp T.b_l_choice .nil pass0 (pa_cons (pv 1) (pa_cons (pe_lst (pa_cons (pe_call (ok_l_positive T) (hr.mono (by decide)) (by rfl) T.g_l_positive T.F_l_positive.kp T.b_l_positive .nil pass0 (pa_cons (pv 1) pa_nil)) (pa_cons (pe_call (ok_l_positive T) (hr.mono (by decide)) (by rfl) T.g_l_positive T.F_l_positive.kp T.b_l_positive .nil pass0 (pa_cons (pv 1) pa_nil)) (pa_cons (pe_tup (pa_cons pe_int (pa_cons (pe_op op_sub (pe_op op_pow pe_int pe_int) pe_int) pa_nil))) pa_nil)))) pa_nil))))
      (pss_cons (ps_set (i := 5) sc_law.nd rfl (Or.inl rfl) (pe_call (ok_floor_of T) (hr.mono (by decide)) (by rfl) T.g_floor_of T.F_floor_of.kp T.b_floor_of .nil pass0 (pa_cons (pv 3) pa_nil)))
      (pss_cons (ps_set (i := 6) sc_law.nd rfl (Or.inl rfl) (pe_call (ok_ceiling_of T) (hr.mono (by decide)) (by rfl) T.g_ceiling_of T.F_ceiling_of.kp T.b_ceiling_of .nil pass0 (pa_cons (pv 3) pa_nil)))
      (pss_cons (ps_set (i := 7) sc_law.nd rfl (Or.inl rfl) (pe_call (ok_remainder T) (hr.mono (by decide)) (by rfl) T.g_remainder T.F_remainder.kp T.b_remainder .nil pass0 (pa_cons (pv 3) (pa_cons (pv 4) pa_nil))))
      (pss_cons (ps_if (pt_not (pt_val (pe_call (ok_l_equal T 3) (hr.mono (by decide)) (by rfl) T.g_l_equal T.F_l_equal.kp T.b_l_equal .nil pass0 (pa_cons (pe_lst (pa_cons (pv 5) (pa_cons (pv 6) pa_nil))) (pa_cons (pe_lst (pa_cons (pe_call (ok_l_floor T) (hr.mono (by decide)) (by rfl) T.g_l_floor T.F_l_floor.kp T.b_l_floor .nil pass0 (pa_cons (pv 3) pa_nil)) (pa_cons (pe_op op_sub pe_int (pe_call (ok_l_floor T) (hr.mono (by decide)) (by rfl) T.g_l_floor T.F_l_floor.kp T.b_l_floor .nil pass0 (pa_cons (pe_tup (pa_cons (pe_op op_sub pe_int (pe_ix ix_tup (pv 3) pe_int (fun _ _ => rfl))) (pa_cons (pe_ix ix_tup (pv 3) pe_int (fun _ _ => rfl)) pa_nil))) pa_nil))) pa_nil))) pa_nil))))) (pss_one (ps_ret pe_bl)) pss_nil)
      (pss_cons (ps_if (PW.pt (pw_or (pt_not (pt_val (pe_call (ok_l_equal T 3) (hr.mono (by decide)) (by rfl) T.g_l_equal T.F_l_equal.kp T.b_l_equal .nil pass0 (pa_cons (pv 7) (pa_cons (pe_call (ok_l_rest T) (hr.mono (by decide)) (by rfl) T.g_l_rest T.F_l_rest.kp T.b_l_rest .nil pass0 (pa_cons (pv 3) (pa_cons (pv 4) pa_nil))) pa_nil))))) (pw_or (pt_cmpR op_lt (pe_ix ix_tup (pv 7) pe_int (fun _ _ => rfl)) pe_int (nomark _)) (pw_or1 (pt_not (pt_val (pe_call (ok_l_less T) (hr.mono (by decide)) (by rfl) T.g_l_less T.F_l_less.kp T.b_l_less .nil pass0 (pa_cons (pv 7) (pa_cons (pv 4) pa_nil))))))))) (pss_one (ps_ret pe_bl)) pss_nil)
      (pss_cons (ps_set (i := 8) sc_law.nd rfl (Or.inl rfl) (pe_call (ok_l_choice T) (hr.mono (by decide)) (by rfl) T.g_l_choice T.F_l_choice.kp T.b_l_choice .nil pass0 (pa_cons (pv 1) (pa_cons (pe_lst (pa_cons (pe_call (ok_l_wide T) (hr.mono (by decide)) (by rfl) T.g_l_wide T.F_l_wide.kp T.b_l_wide .nil pass0 (pa_cons (pv 1) pa_nil)) (pa_cons (pv 3) (pa_cons (pe_tup (pa_cons pe_int (pa_cons pe_int pa_nil))) (pa_cons (pe_call (ok_l_times T) (hr.mono (by decide)) (by rfl) T.g_l_times T.F_l_times.kp T.b_l_times .nil pass0 (pa_cons (pe_op op_sub (pe_call (ok_l_draw T) (hr.mono (by decide)) (by rfl) T.g_l_draw T.F_l_draw.kp T.b_l_draw .nil pass0 (pa_cons (pv 1) (pa_cons pe_int pa_nil))) pe_int) (pa_cons (pv 3) pa_nil))) pa_nil))))) pa_nil))))
      (pss_cons (ps_set (i := 9) sc_law.nd rfl (Or.inl rfl) (pe_call (ok_common_divisor T) (hr.mono (by decide)) (by rfl) T.g_common_divisor T.F_common_divisor.kp T.b_common_divisor .nil pass0 (pa_cons (pv 3) (pa_cons (pv 8) pa_nil))))
      (pss_cons (ps_if (PW.pt (pw_or (pt_not (pt_val (pe_call (ok_l_equal T 3) (hr.mono (by decide)) (by rfl) T.g_l_equal T.F_l_equal.kp T.b_l_equal .nil pass0 (pa_cons (pv 9) (pa_cons (pe_call (ok_l_common T) (hr.mono (by decide)) (by rfl) T.g_l_common T.F_l_common.kp T.b_l_common .nil pass0 (pa_cons (pv 3) (pa_cons (pv 8) pa_nil))) pa_nil))))) (pw_or1 (pt_not (pt_val (pe_call (ok_l_equal T 3) (hr.mono (by decide)) (by rfl) T.g_l_equal T.F_l_equal.kp T.b_l_equal .nil pass0 (pa_cons (pe_call (ok_common_divisor T) (hr.mono (by decide)) (by rfl) T.g_common_divisor T.F_common_divisor.kp T.b_common_divisor .nil pass0 (pa_cons (pv 8) (pa_cons (pv 3) pa_nil))) (pa_cons (pv 9) pa_nil)))))))) (pss_one (ps_ret pe_bl)) pss_nil)
      (pss_one (ps_if (PW.pt (pw_and (pt_cmpR op_ne (pe_ix ix_tup (pv 3) pe_int (fun _ _ => rfl)) pe_int (nomark _)) (pw_and1 (PW.pt (pw_or (pt_cmpR op_lt (pe_ix ix_tup (pv 9) pe_int (fun _ _ => rfl)) pe_int (nomark _)) (pw_or (pt_cmpR op_ne (pe_ix ix_tup (pe_call (ok_l_divide T) (hr.mono (by decide)) (by rfl) T.g_l_divide T.F_l_divide.kp T.b_l_divide .nil pass0 (pa_cons (pv 3) (pa_cons (pv 9) pa_nil))) pe_int (fun _ _ => rfl)) pe_int (nomark _)) (pw_or1 (pt_cmpR op_ne (pe_ix ix_tup (pe_call (ok_l_divide T) (hr.mono (by decide)) (by rfl) T.g_l_divide T.F_l_divide.kp T.b_l_divide .nil pass0 (pa_cons (pv 8) (pa_cons (pv 9) pa_nil))) pe_int (fun _ _ => rfl)) pe_int (nomark _))))))))) (pss_one (ps_ret pe_bl)) pss_nil)))))))))))))
      (pss_one (ps_ret (pe_call (ok_l_equal T 3) (hr.mono (by decide)) (by rfl) T.g_l_equal T.F_l_equal.kp T.b_l_equal .nil pass0 (pa_cons (pe_call (ok_common_divisor T) (hr.mono (by decide)) (by rfl) T.g_common_divisor T.F_common_divisor.kp T.b_common_divisor .nil pass0 (pa_cons (pe_tup (pa_cons pe_int (pa_cons pe_int pa_nil))) (pa_cons (pe_tup (pa_cons pe_int (pa_cons pe_int pa_nil))) pa_nil))) (pa_cons (pe_tup (pa_cons pe_int (pa_cons pe_int pa_nil))) pa_nil))))))), ?_⟩
    refine ⟨_, rfl, sc, ns, rfl, hS, hlen, fun r H0 s0 hR => ?_⟩
    refine ⟨6, rfl, by decide, by decide, ?_⟩
    refine for_range (n := 6) (fun i σ H' => Rng H' r ∧ ∃ z2 z3 z4 z5 z6 z7 z8 z9, σ = [some (.ref sc), some (.ref r), z2, z3, z4, z5, z6, z7, z8, z9]) ⟨hR, _, _, _, _, _, _, _, _, rfl⟩ ?_ ?_
    · rintro i σ Hi hi ⟨hR, z2, z3, z4, z5, z6, z7, z8, z9, rfl⟩
      have c12 : CPow 10 12 := ⟨by decide, by decide, by decide⟩
      refine ⟨_, rfl, r, rfl, hR, fun v1 a b H1 m1 f1 => ?_⟩
      refine ⟨_, rfl, _, rfl, r, rfl, m1.b, fun v2 a2 b2 H2 m2 f2 p2 => ?_⟩
      refine ⟨_, rfl, r, rfl, m2.b, fun v3 a3 b3 H3 m3 f3 p3 => ?_⟩
      refine ⟨_, _, rfl, rfl, c12, _, _, rfl, rfl, sizeLine2 (by simp), fun p4 n4 => ?_⟩
      have m4 := Mo.new (o := HO.tup [.int 1, .int (10 ^ (12 : Int).toNat - 1)]) m3.b n4
      have f4 := Fq.lit (K := K) (k := 40) (upd_same (H := H3) (a := p4) (o := HO.tup [.int 1, .int (10 ^ (12 : Int).toNat - 1)])) (by decide) (B.of (by decide)) (B.of (by decide)) (by decide)
      refine ⟨sizeLine2 (by simp), fun l5 n5 => ?_⟩
      have m5 := Mo.new (o := HO.lst [v2, v3, .ref p4]) m4.b n5
      refine ⟨r, l5, _, rfl, .inl (.inl upd_same), m4.b.ne n5, by simp, by simp, m5.b, fun pv H5 hpv m6 => ?_⟩
      have m45 := m4.trans (m5.trans m6)
      obtain ⟨c, d, fp, pc⟩ : ∃ c d, Fq K H5 40 pv c d ∧ 0 < c := by
        simp only [List.mem_cons, List.not_mem_nil, or_false] at hpv
        rcases hpv with rfl | rfl | rfl
        · exact ⟨_, _, (f2.mo m3).mo m45, p2⟩
        · exact ⟨_, _, f3.mo m45, p3⟩
        · exact ⟨_, _, (f4.mo m5).mo m6, by decide⟩
      have f1 := ((f1.mo m2).mo m3).mo m45
      have m7 := (m1.trans m2).trans (m3.trans m45)
      clear m45 m6 m5 f4 m4 n4 f3 p3 m3 f2 p2 m2 m1 hpv n5
      -- low, high, left
      refine ⟨_, rfl, v1, a, b, rfl, f1.f, f1.p, f1.bb.mono, ?_⟩
      refine ⟨_, rfl, v1, a, b, rfl, f1.f, f1.p, f1.bb.mono, ?_⟩
      refine ⟨_, rfl, _, rfl, v1, pv, a, b, c, d, rfl, f1.f, fp.f, f1.p, pc, fp.p, f1.ba.mono, f1.bb.mono, fp.ba.mono, fp.bb.mono, fun vl H6 s6 fl => ?_⟩
      obtain ⟨r0, r1, r2⟩ := rem_bounds (a := a) f1.p pc fp.p
      obtain ⟨rb1, rb2⟩ := rem_B f1.p pc fp.p f1.ba f1.bb fp.ba fp.bb
      have f1 := f1.same s6
      have fp := fp.same s6
      have m8 := m7.trans (.same m7.b s6)
      -- the first test
      refine ⟨_, rfl, _, rfl, sizeLine2 (by simp), fun q1 k1 => ?_⟩
      have s7 := same_upd (o := HO.lst [.int (a / b), .int (-(-a / b))]) k1
      refine ⟨_, rfl, v1, a, b, rfl, (f1.same s7).f, f1.p, f1.bb.mono, ?_⟩
      obtain ⟨pp1, rfl, h1⟩ := f1.f
      refine ⟨_, rfl, _, _, _, _, rfl, rfl, (Evl.ex_t s7 h1), ix0, _, _, rfl, rfl, _, rfl, _, _, _, _, rfl, rfl, (Evl.ex_t s7 h1), ix1, sizeLine2 (by simp), fun q2 k2 => ?_⟩
      have s8 := same_upd (o := HO.tup [.int (0 - a), .int b]) k2
      refine ⟨_, (0 - a), b, rfl, ⟨_, rfl, .inl (.inl upd_same)⟩, f1.p, f1.bb.mono, _, _, rfl, rfl, ?_⟩
      refine ⟨sizeLine2 (by simp), fun q3 k3 => ?_⟩
      have s9 := same_upd (o := HO.lst [.int (a / b), .int (0 - (0 - a) / b)]) k3
      refine ⟨_, _, .list [.int (a / b), .int (-(-a / b))], rfl, .lst (.inl (.inl ?_)) (.cons (.int _) (.cons (.int _) .nil)), .lst (.inl (.inl ?_)) (.cons (.int _) (.cons (.int _) .nil)), by simp [dep, deps], by simp [wd, wds], fun H7 s10 => ?_⟩
      · exact s9 _ _ (s8 _ _ upd_same)
      · rw [upd_same]; simp only [Int.zero_sub]
      refine ⟨_, rfl, iteF ?_⟩
      have sA := ((s7.trans s8).trans s9).trans s10
      have f1 := f1.same sA
      have fp := fp.same sA
      have fl := fl.same sA
      have m9 := m8.trans (.same m8.b sA)
      clear s7 s8 s9 s10 k1 k2 k3 sA
      -- the second test
      refine ⟨_, rfl, _, rfl, _, rfl, _, pv, a, b, c, d, rfl, f1.f, fp.f, f1.p, pc, fp.p, f1.ba.mono, f1.bb.mono, fp.ba.mono, fp.bb.mono, fun v2 H8 s8 f8 => ?_⟩
      refine ⟨_, _, _, rfl, (fl.same s8).dp, f8.dp, by simp [dep, deps], by simp [wd, wds], fun H9 s9 => ⟨_, rfl, iteF ?_⟩⟩
      have f1 := (f1.same s8).same s9
      have fp := (fp.same s8).same s9
      have fl := (fl.same s8).same s9
      obtain ⟨pl, rfl, hl⟩ := id fl
      refine ⟨_, rfl, _, _, _, _, rfl, rfl, hl, ix0, _, _, rfl, rfl, _, rfl, brI (fun z => absurd z (by omega)) (fun _ => ?_)⟩
      refine ⟨_, rfl, _, rfl, _, pv, _, _, c, d, rfl, fl, fp.f, rb1.mono, rb2.mono, fp.ba.mono, fp.bb.mono, _, rfl, iteNS r2 ?_⟩
      have m10 := (m9.trans (.same m9.b s8)).trans (.same (m9.b.same s8) s9)
      clear s8 s9 f8 m9 m8 m7 hl fl h1
      -- other
      refine ⟨_, rfl, _, rfl, r, rfl, m10.b, fun v2 e2 g2 H2 m2 f2 => ?_⟩
      refine ⟨_, rfl, sizeLine2 (by simp), fun p3 n3 => ?_⟩
      have m3 := Mo.new (o := HO.tup [.int 0, .int 1]) m2.b n3
      have f3 := Fq.lit (K := K) (k := 50) (upd_same (H := H2) (a := p3) (o := HO.tup [.int 0, .int 1])) (by decide) (B.of (by decide)) (B.of (by decide)) (by decide)
      refine ⟨_, rfl, r, 9, rfl, by decide, (B.of (n := 10) (by decide)).mono, m3.b, fun x H4 x0 x1 m4 => ?_⟩
      have bx : B 4 (x - 4) := B.of (by omega)
      have f1 := ((f1.mo m2).mo m3).mo m4
      refine ⟨_, _, rfl, rfl, _, rfl, _, _, a, b, rfl, f1.f, by have := f1.p; omega, bx.mono, f1.ba.mono, f1.bb.mono, fun v5 H5 s5 f5 => ?_⟩
      have f5 : Fq K H5 50 v5 _ _ := .red (by have := f1.p; omega) f5 (bx.mul f1.ba).mono f1.bb.mono
      have m5 := m4.trans (.same m4.b s5)
      refine ⟨sizeLine2 (by simp), fun l6 n6 => ?_⟩
      have m6 := Mo.new (o := HO.lst [v2, .ref pp1, .ref p3, v5]) m5.b n6
      refine ⟨r, l6, _, rfl, .inl (.inl upd_same), m5.b.ne n6, by simp, by simp, m6.b, fun vo H7 ho m7 => ?_⟩
      have m67 := m6.trans m7
      have f1 := (f1.same s5).mo m67
      obtain ⟨e, f, fo⟩ : ∃ e f, Fq K H7 50 vo e f := by
        simp only [List.mem_cons, List.not_mem_nil, or_false] at ho
        rcases ho with rfl | rfl | rfl | rfl
        · exact ⟨_, _, ((f2.mono.mo m3).mo m5).mo m67⟩
        · exact ⟨_, _, f1.mono⟩
        · exact ⟨_, _, (f3.mo m5).mo m67⟩
        · exact ⟨_, _, f5.mo m67⟩
      have m11 := (((m10.trans m2).trans m3).trans m5).trans m67
      clear m67 m7 m6 n6 f5 s5 m5 m4 m3 n3 f3 m2 m10 f2 ho
      have hb0 : b ≠ 0 := by have := f1.p; omega
      have hf0 : f ≠ 0 := by have := fo.p; omega
      -- by
      refine ⟨_, rfl, _, rfl, _, vo, a, b, e, f, rfl, f1.f, fo.f, hb0, hf0, f1.ba.mono, f1.bb.mono, fo.ba.mono, fo.bb.mono, fun vb H2 s2 fb => ?_⟩
      have f1 := f1.same s2
      have fo := fo.same s2
      have m12 := m11.trans (.same m11.b s2)
      dsimp only at fb
      have hB : B 100 (Int.gcd (a * f) (e * b) : Int) := by
        by_cases z : e * b = 0
        · refine ((f1.ba.mul fo.bb).mono (m := 100)).le ?_
          rw [z, Int.gcd_zero_right, Int.natAbs_natCast]; exact Nat.le_refl _
        · exact ((fo.ba.mul f1.bb).mono (m := 100)).le (gcd_le z)
      have hbf : b * f ≠ 0 := Int.mul_ne_zero hb0 hf0
      -- the third test
      refine ⟨_, rfl, _, rfl, _, rfl, _, vo, a, b, e, f, rfl, f1.f, fo.f, hb0, hf0, f1.ba.mono, f1.bb.mono, fo.ba.mono, fo.bb.mono, fun v3 H3 s3 f3 => ?_⟩
      refine ⟨_, _, _, rfl, (fb.same s3).dp, f3.dp, by simp [dep, deps], by simp [wd, wds], fun H4 s4 => ⟨_, rfl, iteF ?_⟩⟩
      have f1 := (f1.same s3).same s4
      have fo := (fo.same s3).same s4
      have fb := (fb.same s3).same s4
      refine ⟨_, rfl, _, rfl, vo, _, e, f, a, b, rfl, fo.f, f1.f, hf0, hb0, fo.ba.mono, fo.bb.mono, f1.ba.mono, f1.bb.mono, fun v5 H5 s5 f5 => ?_⟩
      dsimp only at f5
      rw [Int.gcd_comm (e * b) (a * f), Int.mul_comm f b] at f5
      refine ⟨_, rfl, _, _, _, rfl, f5.dp, (fb.same s5).dp, by simp [dep, deps], by simp [wd, wds], fun H6 s6 => ⟨_, rfl, iteF ?_⟩⟩
      have f1 := (f1.same s5).same s6
      have fo := (fo.same s5).same s6
      have fb := (fb.same s5).same s6
      have m13 := m12.trans (.same m12.b (((s3.trans s4).trans s5).trans s6))
      -- the last test
      obtain ⟨pp, ep, h1⟩ := id f1.f
      cases ep
      refine ⟨_, rfl, _, _, _, _, rfl, rfl, h1, ix0, rfl, _, rfl, brNe (fun ha => ?_) (fun ha => ?_)⟩
      · have hg : (0 : Int) < (Int.gcd (a * f) (e * b) : Int) := by
          have := Int.gcd_pos_of_ne_zero_left (e * b) (Int.mul_ne_zero ha hf0); omega
        have hbfp : 0 < b * f := Int.mul_pos f1.p fo.p
        have hrn := rn_pos hg hbfp
        have bn1 := hB.rn hbf
        have bn2 : B 100 (rd (Int.gcd (a * f) (e * b) : Int) (b * f)) := ((f1.bb.mul fo.bb).mono (m := 100)).rd hbf
        have w1 := by_whole (a := a) hb0 hf0 (Int.ne_of_gt hg) (Int.gcd_dvd_left ..)
        have w2 := by_whole (a := e) (g := (Int.gcd (a * f) (e * b) : Int)) hf0 hb0 (Int.ne_of_gt hg) (Int.gcd_dvd_right ..)
        rw [Int.mul_comm f b] at w2
        obtain ⟨pb, rfl, hb⟩ := id fb
        refine ⟨_, rfl, _, _, _, _, rfl, rfl, hb, ix0, _, _, rfl, rfl, _, rfl, brI (fun z => absurd z (by omega)) (fun _ => ?_)⟩
        refine ⟨_, rfl, _, rfl, _, _, a, b, _, _, rfl, f1.f, fb, hb0, by omega, f1.ba.mono, f1.bb.mono, bn1.mono, bn2.mono, fun v7 H7 s7 f7 => ?_⟩
        dsimp only at f7
        rw [rd_one (Int.mul_ne_zero hb0 w1.2) w1.1] at f7
        obtain ⟨p7, rfl, h7⟩ := f7
        refine ⟨_, _, _, _, rfl, rfl, h7, ix1, rfl, _, rfl, iteF ?_⟩
        refine ⟨_, rfl, _, rfl, _, _, e, f, _, _, rfl, (fo.same s7).f, fb.same s7, hf0, by omega, fo.ba.mono, fo.bb.mono, bn1.mono, bn2.mono, fun v8 H8 s8 f8 => ?_⟩
        dsimp only at f8
        rw [rd_one (Int.mul_ne_zero hf0 w2.2) w2.1] at f8
        obtain ⟨p8, rfl, h8⟩ := f8
        refine ⟨_, _, _, _, rfl, rfl, h8, ix1, rfl, _, rfl, iteF ?_⟩
        exact ⟨(m13.b.same s7).same s8, _, _, _, _, _, _, _, _, rfl⟩
      · refine iteF ?_
        exact ⟨m13.b, _, _, _, _, _, _, _, _, rfl⟩
    · rintro σ H' ⟨hR, z2, z3, z4, z5, z6, z7, z8, z9, rfl⟩
      refine ⟨sizeLine2 (by simp), fun q1 k1 => ?_⟩
      have s1 := same_upd (o := HO.tup [.int 0, .int 1]) k1
      refine ⟨sizeLine2 (by simp), fun q2 k2 => ?_⟩
      have s2 := same_upd (o := HO.tup [.int 0, .int 1]) k2
      have bz : B 2000 0 := (B.of (n := 1) (by decide)).mono
      have bo : B 2000 1 := B.one.mono
      refine ⟨_, _, 0, 1, 0, 1, rfl, ⟨_, rfl, .inl (.inl (s2 _ _ upd_same))⟩, ⟨_, rfl, .inl (.inl upd_same)⟩, by decide, by decide, bz, bo, bz, bo, fun v H3 s3 f3 => ?_⟩
      refine ⟨sizeLine2 (by simp), fun q3 k3 => ?_⟩
      have s4 := same_upd (o := HO.tup [.int 0, .int 1]) k3
      exact ⟨_, _, .tuple [.int 0, .int 1], rfl, (f3.same s4).dp, Fr.dp ⟨_, rfl, .inl (.inl upd_same)⟩, by decide, by decide, fun H7 s10 => q _⟩
end
end EP
namespace EP
open PySem PySem.Spec PyProof.Rows L2
set_option maxHeartbeats 8000000 in
theorem all_mk {l : PySem.W.OpenLaw} {w : World} {K : PySem.W.Frag} {h : Heap} {mg : Str → Option Value} {fa : Addr} (X : K.In h) (G : h.Ns mainGlobals mg) (hfa : mg "law" = some (.ref fa))
    {f0 : Addr} {od0 an0 : Option Addr} {sl0 : Array (Option Value)} {oc0 kV0 dc0 pm0 cd0 ct0 : Value}
    (a0 : PySem.W.nsIn K mainGlobals "gcd" = some (some (.ref f0))) (l0 : K.lookup f0 = some ⟨oc0, od0, .func (PySem.W.fnOf "gcd" "gcd" (defArgs s_gcd) (defBody s_gcd) (defScope s_gcd) .none kV0 dc0 pm0 an0 cd0 ct0), sl0⟩) (c0 : PySem.W.codeIn K cd0 "gcd" = true) (k0 : PySem.W.keepIn K (.ref f0) = true)
    {f1 T1 : Addr} {od1 an1 odT1 : Option Addr} {sl1 slT1 : Array (Option Value)} {oc1 kV1 dc1 pm1 cd1 ct1 ocT1 : Value} {nT1 : Nat} {tk1_0 : Tok}
    (a1 : PySem.W.nsIn K mainGlobals "fraction" = some (some (.ref f1))) (l1 : K.lookup f1 = some ⟨oc1, od1, .func (PySem.W.fnOf "fraction" "fraction" (defArgs s_fraction) (defBody s_fraction) (defScope s_fraction) (.ref T1) kV1 dc1 pm1 an1 cd1 ct1), sl1⟩) (c1 : PySem.W.codeIn K cd1 "fraction" = true) (k1 : PySem.W.keepIn K (.ref f1) = true) (t1 : K.lookup T1 = some ⟨ocT1, odT1, .seq #[.int 1 tk1_0] nT1, slT1⟩)
    {f2 : Addr} {od2 an2 : Option Addr} {sl2 : Array (Option Value)} {oc2 kV2 dc2 pm2 cd2 ct2 : Value}
    (a2 : PySem.W.nsIn K mainGlobals "subtract" = some (some (.ref f2))) (l2 : K.lookup f2 = some ⟨oc2, od2, .func (PySem.W.fnOf "subtract" "subtract" (defArgs s_subtract) (defBody s_subtract) (defScope s_subtract) .none kV2 dc2 pm2 an2 cd2 ct2), sl2⟩) (c2 : PySem.W.codeIn K cd2 "subtract" = true) (k2 : PySem.W.keepIn K (.ref f2) = true)
    {f3 : Addr} {od3 an3 : Option Addr} {sl3 : Array (Option Value)} {oc3 kV3 dc3 pm3 cd3 ct3 : Value}
    (a3 : PySem.W.nsIn K mainGlobals "multiply" = some (some (.ref f3))) (l3 : K.lookup f3 = some ⟨oc3, od3, .func (PySem.W.fnOf "multiply" "multiply" (defArgs s_multiply) (defBody s_multiply) (defScope s_multiply) .none kV3 dc3 pm3 an3 cd3 ct3), sl3⟩) (c3 : PySem.W.codeIn K cd3 "multiply" = true) (k3 : PySem.W.keepIn K (.ref f3) = true)
    {f4 : Addr} {od4 an4 : Option Addr} {sl4 : Array (Option Value)} {oc4 kV4 dc4 pm4 cd4 ct4 : Value}
    (a4 : PySem.W.nsIn K mainGlobals "divide" = some (some (.ref f4))) (l4 : K.lookup f4 = some ⟨oc4, od4, .func (PySem.W.fnOf "divide" "divide" (defArgs s_divide) (defBody s_divide) (defScope s_divide) .none kV4 dc4 pm4 an4 cd4 ct4), sl4⟩) (c4 : PySem.W.codeIn K cd4 "divide" = true) (k4 : PySem.W.keepIn K (.ref f4) = true)
    {f5 : Addr} {od5 an5 : Option Addr} {sl5 : Array (Option Value)} {oc5 kV5 dc5 pm5 cd5 ct5 : Value}
    (a5 : PySem.W.nsIn K mainGlobals "floor_of" = some (some (.ref f5))) (l5 : K.lookup f5 = some ⟨oc5, od5, .func (PySem.W.fnOf "floor_of" "floor_of" (defArgs s_floor_of) (defBody s_floor_of) (defScope s_floor_of) .none kV5 dc5 pm5 an5 cd5 ct5), sl5⟩) (c5 : PySem.W.codeIn K cd5 "floor_of" = true) (k5 : PySem.W.keepIn K (.ref f5) = true)
    {f6 : Addr} {od6 an6 : Option Addr} {sl6 : Array (Option Value)} {oc6 kV6 dc6 pm6 cd6 ct6 : Value}
    (a6 : PySem.W.nsIn K mainGlobals "ceiling_of" = some (some (.ref f6))) (l6 : K.lookup f6 = some ⟨oc6, od6, .func (PySem.W.fnOf "ceiling_of" "ceiling_of" (defArgs s_ceiling_of) (defBody s_ceiling_of) (defScope s_ceiling_of) .none kV6 dc6 pm6 an6 cd6 ct6), sl6⟩) (c6 : PySem.W.codeIn K cd6 "ceiling_of" = true) (k6 : PySem.W.keepIn K (.ref f6) = true)
    {f7 : Addr} {od7 an7 : Option Addr} {sl7 : Array (Option Value)} {oc7 kV7 dc7 pm7 cd7 ct7 : Value}
    (a7 : PySem.W.nsIn K mainGlobals "remainder" = some (some (.ref f7))) (l7 : K.lookup f7 = some ⟨oc7, od7, .func (PySem.W.fnOf "remainder" "remainder" (defArgs s_remainder) (defBody s_remainder) (defScope s_remainder) .none kV7 dc7 pm7 an7 cd7 ct7), sl7⟩) (c7 : PySem.W.codeIn K cd7 "remainder" = true) (k7 : PySem.W.keepIn K (.ref f7) = true)
    {f8 : Addr} {od8 an8 : Option Addr} {sl8 : Array (Option Value)} {oc8 kV8 dc8 pm8 cd8 ct8 : Value}
    (a8 : PySem.W.nsIn K mainGlobals "common_divisor" = some (some (.ref f8))) (l8 : K.lookup f8 = some ⟨oc8, od8, .func (PySem.W.fnOf "common_divisor" "common_divisor" (defArgs s_common_divisor) (defBody s_common_divisor) (defScope s_common_divisor) .none kV8 dc8 pm8 an8 cd8 ct8), sl8⟩) (c8 : PySem.W.codeIn K cd8 "common_divisor" = true) (k8 : PySem.W.keepIn K (.ref f8) = true)
    {f9 : Addr} {od9 an9 : Option Addr} {sl9 : Array (Option Value)} {oc9 kV9 dc9 pm9 cd9 ct9 : Value}
    (a9 : PySem.W.nsIn K mainGlobals "_law_source" = some (some (.ref f9))) (l9 : K.lookup f9 = some ⟨oc9, od9, .func (PySem.W.fnOf "_law_source" "_law_source" (defArgs s_l_source) (defBody s_l_source) (defScope s_l_source) .none kV9 dc9 pm9 an9 cd9 ct9), sl9⟩) (c9 : PySem.W.codeIn K cd9 "_law_source" = true) (k9 : PySem.W.keepIn K (.ref f9) = true)
    {f10 : Addr} {od10 an10 : Option Addr} {sl10 : Array (Option Value)} {oc10 kV10 dc10 pm10 cd10 ct10 : Value}
    (a10 : PySem.W.nsIn K mainGlobals "_law_draw" = some (some (.ref f10))) (l10 : K.lookup f10 = some ⟨oc10, od10, .func (PySem.W.fnOf "_law_draw" "_law_draw" (defArgs s_l_draw) (defBody s_l_draw) (defScope s_l_draw) .none kV10 dc10 pm10 an10 cd10 ct10), sl10⟩) (c10 : PySem.W.codeIn K cd10 "_law_draw" = true) (k10 : PySem.W.keepIn K (.ref f10) = true)
    {f11 : Addr} {od11 an11 : Option Addr} {sl11 : Array (Option Value)} {oc11 kV11 dc11 pm11 cd11 ct11 : Value}
    (a11 : PySem.W.nsIn K mainGlobals "_law_choice" = some (some (.ref f11))) (l11 : K.lookup f11 = some ⟨oc11, od11, .func (PySem.W.fnOf "_law_choice" "_law_choice" (defArgs s_l_choice) (defBody s_l_choice) (defScope s_l_choice) .none kV11 dc11 pm11 an11 cd11 ct11), sl11⟩) (c11 : PySem.W.codeIn K cd11 "_law_choice" = true) (k11 : PySem.W.keepIn K (.ref f11) = true)
    {f12 : Addr} {od12 an12 : Option Addr} {sl12 : Array (Option Value)} {oc12 kV12 dc12 pm12 cd12 ct12 : Value}
    (a12 : PySem.W.nsIn K mainGlobals "_law_equal" = some (some (.ref f12))) (l12 : K.lookup f12 = some ⟨oc12, od12, .func (PySem.W.fnOf "_law_equal" "_law_equal" (defArgs s_l_equal) (defBody s_l_equal) (defScope s_l_equal) .none kV12 dc12 pm12 an12 cd12 ct12), sl12⟩) (c12 : PySem.W.codeIn K cd12 "_law_equal" = true) (k12 : PySem.W.keepIn K (.ref f12) = true)
    {f13 : Addr} {od13 an13 : Option Addr} {sl13 : Array (Option Value)} {oc13 kV13 dc13 pm13 cd13 ct13 : Value}
    (a13 : PySem.W.nsIn K mainGlobals "_law_divisor" = some (some (.ref f13))) (l13 : K.lookup f13 = some ⟨oc13, od13, .func (PySem.W.fnOf "_law_divisor" "_law_divisor" (defArgs s_l_divisor) (defBody s_l_divisor) (defScope s_l_divisor) .none kV13 dc13 pm13 an13 cd13 ct13), sl13⟩) (c13 : PySem.W.codeIn K cd13 "_law_divisor" = true) (k13 : PySem.W.keepIn K (.ref f13) = true)
    {f14 : Addr} {od14 an14 : Option Addr} {sl14 : Array (Option Value)} {oc14 kV14 dc14 pm14 cd14 ct14 : Value}
    (a14 : PySem.W.nsIn K mainGlobals "_law_reduce" = some (some (.ref f14))) (l14 : K.lookup f14 = some ⟨oc14, od14, .func (PySem.W.fnOf "_law_reduce" "_law_reduce" (defArgs s_l_reduce) (defBody s_l_reduce) (defScope s_l_reduce) .none kV14 dc14 pm14 an14 cd14 ct14), sl14⟩) (c14 : PySem.W.codeIn K cd14 "_law_reduce" = true) (k14 : PySem.W.keepIn K (.ref f14) = true)
    {f15 : Addr} {od15 an15 : Option Addr} {sl15 : Array (Option Value)} {oc15 kV15 dc15 pm15 cd15 ct15 : Value}
    (a15 : PySem.W.nsIn K mainGlobals "_law_subtract" = some (some (.ref f15))) (l15 : K.lookup f15 = some ⟨oc15, od15, .func (PySem.W.fnOf "_law_subtract" "_law_subtract" (defArgs s_l_subtract) (defBody s_l_subtract) (defScope s_l_subtract) .none kV15 dc15 pm15 an15 cd15 ct15), sl15⟩) (c15 : PySem.W.codeIn K cd15 "_law_subtract" = true) (k15 : PySem.W.keepIn K (.ref f15) = true)
    {f16 : Addr} {od16 an16 : Option Addr} {sl16 : Array (Option Value)} {oc16 kV16 dc16 pm16 cd16 ct16 : Value}
    (a16 : PySem.W.nsIn K mainGlobals "_law_divide" = some (some (.ref f16))) (l16 : K.lookup f16 = some ⟨oc16, od16, .func (PySem.W.fnOf "_law_divide" "_law_divide" (defArgs s_l_divide) (defBody s_l_divide) (defScope s_l_divide) .none kV16 dc16 pm16 an16 cd16 ct16), sl16⟩) (c16 : PySem.W.codeIn K cd16 "_law_divide" = true) (k16 : PySem.W.keepIn K (.ref f16) = true)
    {f17 : Addr} {od17 an17 : Option Addr} {sl17 : Array (Option Value)} {oc17 kV17 dc17 pm17 cd17 ct17 : Value}
    (a17 : PySem.W.nsIn K mainGlobals "_law_less" = some (some (.ref f17))) (l17 : K.lookup f17 = some ⟨oc17, od17, .func (PySem.W.fnOf "_law_less" "_law_less" (defArgs s_l_less) (defBody s_l_less) (defScope s_l_less) .none kV17 dc17 pm17 an17 cd17 ct17), sl17⟩) (c17 : PySem.W.codeIn K cd17 "_law_less" = true) (k17 : PySem.W.keepIn K (.ref f17) = true)
    {f18 : Addr} {od18 an18 : Option Addr} {sl18 : Array (Option Value)} {oc18 kV18 dc18 pm18 cd18 ct18 : Value}
    (a18 : PySem.W.nsIn K mainGlobals "_law_times" = some (some (.ref f18))) (l18 : K.lookup f18 = some ⟨oc18, od18, .func (PySem.W.fnOf "_law_times" "_law_times" (defArgs s_l_times) (defBody s_l_times) (defScope s_l_times) .none kV18 dc18 pm18 an18 cd18 ct18), sl18⟩) (c18 : PySem.W.codeIn K cd18 "_law_times" = true) (k18 : PySem.W.keepIn K (.ref f18) = true)
    {f19 : Addr} {od19 an19 : Option Addr} {sl19 : Array (Option Value)} {oc19 kV19 dc19 pm19 cd19 ct19 : Value}
    (a19 : PySem.W.nsIn K mainGlobals "_law_floor" = some (some (.ref f19))) (l19 : K.lookup f19 = some ⟨oc19, od19, .func (PySem.W.fnOf "_law_floor" "_law_floor" (defArgs s_l_floor) (defBody s_l_floor) (defScope s_l_floor) .none kV19 dc19 pm19 an19 cd19 ct19), sl19⟩) (c19 : PySem.W.codeIn K cd19 "_law_floor" = true) (k19 : PySem.W.keepIn K (.ref f19) = true)
    {f20 : Addr} {od20 an20 : Option Addr} {sl20 : Array (Option Value)} {oc20 kV20 dc20 pm20 cd20 ct20 : Value}
    (a20 : PySem.W.nsIn K mainGlobals "_law_rest" = some (some (.ref f20))) (l20 : K.lookup f20 = some ⟨oc20, od20, .func (PySem.W.fnOf "_law_rest" "_law_rest" (defArgs s_l_rest) (defBody s_l_rest) (defScope s_l_rest) .none kV20 dc20 pm20 an20 cd20 ct20), sl20⟩) (c20 : PySem.W.codeIn K cd20 "_law_rest" = true) (k20 : PySem.W.keepIn K (.ref f20) = true)
    {f21 : Addr} {od21 an21 : Option Addr} {sl21 : Array (Option Value)} {oc21 kV21 dc21 pm21 cd21 ct21 : Value}
    (a21 : PySem.W.nsIn K mainGlobals "_law_common" = some (some (.ref f21))) (l21 : K.lookup f21 = some ⟨oc21, od21, .func (PySem.W.fnOf "_law_common" "_law_common" (defArgs s_l_common) (defBody s_l_common) (defScope s_l_common) .none kV21 dc21 pm21 an21 cd21 ct21), sl21⟩) (c21 : PySem.W.codeIn K cd21 "_law_common" = true) (k21 : PySem.W.keepIn K (.ref f21) = true)
    {f22 : Addr} {od22 an22 : Option Addr} {sl22 : Array (Option Value)} {oc22 kV22 dc22 pm22 cd22 ct22 : Value}
    (a22 : PySem.W.nsIn K mainGlobals "_law_small" = some (some (.ref f22))) (l22 : K.lookup f22 = some ⟨oc22, od22, .func (PySem.W.fnOf "_law_small" "_law_small" (defArgs s_l_small) (defBody s_l_small) (defScope s_l_small) .none kV22 dc22 pm22 an22 cd22 ct22), sl22⟩) (c22 : PySem.W.codeIn K cd22 "_law_small" = true) (k22 : PySem.W.keepIn K (.ref f22) = true)
    {f23 : Addr} {od23 an23 : Option Addr} {sl23 : Array (Option Value)} {oc23 kV23 dc23 pm23 cd23 ct23 : Value}
    (a23 : PySem.W.nsIn K mainGlobals "_law_wide" = some (some (.ref f23))) (l23 : K.lookup f23 = some ⟨oc23, od23, .func (PySem.W.fnOf "_law_wide" "_law_wide" (defArgs s_l_wide) (defBody s_l_wide) (defScope s_l_wide) .none kV23 dc23 pm23 an23 cd23 ct23), sl23⟩) (c23 : PySem.W.codeIn K cd23 "_law_wide" = true) (k23 : PySem.W.keepIn K (.ref f23) = true)
    {f24 : Addr} {od24 an24 : Option Addr} {sl24 : Array (Option Value)} {oc24 kV24 dc24 pm24 cd24 ct24 : Value}
    (a24 : PySem.W.nsIn K mainGlobals "_law_positive" = some (some (.ref f24))) (l24 : K.lookup f24 = some ⟨oc24, od24, .func (PySem.W.fnOf "_law_positive" "_law_positive" (defArgs s_l_positive) (defBody s_l_positive) (defScope s_l_positive) .none kV24 dc24 pm24 an24 cd24 ct24), sl24⟩) (c24 : PySem.W.codeIn K cd24 "_law_positive" = true) (k24 : PySem.W.keepIn K (.ref f24) = true)
    {f25 : Addr} {od25 an25 : Option Addr} {sl25 : Array (Option Value)} {oc25 kV25 dc25 pm25 cd25 ct25 : Value}
    (a25 : PySem.W.nsIn K mainGlobals "law" = some (some (.ref f25))) (l25 : K.lookup f25 = some ⟨oc25, od25, .func (PySem.W.fnOf "law" "law" (defArgs s_law) (defBody s_law) (defScope s_law) .none kV25 dc25 pm25 an25 cd25 ct25), sl25⟩) (c25 : PySem.W.codeIn K cd25 "law" = true) (k25 : PySem.W.keepIn K (.ref f25) = true)
    (z0 : PySem.W.nsIn K mainGlobals "abs" = some none)
    (z1 : PySem.W.nsIn K mainGlobals "len" = some none)
    (z2 : PySem.W.nsIn K mainGlobals "list" = some none)
    (z3 : PySem.W.nsIn K mainGlobals "isinstance" = some none)
    (z4 : PySem.W.nsIn K mainGlobals "tuple" = some none)
    (z5 : PySem.W.nsIn K mainGlobals "all" = some none)
    (z6 : PySem.W.nsIn K mainGlobals "zip" = some none)
    (z7 : PySem.W.nsIn K mainGlobals "bool" = some none)
    (z8 : PySem.W.nsIn K mainGlobals "int" = some none)
    (z9 : PySem.W.nsIn K mainGlobals "str" = some none)
    (z10 : PySem.W.nsIn K mainGlobals "range" = some none)
    : ∃ fd : FuncData, (∀ (s : Shared) (v : Value), BindsTo s fd ⟨[v], []⟩ [("_law_script", v)]) ∧ ∀ base : Heap, K.In base → base.Ns mainGlobals mg → FnOk l.prog w K mg base CX0 8 fa fd ["_law_script"] (spLaw K) := by
  have e := hfa.symm.trans (PySem.W.mg_of X G a25)
  cases e
  have F0 := fun_mk (st := s_gcd) l0 c0 k0
  have b0 := F0.binds (ps := ["one", "other"]) fun _ _ _ _ _ _ us hl => match us, hl with | [_, _], _ => rfl
  have F1 : FunD K "fraction" "fraction" (defArgs s_fraction) (defBody s_fraction) (defScope s_fraction) [.int 1] [] f1 _ := ⟨⟨_, _, _, _, _, _, _, _, _, _, rfl, l1, c1, .inr ⟨by simp, _, _, _, _, rfl, t1, rfl, .cons ⟨_, rfl⟩ (.nil)⟩, .inl rfl⟩, k1⟩
  obtain ⟨ds1, vd1, b1⟩ := F1.binds1 (ps := ["num", "den"]) 2 1 (by simp) (by decide) (fun T kV dc pm an cd ct us its h1 h2 => match us, h1, its, h2 with | [_, _], _, [_], _ => ⟨_, rfl, rfl⟩)
  cases vd1
  have F2 := fun_mk (st := s_subtract) l2 c2 k2
  have b2 := F2.binds (ps := ["one", "other"]) fun _ _ _ _ _ _ us hl => match us, hl with | [_, _], _ => rfl
  have F3 := fun_mk (st := s_multiply) l3 c3 k3
  have b3 := F3.binds (ps := ["one", "other"]) fun _ _ _ _ _ _ us hl => match us, hl with | [_, _], _ => rfl
  have F4 := fun_mk (st := s_divide) l4 c4 k4
  have b4 := F4.binds (ps := ["one", "other"]) fun _ _ _ _ _ _ us hl => match us, hl with | [_, _], _ => rfl
  have F5 := fun_mk (st := s_floor_of) l5 c5 k5
  have b5 := F5.binds (ps := ["one"]) fun _ _ _ _ _ _ us hl => match us, hl with | [_], _ => rfl
  have F6 := fun_mk (st := s_ceiling_of) l6 c6 k6
  have b6 := F6.binds (ps := ["one"]) fun _ _ _ _ _ _ us hl => match us, hl with | [_], _ => rfl
  have F7 := fun_mk (st := s_remainder) l7 c7 k7
  have b7 := F7.binds (ps := ["one", "period"]) fun _ _ _ _ _ _ us hl => match us, hl with | [_, _], _ => rfl
  have F8 := fun_mk (st := s_common_divisor) l8 c8 k8
  have b8 := F8.binds (ps := ["one", "other"]) fun _ _ _ _ _ _ us hl => match us, hl with | [_, _], _ => rfl
  have F9 := fun_mk (st := s_l_source) l9 c9 k9
  have b9 := F9.binds (ps := ["_law_script"]) fun _ _ _ _ _ _ us hl => match us, hl with | [_], _ => rfl
  have F10 := fun_mk (st := s_l_draw) l10 c10 k10
  have b10 := F10.binds (ps := ["_law_rng", "_law_many"]) fun _ _ _ _ _ _ us hl => match us, hl with | [_, _], _ => rfl
  have F11 := fun_mk (st := s_l_choice) l11 c11 k11
  have b11 := F11.binds (ps := ["_law_rng", "_law_some"]) fun _ _ _ _ _ _ us hl => match us, hl with | [_, _], _ => rfl
  have F12 := fun_mk (st := s_l_equal) l12 c12 k12
  have b12 := F12.binds (ps := ["_law_result", "_law_expected"]) fun _ _ _ _ _ _ us hl => match us, hl with | [_, _], _ => rfl
  have F13 := fun_mk (st := s_l_divisor) l13 c13 k13
  have b13 := F13.binds (ps := ["_law_one", "_law_other"]) fun _ _ _ _ _ _ us hl => match us, hl with | [_, _], _ => rfl
  have F14 := fun_mk (st := s_l_reduce) l14 c14 k14
  have b14 := F14.binds (ps := ["_law_num", "_law_den"]) fun _ _ _ _ _ _ us hl => match us, hl with | [_, _], _ => rfl
  have F15 := fun_mk (st := s_l_subtract) l15 c15 k15
  have b15 := F15.binds (ps := ["_law_one", "_law_other"]) fun _ _ _ _ _ _ us hl => match us, hl with | [_, _], _ => rfl
  have F16 := fun_mk (st := s_l_divide) l16 c16 k16
  have b16 := F16.binds (ps := ["_law_one", "_law_other"]) fun _ _ _ _ _ _ us hl => match us, hl with | [_, _], _ => rfl
  have F17 := fun_mk (st := s_l_less) l17 c17 k17
  have b17 := F17.binds (ps := ["_law_one", "_law_other"]) fun _ _ _ _ _ _ us hl => match us, hl with | [_, _], _ => rfl
  have F18 := fun_mk (st := s_l_times) l18 c18 k18
  have b18 := F18.binds (ps := ["_law_number", "_law_one"]) fun _ _ _ _ _ _ us hl => match us, hl with | [_, _], _ => rfl
  have F19 := fun_mk (st := s_l_floor) l19 c19 k19
  have b19 := F19.binds (ps := ["_law_one"]) fun _ _ _ _ _ _ us hl => match us, hl with | [_], _ => rfl
  have F20 := fun_mk (st := s_l_rest) l20 c20 k20
  have b20 := F20.binds (ps := ["_law_one", "_law_period"]) fun _ _ _ _ _ _ us hl => match us, hl with | [_, _], _ => rfl
  have F21 := fun_mk (st := s_l_common) l21 c21 k21
  have b21 := F21.binds (ps := ["_law_one", "_law_other"]) fun _ _ _ _ _ _ us hl => match us, hl with | [_, _], _ => rfl
  have F22 := fun_mk (st := s_l_small) l22 c22 k22
  have b22 := F22.binds (ps := ["_law_rng"]) fun _ _ _ _ _ _ us hl => match us, hl with | [_], _ => rfl
  have F23 := fun_mk (st := s_l_wide) l23 c23 k23
  have b23 := F23.binds (ps := ["_law_rng"]) fun _ _ _ _ _ _ us hl => match us, hl with | [_], _ => rfl
  have F24 := fun_mk (st := s_l_positive) l24 c24 k24
  have b24 := F24.binds (ps := ["_law_rng"]) fun _ _ _ _ _ _ us hl => match us, hl with | [_], _ => rfl
  have F25 := fun_mk (st := s_law) l25 c25 k25
  have b25 := F25.binds (ps := ["_law_script"]) fun _ _ _ _ _ _ us hl => match us, hl with | [_], _ => rfl
  exact ⟨PySem.W.fnOf "law" "law" (defArgs s_law) (defBody s_law) (defScope s_law) .none kV25 dc25 pm25 an25 cd25 ct25, fun s v => .of_eq rfl, fun base _ _ => ok_law ⟨_, _, F0, b0, PySem.W.mg_of X G a0, _, _, F1, b1, PySem.W.mg_of X G a1, _, _, F2, b2, PySem.W.mg_of X G a2, _, _, F3, b3, PySem.W.mg_of X G a3, _, _, F4, b4, PySem.W.mg_of X G a4, _, _, F5, b5, PySem.W.mg_of X G a5, _, _, F6, b6, PySem.W.mg_of X G a6, _, _, F7, b7, PySem.W.mg_of X G a7, _, _, F8, b8, PySem.W.mg_of X G a8, _, _, F9, b9, PySem.W.mg_of X G a9, _, _, F10, b10, PySem.W.mg_of X G a10, _, _, F11, b11, PySem.W.mg_of X G a11, _, _, F12, b12, PySem.W.mg_of X G a12, _, _, F13, b13, PySem.W.mg_of X G a13, _, _, F14, b14, PySem.W.mg_of X G a14, _, _, F15, b15, PySem.W.mg_of X G a15, _, _, F16, b16, PySem.W.mg_of X G a16, _, _, F17, b17, PySem.W.mg_of X G a17, _, _, F18, b18, PySem.W.mg_of X G a18, _, _, F19, b19, PySem.W.mg_of X G a19, _, _, F20, b20, PySem.W.mg_of X G a20, _, _, F21, b21, PySem.W.mg_of X G a21, _, _, F22, b22, PySem.W.mg_of X G a22, _, _, F23, b23, PySem.W.mg_of X G a23, _, _, F24, b24, PySem.W.mg_of X G a24, _, _, F25, b25, PySem.W.mg_of X G a25, PySem.W.mg_none_of X G z0, PySem.W.mg_none_of X G z1, PySem.W.mg_none_of X G z2, PySem.W.mg_none_of X G z3, PySem.W.mg_none_of X G z4, PySem.W.mg_none_of X G z5, PySem.W.mg_none_of X G z6, PySem.W.mg_none_of X G z7, PySem.W.mg_none_of X G z8, PySem.W.mg_none_of X G z9, PySem.W.mg_none_of X G z10⟩⟩
end EP
open PySem PySem.W PyProof.Rows
set_option maxHeartbeats 0 in
theorem PySem.Challenge.cw_evenpace_k02_floors_and_remainders_holds : PySem.Challenge.rw_evenpace_k02_floors_and_remainders.Holds := by
  w_on; o_law; k_head; (case hw => w_witness2)
  k_fill
  refine L2.walk_of (l := PySem.Challenge.rw_evenpace_k02_floors_and_remainders) (n := 63) (k := 8) (x := "_law_script") (CX := fun _ => L2.CX0) (sp := fun w => EP.spLaw _) rfl (by decide) rfl ⟨rfl, by decide, by decide⟩ (fun w h Y => PySem.W.kIn_of Y) ?F (fun _ _ a ns hl _ hS => ⟨a, ns, rfl, hS, hl, fun _ => rfl⟩) (fun _ _ _ _ _ h => h)
  case F =>
    intro w mg fa h KX G hmg
    refine' EP.all_mk KX G hmg ?a0 ?l0 ?c0 ?k0 ?a1 ?l1 ?c1 ?k1 ?t1 ?a2 ?l2 ?c2 ?k2 ?a3 ?l3 ?c3 ?k3 ?a4 ?l4 ?c4 ?k4 ?a5 ?l5 ?c5 ?k5 ?a6 ?l6 ?c6 ?k6 ?a7 ?l7 ?c7 ?k7 ?a8 ?l8 ?c8 ?k8 ?a9 ?l9 ?c9 ?k9 ?a10 ?l10 ?c10 ?k10 ?a11 ?l11 ?c11 ?k11 ?a12 ?l12 ?c12 ?k12 ?a13 ?l13 ?c13 ?k13 ?a14 ?l14 ?c14 ?k14 ?a15 ?l15 ?c15 ?k15 ?a16 ?l16 ?c16 ?k16 ?a17 ?l17 ?c17 ?k17 ?a18 ?l18 ?c18 ?k18 ?a19 ?l19 ?c19 ?k19 ?a20 ?l20 ?c20 ?k20 ?a21 ?l21 ?c21 ?k21 ?a22 ?l22 ?c22 ?k22 ?a23 ?l23 ?c23 ?k23 ?a24 ?l24 ?c24 ?k24 ?a25 ?l25 ?c25 ?k25 ?z0 ?z1 ?z2 ?z3 ?z4 ?z5 ?z6 ?z7 ?z8 ?z9 ?z10
    (case a0 => k_is)
    (case l0 => k_is)
    (case c0 => k_is)
    (case k0 => k_is)
    (case a1 => k_is)
    (case l1 => k_is)
    (case c1 => k_is)
    (case k1 => k_is)
    (case t1 => k_is)
    (case a2 => k_is)
    (case l2 => k_is)
    (case c2 => k_is)
    (case k2 => k_is)
    (case a3 => k_is)
    (case l3 => k_is)
    (case c3 => k_is)
    (case k3 => k_is)
    (case a4 => k_is)
    (case l4 => k_is)
    (case c4 => k_is)
    (case k4 => k_is)
    (case a5 => k_is)
    (case l5 => k_is)
    (case c5 => k_is)
    (case k5 => k_is)
    (case a6 => k_is)
    (case l6 => k_is)
    (case c6 => k_is)
    (case k6 => k_is)
    (case a7 => k_is)
    (case l7 => k_is)
    (case c7 => k_is)
    (case k7 => k_is)
    (case a8 => k_is)
    (case l8 => k_is)
    (case c8 => k_is)
    (case k8 => k_is)
    (case a9 => k_is)
    (case l9 => k_is)
    (case c9 => k_is)
    (case k9 => k_is)
    (case a10 => k_is)
    (case l10 => k_is)
    (case c10 => k_is)
    (case k10 => k_is)
    (case a11 => k_is)
    (case l11 => k_is)
    (case c11 => k_is)
    (case k11 => k_is)
    (case a12 => k_is)
    (case l12 => k_is)
    (case c12 => k_is)
    (case k12 => k_is)
    (case a13 => k_is)
    (case l13 => k_is)
    (case c13 => k_is)
    (case k13 => k_is)
    (case a14 => k_is)
    (case l14 => k_is)
    (case c14 => k_is)
    (case k14 => k_is)
    (case a15 => k_is)
    (case l15 => k_is)
    (case c15 => k_is)
    (case k15 => k_is)
    (case a16 => k_is)
    (case l16 => k_is)
    (case c16 => k_is)
    (case k16 => k_is)
    (case a17 => k_is)
    (case l17 => k_is)
    (case c17 => k_is)
    (case k17 => k_is)
    (case a18 => k_is)
    (case l18 => k_is)
    (case c18 => k_is)
    (case k18 => k_is)
    (case a19 => k_is)
    (case l19 => k_is)
    (case c19 => k_is)
    (case k19 => k_is)
    (case a20 => k_is)
    (case l20 => k_is)
    (case c20 => k_is)
    (case k20 => k_is)
    (case a21 => k_is)
    (case l21 => k_is)
    (case c21 => k_is)
    (case k21 => k_is)
    (case a22 => k_is)
    (case l22 => k_is)
    (case c22 => k_is)
    (case k22 => k_is)
    (case a23 => k_is)
    (case l23 => k_is)
    (case c23 => k_is)
    (case k23 => k_is)
    (case a24 => k_is)
    (case l24 => k_is)
    (case c24 => k_is)
    (case k24 => k_is)
    (case a25 => k_is)
    (case l25 => k_is)
    (case c25 => k_is)
    (case k25 => k_is)
    (case z0 => k_is)
    (case z1 => k_is)
    (case z2 => k_is)
    (case z3 => k_is)
    (case z4 => k_is)
    (case z5 => k_is)
    (case z6 => k_is)
    (case z7 => k_is)
    (case z8 => k_is)
    (case z9 => k_is)
    (case z10 => k_is)
