import PyProof.Rows.All
import Wide.All
import OpenK.AllK
import Wide.FinOn
import HandS.ForMost
import HandS.Wide
import HandS.IsInst
import HandS.Zip
import HandS.Walk
import HandS.Flow
import HandS.Evl
import HandS.Defaults
import HandS.NoneIn
import PySem.Challenge.RW_evenpace_k07_whole_great_sums_of_floors
set_option Elab.async false
set_option linter.all false
set_option maxRecDepth 100000
set_option autoImplicit false
namespace EP
open PySem PySem.Spec PyProof.Rows L2
/-! ### wide floor division by a divisor of either sign -/
def CDivZ (_ j : Int) : Prop := j ≠ 0 ∧ j.natAbs.log2 < 9000
theorem op_fdivZ {X : Cx} : OpR X (binaryOp .FloorDiv) (rI CDivZ fun i j => .int (i.fdiv j)) := opI fun _ _ _ _ _ _ _ hc q => floordiv_int hc.1 q (.inl (PyProof.noPylong_of_log2 hc.2))
/-! ### heaps -/
def Gw (r : Addr) (H H' : Hp) : Prop := ∀ a o, a ≠ r → H a = some o → H' a = some o
def RngL (L : Addr) (H : Hp) (r : Addr) : Prop := ∃ (ns : List Int) (i c s : Int), H r = some (.lst [.ref L, .int i, .int c, .int s]) ∧ H L = some (.lst (ns.map V.int)) ∧ L ≠ r ∧ 0 ≤ i ∧ ns.length < 100 ∧ 0 ≤ c ∧ 0 ≤ s ∧ s < 2147483563
def Rng (H : Hp) (r : Addr) : Prop := ∃ L, RngL L H r
/-- from H to H' only the generator at r changed; new things may have come -/
structure Mo (r : Addr) (H H' : Hp) : Prop where
  g : Gw r H H'
  a : Rng H r
  l : ∀ L, RngL L H r → RngL L H' r
theorem Mo.b {r : Addr} {H H' : Hp} (m : Mo r H H') : Rng H' r := by
  obtain ⟨L, h⟩ := m.a
  exact ⟨L, m.l L h⟩
theorem RngL.same {L : Addr} {H H' : Hp} {r : Addr} (h : RngL L H r) (s : Same H H') : RngL L H' r := by
  obtain ⟨ns, i, c, sd, h1, h2, h3⟩ := h
  exact ⟨ns, i, c, sd, s _ _ h1, s _ _ h2, h3⟩
theorem Rng.same {H H' : Hp} {r : Addr} (h : Rng H r) (s : Same H H') : Rng H' r := by
  obtain ⟨L, h⟩ := h
  exact ⟨L, h.same s⟩
theorem Mo.same {H H' : Hp} {r : Addr} (h : Rng H r) (s : Same H H') : Mo r H H' := ⟨fun a o _ e => s a o e, h, fun _ h => h.same s⟩
theorem Mo.refl {H : Hp} {r : Addr} (h : Rng H r) : Mo r H H := ⟨fun a o _ e => e, h, fun _ h => h⟩
theorem Mo.trans {H H1 H2 : Hp} {r : Addr} (x : Mo r H H1) (y : Mo r H1 H2) : Mo r H H2 := ⟨fun a o n e => y.g a o n (x.g a o n e), x.a, fun L h => y.l L (x.l L h)⟩
/-- what is new since H may change -/
theorem Mo.mut {r D : Addr} {H H' : Hp} {o : HO} (m : Mo r H H') (n : H D = none) : Mo r H (upd H' D o) := by
  refine ⟨fun a u ha e => ?_, m.a, fun L h => ?_⟩
  · rw [upd_ne (ne_of_none e n)]; exact m.g a u ha e
  · obtain ⟨_, _, _, _, e1, e2, _⟩ := id h
    obtain ⟨ns, i, c, sd, h1, h2, h3⟩ := m.l L h
    refine ⟨ns, i, c, sd, ?_, ?_, h3⟩
    · rw [upd_ne (ne_of_none e1 n)]; exact h1
    · rw [upd_ne (ne_of_none e2 n)]; exact h2
theorem same_upd {H : Hp} {p : Addr} {o : HO} (h : H p = none) : Same H (upd H p o) := fun b x e => by
  rw [upd_ne (ne_of_none e h)]
  exact e
theorem Mo.new {H : Hp} {r p : Addr} {o : HO} (h : Rng H r) (n : H p = none) : Mo r H (upd H p o) := .same h (same_upd n)
theorem sqt_mo {K : PySem.W.Frag} {H H' : Hp} {r a : Addr} {xs : List V} (m : Mo r H H') (h : SqT K H a xs) : SqT K H' a xs := by
  rcases h with h | h
  · left
    obtain ⟨L, ns, i, c, sd, h1, _⟩ := m.a
    rcases h with h | ⟨o, h⟩
    · refine .inl (m.g a _ (fun e => ?_) h)
      subst e; rw [h1] at h; cases h
    · refine .inr ⟨o, m.g a _ (fun e => ?_) h⟩
      subst e; rw [h1] at h; cases h
  · exact .inr h
theorem sql_mo {K : PySem.W.Frag} {H H' : Hp} {r a : Addr} {xs : List V} (m : Mo r H H') (n : a ≠ r) (h : SqL K H a xs) : SqL K H' a xs := by
  rcases h with h | h
  · left
    rcases h with h | ⟨o, h⟩
    · exact .inl (m.g a _ n h)
    · exact .inr ⟨o, m.g a _ n h⟩
  · exact .inr h
/-! ### fractions -/
def Fr (K : PySem.W.Frag) (H : Hp) (v : V) (a b : Int) : Prop := ∃ p, v = .ref p ∧ SqT K H p [.int a, .int b]
theorem Fr.mo {K : PySem.W.Frag} {H H' : Hp} {r : Addr} {v : V} {a b : Int} (h : Fr K H v a b) (m : Mo r H H') : Fr K H' v a b := by
  obtain ⟨p, e, h⟩ := h
  exact ⟨p, e, sqt_mo m h⟩
theorem Fr.same {K : PySem.W.Frag} {H H' : Hp} {v : V} {a b : Int} (h : Fr K H v a b) (m : Same H H') : Fr K H' v a b := by
  obtain ⟨p, e, h⟩ := h
  exact ⟨p, e, Evl.ex_t m h⟩
theorem sizeLine2 {n : Nat} (h : n ≤ 1000) : n ≤ sizeLine := Nat.le_trans h (by decide)
end EP
namespace EP
open PySem PySem.Spec PyProof.Rows L2
/-! ### tests -/
theorem brI {p A B : Prop} [Decidable p] (h1 : p → A) (h2 : ¬ p → B) : if decide p = true then A else B := by
  by_cases h : p
  · rw [if_pos (decide_eq_true h)]; exact h1 h
  · rw [if_neg (by simpa using h)]; exact h2 h
theorem brEq {i j : Int} {A B : Prop} (h1 : i = j → A) (h2 : i ≠ j → B) : if decide (V.int i = V.int j) = true then A else B :=
  brI (fun h => h1 (V.int.inj h)) (fun h => h2 fun e => h (by rw [e]))
theorem brNe {i j : Int} {A B : Prop} (h1 : i ≠ j → A) (h2 : i = j → B) : if (!decide (V.int i = V.int j)) = true then A else B := by
  by_cases h : i = j
  · subst h; rw [if_neg (by simp)]; exact h2 rfl
  · rw [if_pos (by simpa using h)]; exact h1 h
/-! ### items -/
theorem ix0 {x : V} {xs : List V} : atI (x :: xs) 0 = some x := atI_nat (j := 0) rfl
theorem ix1 {x y : V} {xs : List V} : atI (x :: y :: xs) 1 = some y := atI_nat (j := 1) rfl
theorem ix2 {x y z : V} {xs : List V} : atI (x :: y :: z :: xs) 2 = some z := atI_nat (j := 2) rfl
theorem ix3 {x y z u : V} {xs : List V} : atI (x :: y :: z :: u :: xs) 3 = some u := atI_nat (j := 3) rfl
/-! ### sizes -/
def B (n : Nat) (x : Int) : Prop := x.natAbs < 2 ^ n
theorem B.one : B 1 1 := by unfold B; decide
theorem B.mono {n m : Nat} {x : Int} (h : B n x) (l : n ≤ m := by decide) : B m x := Nat.lt_of_lt_of_le h (Nat.pow_le_pow_right (by decide) l)
theorem B.mul {n m : Nat} {x y : Int} (h : B n x) (k : B m y) : B (n + m) (x * y) := wide_lt h k
theorem B.add {n : Nat} {x y : Int} (h : B n x) (k : B n y) : B (n + 1) (x + y) := by
  unfold B at *
  rw [Nat.pow_succ]; omega
theorem B.sub {n : Nat} {x y : Int} (h : B n x) (k : B n y) : B (n + 1) (x - y) := by
  unfold B at *
  rw [Nat.pow_succ]; omega
theorem B.neg {n : Nat} {x : Int} (h : B n x) : B n (-x) := by unfold B at *; omega
theorem B.le {n : Nat} {x y : Int} (h : B n y) (k : x.natAbs ≤ y.natAbs) : B n x := Nat.lt_of_le_of_lt k h
theorem B.log {n : Nat} {x : Int} (h : B n x) (h0 : 0 < n := by decide) : x.natAbs.log2 < n := PySem.Flt.log2_lt_of h0 h
theorem cm {n m : Nat} {x y : Int} (h : B n x) (k : B m y) (h0 : 0 < n := by decide) (h1 : 0 < m := by decide) (l : n + m ≤ 1000000 := by decide) : CMulW x y := wide_mul h k h0 h1 l
theorem cdW {x y : Int} {n : Nat} (h : 0 < y) (k : B n y) (h0 : 0 < n := by decide) (l : n ≤ 9000 := by decide) : CDivW x y := wide_div h k h0 l
end EP

namespace EP
/-! ### the mathematics of fractions in lowest terms -/
def rn (n d : Int) : Int := (if d < 0 then -n else n) / (Int.gcd n d : Int)
def rd (n d : Int) : Int := (d.natAbs : Int) / (Int.gcd n d : Int)
theorem gcd_pos {n d : Int} (h : d ≠ 0) : 0 < Int.gcd n d := Int.gcd_pos_of_ne_zero_right n h
theorem rn_mul {n d : Int} : rn n d * (Int.gcd n d : Int) = if d < 0 then -n else n := by
  unfold rn
  refine Int.ediv_mul_cancel ?_
  split
  · exact Int.dvd_neg.mpr (Int.gcd_dvd_left ..)
  · exact Int.gcd_dvd_left ..
theorem rd_mul {n d : Int} : rd n d * (Int.gcd n d : Int) = (d.natAbs : Int) := by
  unfold rd
  exact Int.ediv_mul_cancel (Int.natCast_dvd_natCast.mpr (Nat.gcd_dvd_right ..))
theorem rd_pos {n d : Int} (h : d ≠ 0) : 0 < rd n d := by
  have h1 := rd_mul (n := n) (d := d)
  have h2 : 0 < (Int.gcd n d : Int) := by have := gcd_pos (n := n) h; omega
  have h3 : 0 < rd n d * (Int.gcd n d : Int) := by rw [h1]; omega
  exact Int.pos_of_mul_pos_left h3 h2
/-- the value is kept -/
theorem rn_rd {n d : Int} (h : d ≠ 0) : rn n d * d = n * rd n d := by
  have h1 := rn_mul (n := n) (d := d)
  have h2 := rd_mul (n := n) (d := d)
  have h3 : (Int.gcd n d : Int) ≠ 0 := by have := gcd_pos (n := n) h; omega
  refine Int.eq_of_mul_eq_mul_right h3 ?_
  rw [Int.mul_right_comm, h1, Int.mul_assoc, h2]
  split
  · rw [show (d.natAbs : Int) = -d by omega]; rw [Int.mul_neg, Int.neg_mul]
  · rw [show (d.natAbs : Int) = d by omega]
theorem gcd_le {n d : Int} (h : d ≠ 0) : (Int.gcd n d : Int).natAbs ≤ d.natAbs := by
  rw [Int.natAbs_natCast]
  exact Nat.le_of_dvd (by omega) (Nat.gcd_dvd_right ..)
theorem rn_abs {n d : Int} (h : d ≠ 0) : (rn n d).natAbs ≤ n.natAbs := by
  have h1 := congrArg Int.natAbs (rn_mul (n := n) (d := d))
  rw [Int.natAbs_mul, Int.natAbs_natCast] at h1
  have h2 := gcd_pos (n := n) h
  have h3 : (if d < 0 then -n else n).natAbs = n.natAbs := by split <;> omega
  rw [h3] at h1; rw [← h1]
  exact Nat.le_mul_of_pos_right _ h2
theorem rd_abs {n d : Int} (h : d ≠ 0) : (rd n d).natAbs ≤ d.natAbs := by
  have h1 := congrArg Int.natAbs (rd_mul (n := n) (d := d))
  rw [Int.natAbs_mul, Int.natAbs_natCast, Int.natAbs_natCast] at h1
  have h2 := gcd_pos (n := n) h
  rw [← h1]
  exact Nat.le_mul_of_pos_right _ h2
theorem B.rn {k : Nat} {n d : Int} (h : d ≠ 0) (b : B k n) : B k (rn n d) := b.le (rn_abs h)
theorem B.rd {k : Nat} {n d : Int} (h : d ≠ 0) (b : B k d) : B k (rd n d) := b.le (rd_abs h)
theorem fdiv_neg_exact {n g : Int} (hg : g ≠ 0) (h : g ∣ n) : n.fdiv (-g) = -n / g := by
  obtain ⟨c, rfl⟩ := h
  rw [show g * c = (-g) * (-c) by rw [Int.neg_mul_neg], Int.mul_fdiv_cancel_left _ (by omega), Int.neg_mul, Int.neg_neg, Int.mul_ediv_cancel_left _ hg]
theorem fdiv_exact {n g : Int} (hg : g ≠ 0) (h : g ∣ n) : n.fdiv g = n / g := by
  obtain ⟨c, rfl⟩ := h
  rw [Int.mul_fdiv_cancel_left _ hg, Int.mul_ediv_cancel_left _ hg]
end EP
namespace EP
open PySem PySem.Spec PyProof.Rows L2
theorem abs_nat (a : Int) : (if a < 0 then -a else a) = (a.natAbs : Int) := by split <;> omega
theorem gcd_step {x y : Int} (hx : 0 ≤ x) (hy : 0 < y) : Int.gcd y (x % y) = Int.gcd x y := by
  obtain ⟨a, rfl⟩ := Int.eq_ofNat_of_zero_le hx
  obtain ⟨b, rfl⟩ := Int.eq_ofNat_of_zero_le (Int.le_of_lt hy)
  show Nat.gcd (Int.natAbs (b : Int)) (Int.natAbs ((a : Int) % (b : Int))) = Nat.gcd (Int.natAbs (a : Int)) (Int.natAbs (b : Int))
  rw [← Int.natCast_emod]
  simp only [Int.natAbs_natCast]
  rw [Nat.gcd_comm a b, Nat.gcd_rec b a, Nat.gcd_comm]
theorem div_abs {x y : Int} (h : 0 < y) : (x / y).natAbs ≤ x.natAbs := by
  by_cases h0 : 0 ≤ x
  · have h1 := Int.ediv_nonneg h0 (Int.le_of_lt h)
    have h2 := Int.ediv_le_self y h0
    omega
  · have h1 : x ≤ x / y := by
      refine Int.le_ediv_of_mul_le h ?_
      have := Int.mul_le_mul_of_nonpos_left (a := x) (b := y) (c := 1) (by omega) (by omega)
      omega
    have h5 : x / y < 0 := Int.ediv_neg_of_neg_of_pos (by omega) h
    omega
/-! ### promises -/
def spGcd : Sp := fun vs H Q _ => ∃ a b : Int, vs = [.int a, .int b] ∧ Q (.int (Int.gcd a b)) H
def spRed (K : PySem.W.Frag) : Sp := fun vs H Q _ => ∃ n d : Int, vs = [.int n, .int d] ∧ d ≠ 0 ∧ B 8000 n ∧ B 8000 d ∧ ∀ v H', Same H H' → Fr K H' v (rn n d) (rd n d) → Q v H'
def spFF (K : PySem.W.Frag) (g : Int → Int → Int → Int → Int × Int) : Sp := fun vs H Q _ => ∃ (x y : V) (a b c d : Int), vs = [x, y] ∧ Fr K H x a b ∧ Fr K H y c d ∧ b ≠ 0 ∧ d ≠ 0 ∧ B 2000 a ∧ B 2000 b ∧ B 2000 c ∧ B 2000 d ∧ ∀ v H', Same H H' → Fr K H' v (g a b c d).1 (g a b c d).2 → Q v H'
def spFD (K : PySem.W.Frag) (g : Int → Int → Int → Int → Int × Int) : Sp := fun vs H Q _ => ∃ (x y : V) (a b c d : Int), vs = [x, y] ∧ Fr K H x a b ∧ Fr K H y c d ∧ b ≠ 0 ∧ c ≠ 0 ∧ B 2000 a ∧ B 2000 b ∧ B 2000 c ∧ B 2000 d ∧ ∀ v H', Same H H' → Fr K H' v (g a b c d).1 (g a b c d).2 → Q v H'
def spLess (K : PySem.W.Frag) : Sp := fun vs H Q _ => ∃ (x y : V) (a b c d : Int), vs = [x, y] ∧ Fr K H x a b ∧ Fr K H y c d ∧ B 2000 a ∧ B 2000 b ∧ B 2000 c ∧ B 2000 d ∧ Q (.bl (decide (a * d < c * b))) H
def spFloor (K : PySem.W.Frag) : Sp := fun vs H Q _ => ∃ (x : V) (a b : Int), vs = [x] ∧ Fr K H x a b ∧ 0 < b ∧ B 4000 b ∧ Q (.int (a / b)) H
def spCeil (K : PySem.W.Frag) : Sp := fun vs H Q _ => ∃ (x : V) (a b : Int), vs = [x] ∧ Fr K H x a b ∧ 0 < b ∧ B 4000 b ∧ Q (.int (-(-a / b))) H
def spTimes (K : PySem.W.Frag) : Sp := fun vs H Q _ => ∃ (n : Int) (x : V) (a b : Int), vs = [.int n, x] ∧ Fr K H x a b ∧ b ≠ 0 ∧ B 2000 n ∧ B 2000 a ∧ B 2000 b ∧ ∀ v H', Same H H' → Fr K H' v (rn (n * a) b) (rd (n * a) b) → Q v H'
/-- one minus the floor of one / period times the period -/
def remN (a b c d : Int) : Int × Int :=
  let t := rn (a * d) (b * c) / rd (a * d) (b * c)
  let n := rn (t * c) d
  let m := rd (t * c) d
  (rn (a * m - n * b) (b * m), rd (a * m - n * b) (b * m))
def spRem (K : PySem.W.Frag) : Sp := fun vs H Q _ => ∃ (x y : V) (a b c d : Int), vs = [x, y] ∧ Fr K H x a b ∧ Fr K H y c d ∧ 0 < b ∧ 0 < c ∧ 0 < d ∧ B 500 a ∧ B 500 b ∧ B 500 c ∧ B 500 d ∧ ∀ v H', Same H H' → Fr K H' v (remN a b c d).1 (remN a b c d).2 → Q v H'
end EP
namespace EP
open PySem PySem.Spec PyProof.Rows L2
def spSource (K : PySem.W.Frag) : Sp := fun vs H Q _ => ∃ (a : Addr) (ns : List Int), vs = [.ref a] ∧ SqL K H a (ns.map V.int) ∧ ns.length ≤ 63 ∧ ∀ r H', Same H H' → Rng H' r → Q (.ref r) H'
def spDraw : Sp := fun vs H Q _ => ∃ (r : Addr) (m : Int), vs = [.ref r, .int m] ∧ 0 < m ∧ B 2000 m ∧ Rng H r ∧ ∀ x H', 0 ≤ x → x < m → Mo r H H' → Q (.int x) H'
def spChoice (K : PySem.W.Frag) : Sp := fun vs H Q _ => ∃ (r l : Addr) (xs : List V), vs = [.ref r, .ref l] ∧ SqL K H l xs ∧ l ≠ r ∧ 0 < xs.length ∧ xs.length < 1000 ∧ Rng H r ∧ ∀ x H', x ∈ xs → Mo r H H' → Q x H'
end EP
namespace EP
open PySem PySem.Spec PyProof.Rows L2
theorem seq_by {t u : TS} {D : Ends} {σ : L2.St} {H : Hp} (C : L2.St → Hp → Prop) (h2 : ∀ σ' H', C σ' H' → u D σ' H') (h1 : (∀ σ' H', C σ' H' → u D σ' H') → t { D with nx := u D } σ H) : tSeq t u D σ H := h1 h2
end EP
namespace EP
open PySem PySem.Spec PyProof.Rows L2
mutual
def dep : PyData → Nat
  | .list xs => deps xs + 1
  | .tuple xs => deps xs + 1
  | _ => 0
def deps : List PyData → Nat
  | [] => 0
  | x :: xs => max (dep x) (deps xs)
end
mutual
def wd : PyData → Nat
  | .list xs => max xs.length (wds xs)
  | .tuple xs => max xs.length (wds xs)
  | _ => 0
def wds : List PyData → Nat
  | [] => 0
  | x :: xs => max (wd x) (wds xs)
end
theorem wds_get : ∀ {ds : List PyData} {i : Nat} {d : PyData}, ds[i]? = some d → wd d ≤ wds ds
  | [], i, _, e => by simp at e
  | x :: xs, 0, _, e => by cases Option.some.inj e; unfold wds; omega
  | x :: xs, i + 1, d, e => by have := wds_get (ds := xs) (i := i) e; unfold wds; omega
def spEqual (K : PySem.W.Frag) (n : Nat) : Sp := fun vs H Q _ => ∃ (x y : V) (d : PyData), vs = [x, y] ∧ Dp K H x d ∧ Dp K H y d ∧ dep d < n ∧ wd d < 1000000 ∧ ∀ H', Same H H' → Q (.bl true) H'
end EP
namespace EP
open PySem PySem.Spec PyProof.Rows L2
theorem kt_bool_bool {K : PySem.W.Frag} : PySem.W.kitOne K (.type "bool") (.type "bool") = some true := kit_ty (by decide +kernel)
theorem kt_bool_int {K : PySem.W.Frag} : PySem.W.kitOne K (.type "bool") (.type "int") = some true := kit_ty (by decide +kernel)
theorem kt_bool_str {K : PySem.W.Frag} : PySem.W.kitOne K (.type "bool") (.type "str") = some false := kit_ty (by decide +kernel)
theorem kt_bool_list {K : PySem.W.Frag} : PySem.W.kitOne K (.type "bool") (.type "list") = some false := kit_ty (by decide +kernel)
theorem kt_bool_tuple {K : PySem.W.Frag} : PySem.W.kitOne K (.type "bool") (.type "tuple") = some false := kit_ty (by decide +kernel)
theorem kt_int_bool {K : PySem.W.Frag} : PySem.W.kitOne K (.type "int") (.type "bool") = some false := kit_ty (by decide +kernel)
theorem kt_int_int {K : PySem.W.Frag} : PySem.W.kitOne K (.type "int") (.type "int") = some true := kit_ty (by decide +kernel)
theorem kt_int_str {K : PySem.W.Frag} : PySem.W.kitOne K (.type "int") (.type "str") = some false := kit_ty (by decide +kernel)
theorem kt_int_list {K : PySem.W.Frag} : PySem.W.kitOne K (.type "int") (.type "list") = some false := kit_ty (by decide +kernel)
theorem kt_int_tuple {K : PySem.W.Frag} : PySem.W.kitOne K (.type "int") (.type "tuple") = some false := kit_ty (by decide +kernel)
theorem kt_str_bool {K : PySem.W.Frag} : PySem.W.kitOne K (.type "str") (.type "bool") = some false := kit_ty (by decide +kernel)
theorem kt_str_int {K : PySem.W.Frag} : PySem.W.kitOne K (.type "str") (.type "int") = some false := kit_ty (by decide +kernel)
theorem kt_str_str {K : PySem.W.Frag} : PySem.W.kitOne K (.type "str") (.type "str") = some true := kit_ty (by decide +kernel)
theorem kt_str_list {K : PySem.W.Frag} : PySem.W.kitOne K (.type "str") (.type "list") = some false := kit_ty (by decide +kernel)
theorem kt_str_tuple {K : PySem.W.Frag} : PySem.W.kitOne K (.type "str") (.type "tuple") = some false := kit_ty (by decide +kernel)
theorem kt_list_bool {K : PySem.W.Frag} : PySem.W.kitOne K (.type "list") (.type "bool") = some false := kit_ty (by decide +kernel)
theorem kt_list_int {K : PySem.W.Frag} : PySem.W.kitOne K (.type "list") (.type "int") = some false := kit_ty (by decide +kernel)
theorem kt_list_str {K : PySem.W.Frag} : PySem.W.kitOne K (.type "list") (.type "str") = some false := kit_ty (by decide +kernel)
theorem kt_list_list {K : PySem.W.Frag} : PySem.W.kitOne K (.type "list") (.type "list") = some true := kit_ty (by decide +kernel)
theorem kt_list_tuple {K : PySem.W.Frag} : PySem.W.kitOne K (.type "list") (.type "tuple") = some false := kit_ty (by decide +kernel)
theorem kt_tuple_bool {K : PySem.W.Frag} : PySem.W.kitOne K (.type "tuple") (.type "bool") = some false := kit_ty (by decide +kernel)
theorem kt_tuple_int {K : PySem.W.Frag} : PySem.W.kitOne K (.type "tuple") (.type "int") = some false := kit_ty (by decide +kernel)
theorem kt_tuple_str {K : PySem.W.Frag} : PySem.W.kitOne K (.type "tuple") (.type "str") = some false := kit_ty (by decide +kernel)
theorem kt_tuple_list {K : PySem.W.Frag} : PySem.W.kitOne K (.type "tuple") (.type "list") = some false := kit_ty (by decide +kernel)
theorem kt_tuple_tuple {K : PySem.W.Frag} : PySem.W.kitOne K (.type "tuple") (.type "tuple") = some true := kit_ty (by decide +kernel)
theorem kt_NoneType_bool {K : PySem.W.Frag} : PySem.W.kitOne K (.type "NoneType") (.type "bool") = some false := kit_ty (by decide +kernel)
theorem kt_NoneType_int {K : PySem.W.Frag} : PySem.W.kitOne K (.type "NoneType") (.type "int") = some false := kit_ty (by decide +kernel)
theorem kt_NoneType_str {K : PySem.W.Frag} : PySem.W.kitOne K (.type "NoneType") (.type "str") = some false := kit_ty (by decide +kernel)
theorem kt_NoneType_list {K : PySem.W.Frag} : PySem.W.kitOne K (.type "NoneType") (.type "list") = some false := kit_ty (by decide +kernel)
theorem kt_NoneType_tuple {K : PySem.W.Frag} : PySem.W.kitOne K (.type "NoneType") (.type "tuple") = some false := kit_ty (by decide +kernel)
end EP
namespace EP
open PySem PySem.Spec PyProof.Rows L2
mutual
theorem Dp_same {K : PySem.W.Frag} {H H' : Hp} (s : Same H H') : ∀ {v : V} {d : PyData}, Dp K H v d → Dp K H' v d
  | _, _, .non => .non
  | _, _, .bl b => .bl b
  | _, _, .int i => .int i
  | _, _, .str x => .str x
  | _, _, .lst h a => .lst (Evl.ex_l s h) (DpAll_same s a)
  | _, _, .tup h a => .tup (Evl.ex_t s h) (DpAll_same s a)
theorem DpAll_same {K : PySem.W.Frag} {H H' : Hp} (s : Same H H') : ∀ {v : List V} {d : List PyData}, DpAll K H v d → DpAll K H' v d
  | _, _, .nil => .nil
  | _, _, .cons h a => .cons (Dp_same s h) (DpAll_same s a)
end
theorem DpAll_len {K : PySem.W.Frag} {H : Hp} : ∀ {v : List V} {d : List PyData}, DpAll K H v d → v.length = d.length
  | _, _, .nil => rfl
  | _, _, .cons _ a => congrArg Nat.succ (DpAll_len a)
theorem DpAll_get {K : PySem.W.Frag} {H : Hp} : ∀ {v : List V} {ds : List PyData} {i : Nat} {x : V}, DpAll K H v ds → v[i]? = some x → ∃ d, ds[i]? = some d ∧ Dp K H x d
  | _, _, i, _, .nil, e => by simp at e
  | _, _, 0, _, .cons h a, e => ⟨_, rfl, by cases Option.some.inj e; exact h⟩
  | _, _, i + 1, _, .cons h a, e => DpAll_get (i := i) a e
theorem deps_get : ∀ {ds : List PyData} {i : Nat} {d : PyData}, ds[i]? = some d → dep d ≤ deps ds
  | [], i, _, e => by simp at e
  | x :: xs, 0, _, e => by cases Option.some.inj e; unfold deps; omega
  | x :: xs, i + 1, d, e => by have := deps_get (ds := xs) (i := i) e; unfold deps; omega
theorem all_true (n : Nat) : (List.replicate n true).all id = true := by
  induction n with
  | zero => rfl
  | succ n ih => rw [List.replicate_succ, List.all_cons, ih]; rfl
theorem walk_zipT {K : PySem.W.Frag} {a b : Addr} {xs ys : List V} {n : Nat} (hn : n = min xs.length ys.length) : Walk (RZ.ItzT K a b) n (fun H => SqT K H a xs ∧ SqT K H b ys) (YPair (fun i => xs[i]?) (fun i => ys[i]?)) := by
  subst hn
  refine ⟨fun i _ hi q => ?_, fun _ q => ⟨xs, ys, q.1, q.2, by omega⟩, fun i H v H' _ q y => ?_⟩
  · have h1 : i < xs.length := by omega
    have h2 : i < ys.length := by omega
    exact ⟨xs, ys, xs[i], ys[i], q.1, q.2, by simp [h1], by simp [h2]⟩
  · obtain ⟨T, x, z, h1, h2, h3, h4, h5⟩ := y
    exact ⟨T, x, z, h1, h2, h3, h4 xs q.1, h5 ys q.2⟩
end EP
namespace EP
open PySem PySem.Spec PyProof.Rows L2
theorem ty_list {K : PySem.W.Frag} {H : Hp} {a : Addr} {xs : List V} (h : SqL K H a xs) : TyX K H (.ref a) (.type "list") := by
  rcases h with (h | ⟨o, h⟩) | ⟨o, its, n, h1, h2, _⟩
  · exact .base (.lst h)
  · exact .base (.frz h)
  · exact .kList h1 h2
theorem ty_tuple {K : PySem.W.Frag} {H : Hp} {a : Addr} {xs : List V} (h : SqT K H a xs) : TyX K H (.ref a) (.type "tuple") := by
  rcases h with (h | ⟨o, h⟩) | ⟨o, its, n, h1, h2, _⟩
  · exact .base (.tup h)
  · exact .fTuple h
  · exact .kTuple h1 h2
end EP
namespace EP
open PySem PySem.Spec PyProof.Rows L2
theorem gcd_red {n d : Int} (h : d ≠ 0) : Int.gcd (rn n d) (rd n d) = 1 := by
  have hg := gcd_pos (n := n) h
  have h1 := congrArg Int.natAbs (rn_mul (n := n) (d := d))
  have h2 := congrArg Int.natAbs (rd_mul (n := n) (d := d))
  rw [Int.natAbs_mul, Int.natAbs_natCast] at h1 h2
  have h3 : (if d < 0 then -n else n).natAbs = n.natAbs := by split <;> omega
  rw [h3] at h1
  rw [Int.natAbs_natCast] at h2
  have h4 : Nat.gcd (rn n d).natAbs (rd n d).natAbs * Int.gcd n d = Int.gcd n d := by
    rw [← Nat.gcd_mul_right, h1, h2]; rfl
  have h5 : Nat.gcd (rn n d).natAbs (rd n d).natAbs * Int.gcd n d = 1 * Int.gcd n d := by rw [h4, Nat.one_mul]
  exact Nat.eq_of_mul_eq_mul_right hg h5
/-- a fraction in lowest terms, below 2 ^ n -/
structure Fq (K : PySem.W.Frag) (H : Hp) (n : Nat) (v : V) (a b : Int) : Prop where
  f : Fr K H v a b
  p : 0 < b
  ba : B n a
  bb : B n b
  g : Int.gcd a b = 1
theorem Fq.mo {K : PySem.W.Frag} {H H' : Hp} {r : Addr} {v : V} {a b : Int} {n : Nat} (h : Fq K H n v a b) (m : Mo r H H') : Fq K H' n v a b := ⟨h.f.mo m, h.p, h.ba, h.bb, h.g⟩
theorem Fq.same {K : PySem.W.Frag} {H H' : Hp} {v : V} {a b : Int} {n : Nat} (h : Fq K H n v a b) (m : Same H H') : Fq K H' n v a b := ⟨h.f.same m, h.p, h.ba, h.bb, h.g⟩
theorem Fq.mono {K : PySem.W.Frag} {H : Hp} {v : V} {a b : Int} {n m : Nat} (h : Fq K H n v a b) (l : n ≤ m := by decide) : Fq K H m v a b := ⟨h.f, h.p, h.ba.mono l, h.bb.mono l, h.g⟩
theorem Fq.red {K : PySem.W.Frag} {H : Hp} {v : V} {n d : Int} {k : Nat} (h : d ≠ 0) (f : Fr K H v (rn n d) (rd n d)) (bn : B k n) (bd : B k d) : Fq K H k v (rn n d) (rd n d) := ⟨f, rd_pos h, bn.rn h, bd.rd h, gcd_red h⟩
theorem Fq.lit {K : PySem.W.Frag} {H : Hp} {p : Addr} {a b : Int} {k : Nat} (h : H p = some (.tup [.int a, .int b])) (hb : 0 < b) (ba : B k a) (bb : B k b) (g : Int.gcd a b = 1) : Fq K H k (.ref p) a b := ⟨⟨p, rfl, .inl (.inl h)⟩, hb, ba, bb, g⟩
/-- a drawn fraction -/
def spDrawn (K : PySem.W.Frag) (n : Nat) : Sp := fun vs H Q _ => ∃ (r : Addr), vs = [.ref r] ∧ Rng H r ∧ ∀ v a b H', Mo r H H' → Fq K H' n v a b → Q v H'
/-- the same, positive -/
def spDrawnP (K : PySem.W.Frag) (n : Nat) : Sp := fun vs H Q _ => ∃ (r : Addr), vs = [.ref r] ∧ Rng H r ∧ ∀ v a b H', Mo r H H' → Fq K H' n v a b → 0 < a → Q v H'
theorem Rng.ne {H : Hp} {r l : Addr} (h : Rng H r) (n : H l = none) : l ≠ r := fun e => by
  obtain ⟨L, ns, i, c, s, h1, _⟩ := h
  subst e; rw [n] at h1; cases h1
theorem B.of {x : Int} {n : Nat} (h : x.natAbs < 2 ^ n) : B n x := h
end EP
namespace EP
theorem rn_pos {n d : Int} (hn : 0 < n) (hd : 0 < d) : 0 < rn n d := by
  have h1 := rn_rd (n := n) (d := d) (by omega)
  have h2 := rd_pos (n := n) (d := d) (by omega)
  have h3 : 0 < rn n d * d := by rw [h1]; exact Int.mul_pos hn h2
  exact Int.pos_of_mul_pos_left h3 hd
end EP
namespace EP
open PySem PySem.Spec PyProof.Rows L2
/-- fractions, one behind another -/
inductive Frs (K : PySem.W.Frag) (H : Hp) : List V → List (Int × Int) → Prop
  | nil : Frs K H [] []
  | cons {v : V} {a b : Int} {vs : List V} {qs : List (Int × Int)} : Fr K H v a b → 0 < b → Frs K H vs qs → Frs K H (v :: vs) ((a, b) :: qs)
theorem Frs.same {K : PySem.W.Frag} {H H' : Hp} (s : Same H H') : ∀ {vs : List V} {qs : List (Int × Int)}, Frs K H vs qs → Frs K H' vs qs
  | _, _, .nil => .nil
  | _, _, .cons f p r => .cons (f.same s) p (r.same s)
theorem Frs.mo {K : PySem.W.Frag} {H H' : Hp} {g : Addr} (s : Mo g H H') : ∀ {vs : List V} {qs : List (Int × Int)}, Frs K H vs qs → Frs K H' vs qs
  | _, _, .nil => .nil
  | _, _, .cons f p r => .cons (f.mo s) p (r.mo s)
theorem Frs.len {K : PySem.W.Frag} {H : Hp} : ∀ {vs : List V} {qs : List (Int × Int)}, Frs K H vs qs → vs.length = qs.length
  | _, _, .nil => rfl
  | _, _, .cons _ _ r => congrArg Nat.succ r.len
theorem Frs.pos {K : PySem.W.Frag} {H : Hp} : ∀ {vs : List V} {qs : List (Int × Int)}, Frs K H vs qs → ∀ q ∈ qs, 0 < q.2
  | _, _, .cons _ p r, q, h => by
    rcases List.mem_cons.mp h with e | e
    · rw [e]; exact p
    · exact r.pos q e
theorem Frs.get {K : PySem.W.Frag} {H : Hp} : ∀ {vs : List V} {qs : List (Int × Int)} {i : Nat} {v : V}, Frs K H vs qs → vs[i]? = some v → ∃ a b, qs[i]? = some (a, b) ∧ Fr K H v a b ∧ 0 < b
  | _, _, _, _, .nil, e => by simp at e
  | _, _, 0, _, .cons f p _, e => ⟨_, _, rfl, by cases Option.some.inj e; exact f, p⟩
  | _, _, i + 1, _, .cons _ _ r, e => Frs.get (i := i) r e
end EP
namespace EP
open PySem PySem.Spec PyProof.Rows L2
theorem sqt_mut {K : PySem.W.Frag} {H : Hp} {D a : Addr} {o : HO} {xs ys : List V} (hD : H D = some (.lst ys)) (h : SqT K H a xs) : SqT K (upd H D o) a xs := by
  rcases h with (h | ⟨u, h⟩) | h
  · refine .inl (.inl ?_)
    rw [upd_ne (fun e => by subst e; rw [hD] at h; cases h)]; exact h
  · refine .inl (.inr ⟨u, ?_⟩)
    rw [upd_ne (fun e => by subst e; rw [hD] at h; cases h)]; exact h
  · exact .inr h
theorem Fr.mut {K : PySem.W.Frag} {H : Hp} {D : Addr} {o : HO} {v : V} {a b : Int} {ys : List V} (h : Fr K H v a b) (hD : H D = some (.lst ys)) : Fr K (upd H D o) v a b := by
  obtain ⟨p, e, h⟩ := h
  exact ⟨p, e, sqt_mut hD h⟩
theorem Fq.mut {K : PySem.W.Frag} {H : Hp} {D : Addr} {o : HO} {v : V} {a b : Int} {n : Nat} {ys : List V} (h : Fq K H n v a b) (hD : H D = some (.lst ys)) : Fq K (upd H D o) n v a b := ⟨h.f.mut hD, h.p, h.ba, h.bb, h.g⟩
/-- drawn fractions, one behind another -/
inductive Fqs (K : PySem.W.Frag) (H : Hp) (n : Nat) : List V → List (Int × Int) → Prop
  | nil : Fqs K H n [] []
  | snoc {v : V} {a b : Int} {vs : List V} {qs : List (Int × Int)} : Fqs K H n vs qs → Fq K H n v a b → Fqs K H n (vs ++ [v]) (qs ++ [(a, b)])
theorem Fqs.mo {K : PySem.W.Frag} {H H' : Hp} {g : Addr} {n : Nat} (s : Mo g H H') : ∀ {vs : List V} {qs : List (Int × Int)}, Fqs K H n vs qs → Fqs K H' n vs qs
  | _, _, .nil => .nil
  | _, _, .snoc r f => .snoc (r.mo s) (f.mo s)
theorem Fqs.same {K : PySem.W.Frag} {H H' : Hp} {n : Nat} (s : Same H H') : ∀ {vs : List V} {qs : List (Int × Int)}, Fqs K H n vs qs → Fqs K H' n vs qs
  | _, _, .nil => .nil
  | _, _, .snoc r f => .snoc (r.same s) (f.same s)
theorem Fqs.mut {K : PySem.W.Frag} {H : Hp} {D : Addr} {o : HO} {n : Nat} {ys : List V} (hD : H D = some (.lst ys)) : ∀ {vs : List V} {qs : List (Int × Int)}, Fqs K H n vs qs → Fqs K (upd H D o) n vs qs
  | _, _, .nil => .nil
  | _, _, .snoc r f => .snoc (r.mut hD) (f.mut hD)
theorem Fqs.len {K : PySem.W.Frag} {H : Hp} {n : Nat} : ∀ {vs : List V} {qs : List (Int × Int)}, Fqs K H n vs qs → vs.length = qs.length
  | _, _, .nil => rfl
  | _, _, .snoc r _ => by rw [List.length_append, List.length_append, r.len]; rfl
theorem Frs.app {K : PySem.W.Frag} {H : Hp} {v : V} {a b : Int} (f : Fr K H v a b) (p : 0 < b) : ∀ {vs : List V} {qs : List (Int × Int)}, Frs K H vs qs → Frs K H (vs ++ [v]) (qs ++ [(a, b)])
  | _, _, .nil => .cons f p .nil
  | _, _, .cons g q r => .cons g q (r.app f p)
theorem Fqs.frs {K : PySem.W.Frag} {H : Hp} {n : Nat} : ∀ {vs : List V} {qs : List (Int × Int)}, Fqs K H n vs qs → Frs K H vs qs
  | _, _, .nil => .nil
  | _, _, .snoc r f => r.frs.app f.f f.p
theorem Fqs.bd {K : PySem.W.Frag} {H : Hp} {n : Nat} : ∀ {vs : List V} {qs : List (Int × Int)}, Fqs K H n vs qs → ∀ q ∈ qs, B n q.1 ∧ B n q.2 ∧ Int.gcd q.1 q.2 = 1
  | _, _, .nil, q, h => by cases h
  | _, _, .snoc r f, q, h => by
    rcases List.mem_append.mp h with e | e
    · exact r.bd q e
    · rw [List.mem_singleton.mp e]; exact ⟨f.ba, f.bb, f.g⟩
theorem Fqs.two {K : PySem.W.Frag} {H : Hp} {n : Nat} {vs : List V} {qs : List (Int × Int)} (h : Fqs K H n vs qs) (e : vs.length = 2) : ∃ v1 v2 a1 b1 a2 b2, vs = [v1, v2] ∧ Fq K H n v1 a1 b1 ∧ Fq K H n v2 a2 b2 := by
  cases h with
  | nil => cases e
  | @snoc v a b vs1 qs1 r f =>
    cases r with
    | nil => cases e
    | @snoc v' a' b' vs2 qs2 r2 f2 =>
      have : vs2 = [] := by cases vs2 with
        | nil => rfl
        | cons x xs => simp at e
      subst this
      exact ⟨v', v, a', b', a, b, rfl, f2, f⟩
end EP
namespace EP
theorem rd_one {n m : Int} (hm : m ≠ 0) (h : m ∣ n) : rd n m = 1 := by
  unfold rd
  have : Int.gcd n m = m.natAbs := by
    unfold Int.gcd
    exact Nat.gcd_eq_right (Int.natAbs_dvd_natAbs.mpr h)
  rw [this]
  exact Int.ediv_self (by omega)
end EP
namespace EP
/-! ### sums over the numbers below n -/
def Sm (f : Nat → Int) : Nat → Int
  | 0 => 0
  | n + 1 => Sm f n + f n
theorem Sm_congr {f g : Nat → Int} : ∀ {n : Nat}, (∀ k, k < n → f k = g k) → Sm f n = Sm g n
  | 0, _ => rfl
  | n + 1, h => by unfold Sm; rw [Sm_congr (n := n) fun k hk => h k (by omega), h n (by omega)]
theorem Sm_add {f g : Nat → Int} : ∀ n : Nat, Sm (fun k => f k + g k) n = Sm f n + Sm g n
  | 0 => rfl
  | n + 1 => by unfold Sm; rw [Sm_add n]; omega
theorem Sm_zero : ∀ n : Nat, Sm (fun _ => 0) n = 0
  | 0 => rfl
  | n + 1 => by unfold Sm; rw [Sm_zero n]; rfl
theorem Sm_split {f : Nat → Int} (n : Nat) : ∀ m : Nat, Sm f (n + m) = Sm f n + Sm (fun k => f (n + k)) m
  | 0 => by show Sm f n = Sm f n + 0; omega
  | m + 1 => by show Sm f (n + m) + f (n + m) = _; rw [Sm_split n m]; show _ = Sm f n + (Sm (fun k => f (n + k)) m + f (n + m)); omega
theorem Sm_first {f : Nat → Int} (n : Nat) : Sm f (n + 1) = f 0 + Sm (fun k => f (k + 1)) n := by
  rw [Nat.add_comm, Sm_split 1 n]
  have e : Sm (fun k => f (1 + k)) n = Sm (fun k => f (k + 1)) n := Sm_congr fun k _ => by rw [Nat.add_comm]
  rw [e]
  show 0 + f 0 + _ = _
  omega
theorem Sm_rev : ∀ (n : Nat) (f : Nat → Int), Sm (fun k => f (n - 1 - k)) n = Sm f n
  | 0, _ => rfl
  | n + 1, f => by
    rw [Sm_first]
    have e : Sm (fun k => f (n + 1 - 1 - (k + 1))) n = Sm (fun k => f (n - 1 - k)) n := Sm_congr fun k _ => by
      rw [show n + 1 - 1 - (k + 1) = n - 1 - k by omega]
    rw [e, Sm_rev n f]
    show f (n + 1 - 1 - 0) + Sm f n = Sm f n + f n
    rw [show n + 1 - 1 - 0 = n by omega]; omega
theorem Sm_swap (f : Nat → Nat → Int) (n : Nat) : ∀ m : Nat, Sm (fun k => Sm (fun j => f k j) m) n = Sm (fun j => Sm (fun k => f k j) n) m
  | 0 => Sm_zero n
  | m + 1 => by
    show Sm (fun k => Sm (fun j => f k j) m + f k m) n = Sm (fun j => Sm (fun k => f k j) n) m + Sm (fun k => f k m) n
    rw [Sm_add n, Sm_swap f n m]
/-! ### the sum of floors -/
def FS (n : Nat) (r b m : Int) : Int := Sm (fun k => (r * k + b) / m) n
theorem floor_congr {a b c d : Int} (hb : 0 < b) (hd : 0 < d) (h : a * d = c * b) : a / b = c / d := by
  have e1 : a / b = (a * d) / (b * d) := (Int.mul_ediv_mul_of_pos_left a b hd).symm
  have e2 : c / d = (c * b) / (d * b) := (Int.mul_ediv_mul_of_pos_left c d hb).symm
  rw [e1, e2, h, Int.mul_comm b d]
theorem FS_congr {n : Nat} {r b m r' b' m' : Int} (hm : 0 < m) (hm' : 0 < m') (h1 : r * m' = r' * m) (h2 : b * m' = b' * m) : FS n r b m = FS n r' b' m' :=
  Sm_congr fun k _ => floor_congr hm hm' (by rw [Int.add_mul, Int.add_mul, ← h2, Int.mul_right_comm, h1, Int.mul_right_comm])
theorem FS_split {n1 n2 : Nat} {r b m : Int} : FS (n1 + n2) r b m = FS n1 r b m + FS n2 r (b + n1 * r) m := by
  unfold FS
  rw [Sm_split]
  congr 1
  refine Sm_congr fun k _ => ?_
  congr 1
  have : ((n1 + k : Nat) : Int) = n1 + k := by omega
  rw [this]; grind
theorem FS_neg {n : Nat} {r b m : Int} (hm : 0 < m) : FS n (-r) (m - 1 - b) m + FS n r b m = 0 := by
  unfold FS
  rw [← Sm_add, ← Sm_zero n]
  refine Sm_congr fun k _ => ?_
  have e : -r * (k : Int) + (m - 1 - b) = -(r * k + b) + (m - 1) := by grind
  rw [e]
  generalize r * (k : Int) + b = x
  have h1 := Int.mul_ediv_add_emod x m
  have h2 := Int.emod_lt_of_pos x hm
  have h3 := Int.emod_nonneg x (show m ≠ 0 by omega)
  have h4 : (-x + (m - 1)) / m = -(x / m) := by
    have : -x + (m - 1) = (m - 1 - x % m) + m * (-(x / m)) := by rw [Int.mul_neg]; omega
    rw [this, Int.add_mul_ediv_left _ _ (show m ≠ 0 by omega), Int.ediv_eq_zero_of_lt (by omega) (by omega)]; omega
  omega
theorem FS_rev {n : Nat} {r b m : Int} : FS n (-r) (b + (n - 1) * r) m = FS n r b m := by
  unfold FS
  rw [← Sm_rev n]
  refine Sm_congr fun k hk => ?_
  congr 1
  have : ((n - 1 - k : Nat) : Int) = n - 1 - k := by omega
  rw [this]; grind
theorem tri {n : Nat} : (n : Int) * (n - 1) % 2 = 0 := by
  have : ∀ n : Nat, ∃ c : Int, (n : Int) * (n - 1) = 2 * c := by
    intro n
    induction n with
    | zero => exact ⟨0, rfl⟩
    | succ n ih =>
      obtain ⟨c, hc⟩ := ih
      refine ⟨c + n, ?_⟩
      have : ((n + 1 : Nat) : Int) = n + 1 := by omega
      rw [this]; grind
  obtain ⟨c, hc⟩ := this n
  rw [hc]; omega
theorem tri_succ {n : Nat} : ((n + 1 : Nat) : Int) * (((n + 1 : Nat) : Int) - 1) / 2 = (n : Int) * (n - 1) / 2 + n := by
  have h1 := tri (n := n)
  have e : ((n + 1 : Nat) : Int) = n + 1 := by omega
  have : ((n + 1 : Nat) : Int) * (((n + 1 : Nat) : Int) - 1) = n * (n - 1) + 2 * n := by rw [e]; grind
  rw [this]; omega
/-- whole numbers more in the slope and the offset -/
theorem FS_more {r b m : Int} {x y : Int} (hm : 0 < m) : ∀ n : Nat, FS n (r + x * m) (b + y * m) m = FS n r b m + x * ((n : Int) * (n - 1) / 2) + y * n
  | 0 => by
    show (0 : Int) = 0 + x * (((0 : Nat) : Int) * (((0 : Nat) : Int) - 1) / 2) + y * ((0 : Nat) : Int)
    simp
  | n + 1 => by
    have ih := FS_more (r := r) (b := b) (m := m) (x := x) (y := y) hm n
    unfold FS at *
    show Sm _ n + ((r + x * m) * (n : Int) + (b + y * m)) / m = Sm _ n + (r * (n : Int) + b) / m + _ + _
    rw [ih, tri_succ]
    have e : (r + x * m) * (n : Int) + (b + y * m) = (r * n + b) + m * (x * n + y) := by grind
    rw [e, Int.add_mul_ediv_left _ _ (show m ≠ 0 by omega)]
    have : ((n + 1 : Nat) : Int) = n + 1 := by omega
    rw [this]
    generalize (n : Int) * (n - 1) / 2 = t
    grind
/-! ### counting by rows instead of by columns -/
theorem cnt_le {m x : Int} (hm : 0 < m) (hx : 0 ≤ x) : ∀ y : Nat, Sm (fun i => if m * ((i : Int) + 1) ≤ x then 1 else 0) y = if x / m ≤ y then x / m else y
  | 0 => by
    have := Int.ediv_nonneg hx (Int.le_of_lt hm)
    show (0 : Int) = _
    split <;> omega
  | y + 1 => by
    show Sm _ y + (if m * ((y : Int) + 1) ≤ x then 1 else 0) = _
    rw [cnt_le hm hx y]
    have key : m * ((y : Int) + 1) ≤ x ↔ (y : Int) + 1 ≤ x / m := by
      rw [Int.le_ediv_iff_mul_le hm, Int.mul_comm]
    have : ((y + 1 : Nat) : Int) = y + 1 := by omega
    rw [this]
    by_cases h : m * ((y : Int) + 1) ≤ x
    · rw [if_pos h]; have := key.mp h
      rw [if_neg (by omega)]; split <;> omega
    · rw [if_neg h]; have : ¬ _ := fun z => h (key.mpr z)
      rw [if_pos (by omega), if_pos (by omega)]; omega
theorem cnt_ge {r c : Int} (hr : 0 < r) (hc : 0 < c) : ∀ n : Nat, Sm (fun k => if c ≤ r * (k : Int) then 1 else 0) n = if 0 ≤ (r * n - c) / r then (r * n - c) / r else 0
  | 0 => by
    have : (r * ((0 : Nat) : Int) - c) / r < 0 := Int.ediv_neg_of_neg_of_pos (by simp; omega) hr
    rw [if_neg (by omega)]; rfl
  | n + 1 => by
    show Sm _ n + (if c ≤ r * (n : Int) then 1 else 0) = _
    rw [cnt_ge hr hc n]
    have e : ((n + 1 : Nat) : Int) = n + 1 := by omega
    have e2 : (r * ((n + 1 : Nat) : Int) - c) / r = (r * n - c) / r + 1 := by
      rw [e, show r * ((n : Int) + 1) - c = (r * n - c) + r * 1 by grind, Int.add_mul_ediv_left _ _ (show r ≠ 0 by omega)]
    rw [e2]
    by_cases h : c ≤ r * (n : Int)
    · have := Int.ediv_nonneg (show 0 ≤ r * (n : Int) - c by omega) (Int.le_of_lt hr)
      rw [if_pos h, if_pos this, if_pos (by omega)]
    · have h1 : (r * (n : Int) - c) / r < 0 := Int.ediv_neg_of_neg_of_pos (by omega) hr
      rw [if_neg h, if_neg (by omega)]
      split <;> omega
theorem FS_flip {n : Nat} {r b m : Int} (hr : 0 < r) (hrm : r < m) (hb : 0 ≤ b) (hbm : b < m) :
    FS n r b m = FS ((r * n + b) / m).toNat m ((r * n + b) % m) r := by
  have hm : 0 < m := by omega
  have htop : 0 ≤ r * (n : Int) + b := by have := Int.mul_nonneg (Int.le_of_lt hr) (Int.natCast_nonneg n); omega
  have hy0 := Int.ediv_nonneg htop (Int.le_of_lt hm)
  obtain ⟨y, hy⟩ := Int.eq_ofNat_of_zero_le hy0
  have hdm := Int.mul_ediv_add_emod (r * (n : Int) + b) m
  have ht0 := Int.emod_nonneg (r * (n : Int) + b) (show m ≠ 0 by omega)
  rw [hy] at hdm ⊢
  generalize (r * (n : Int) + b) % m = t at *
  unfold FS
  have e1 : Sm (fun k => (r * (k : Int) + b) / m) n = Sm (fun k => Sm (fun i => if m * ((i : Int) + 1) ≤ r * k + b then 1 else 0) y) n := by
    refine Sm_congr fun k hk => ?_
    have h0 : 0 ≤ r * (k : Int) + b := by have := Int.mul_nonneg (Int.le_of_lt hr) (Int.natCast_nonneg k); omega
    rw [cnt_le hm h0 y, if_pos]
    have : r * (k : Int) + b ≤ r * (n : Int) + b := by
      have := Int.mul_le_mul_of_nonneg_left (show (k : Int) ≤ n by omega) (Int.le_of_lt hr); omega
    have := Int.ediv_le_ediv hm this
    rw [hy] at this; exact this
  rw [e1, Sm_swap, ← Sm_rev y]
  rw [show (y : Int).toNat = y from Int.toNat_natCast y]
  refine Sm_congr fun i hi => ?_
  have ei : ((y - 1 - i : Nat) : Int) = y - 1 - i := by omega
  have e2 : Sm (fun k => if m * (((y - 1 - i : Nat) : Int) + 1) ≤ r * (k : Int) + b then (1 : Int) else 0) n = Sm (fun k => if m * ((y : Int) - i) - b ≤ r * (k : Int) then 1 else 0) n := by
    refine Sm_congr fun k _ => ?_
    rw [ei, show ((y : Int) - 1 - i + 1) = y - i by omega]
    by_cases h : m * ((y : Int) - i) ≤ r * (k : Int) + b
    · rw [if_pos h, if_pos (by omega)]
    · rw [if_neg h, if_neg (by omega)]
  have hc : 0 < m * ((y : Int) - i) - b := by
    have : m * 1 ≤ m * ((y : Int) - i) := Int.mul_le_mul_of_nonneg_left (by omega) (Int.le_of_lt hm)
    omega
  rw [e2, cnt_ge hr hc n]
  have hdm' : m * (y : Int) + t = r * n + b := hdm
  have e3 : r * (n : Int) - (m * ((y : Int) - i) - b) = m * i + t := by
    rw [Int.mul_sub]; omega
  have e4 : 0 ≤ m * (i : Int) + t := by have := Int.mul_nonneg (Int.le_of_lt hm) (Int.natCast_nonneg i); omega
  rw [e3, if_pos (Int.ediv_nonneg e4 (Int.le_of_lt hr))]
end EP
namespace EP
theorem FS_small {n : Nat} {r b m : Int} (hr : 0 ≤ r) (hb : 0 ≤ b) (h : r * n + b < m) : FS n r b m = 0 := by
  unfold FS
  rw [← Sm_zero n]
  refine Sm_congr fun k hk => ?_
  have h1 := Int.mul_nonneg hr (Int.natCast_nonneg k)
  have h2 := Int.mul_le_mul_of_nonneg_left (show (k : Int) ≤ n by omega) hr
  exact Int.ediv_eq_zero_of_lt (by omega) (by omega)
/-- the least common multiple of the denominators, as it is reckoned -/
def lstep (r d : Int) : Int := r / (Int.gcd r d : Int) * d
def cden : List (Int × Int) → Int → Int
  | [], r => r
  | q :: qs, r => cden qs (lstep r q.2)
theorem gcd_posI {r d : Int} (h : 0 < d) : (0 : Int) < (Int.gcd r d : Int) := by have := gcd_pos (n := r) (d := d) (by omega); omega
theorem lstep_pos {r d : Int} (hr : 0 < r) (hd : 0 < d) : 0 < lstep r d := by
  unfold lstep
  have h1 : (Int.gcd r d : Int) ∣ r := Int.gcd_dvd_left ..
  have h2 : r / (Int.gcd r d : Int) * (Int.gcd r d : Int) = r := Int.ediv_mul_cancel h1
  refine Int.mul_pos ?_ hd
  refine Int.pos_of_mul_pos_left (b := (Int.gcd r d : Int)) ?_ (gcd_posI hd)
  rw [h2]; exact hr
theorem lstep_dvd_right {r d : Int} : d ∣ lstep r d := ⟨r / (Int.gcd r d : Int), by unfold lstep; rw [Int.mul_comm]⟩
theorem lstep_dvd_left {r d : Int} (hd : 0 < d) : r ∣ lstep r d := by
  obtain ⟨c, hc⟩ : (Int.gcd r d : Int) ∣ d := Int.gcd_dvd_right ..
  refine ⟨c, ?_⟩
  have h2 : r / (Int.gcd r d : Int) * (Int.gcd r d : Int) = r := Int.ediv_mul_cancel (Int.gcd_dvd_left ..)
  have e : lstep r d = r / (Int.gcd r d : Int) * (Int.gcd r d : Int) * c := by
    rw [Int.mul_assoc, ← hc]; rfl
  rw [e, h2]
theorem lstep_le {r d : Int} (hr : 0 < r) (hd : 0 < d) : (lstep r d).natAbs ≤ (r * d).natAbs := by
  unfold lstep
  rw [Int.natAbs_mul, Int.natAbs_mul]
  exact Nat.mul_le_mul_right _ (div_abs (gcd_posI hd))
theorem cden_pos : ∀ {qs : List (Int × Int)} {r : Int}, 0 < r → (∀ q ∈ qs, 0 < q.2) → 0 < cden qs r
  | [], _, h, _ => h
  | q :: qs, r, h, hq => cden_pos (qs := qs) (r := lstep r q.2) (lstep_pos h (hq q (List.mem_cons_self ..))) fun q' h' => hq q' (List.mem_cons_of_mem _ h')
theorem cden_dvd0 : ∀ {qs : List (Int × Int)} {r : Int}, (∀ q ∈ qs, 0 < q.2) → r ∣ cden qs r
  | [], r, _ => Int.dvd_refl r
  | q :: qs, r, hq => Int.dvd_trans (lstep_dvd_left (hq q (List.mem_cons_self ..))) (cden_dvd0 (qs := qs) fun q' h' => hq q' (List.mem_cons_of_mem _ h'))
theorem cden_dvd : ∀ {qs : List (Int × Int)} {r : Int}, (∀ q ∈ qs, 0 < q.2) → ∀ q ∈ qs, q.2 ∣ cden qs r
  | q :: qs, r, hq, q', h' => by
    have hq' : ∀ q ∈ qs, 0 < q.2 := fun q' h' => hq q' (List.mem_cons_of_mem _ h')
    rcases List.mem_cons.mp h' with e | e
    · rw [e]; exact Int.dvd_trans lstep_dvd_right (cden_dvd0 (qs := qs) hq')
    · exact cden_dvd (qs := qs) hq' q' e
end EP
namespace EP
open PySem PySem.Spec PyProof.Rows L2
theorem cden_take {qs : List (Int × Int)} {i : Nat} {q : Int × Int} : ∀ {r : Int}, qs[i]? = some q → cden (qs.take (i + 1)) r = lstep (cden (qs.take i) r) q.2 := by
  induction qs generalizing i with
  | nil => intro r h; simp at h
  | cons x xs ih =>
    intro r h
    cases i with
    | zero => cases Option.some.inj h; rfl
    | succ i => exact ih (i := i) h
def spCden (K : PySem.W.Frag) : Sp := fun vs H Q _ => ∃ (l : Addr) (xs : List V) (qs : List (Int × Int)) (k : Nat), vs = [.ref l] ∧ (SqL K H l xs ∨ SqT K H l xs) ∧ Frs K H xs qs ∧ (∀ q ∈ qs, B k q.2) ∧ 0 < k ∧ k * qs.length ≤ 8000 ∧ Q (.int (cden qs 1)) H
def spFloorSum (K : PySem.W.Frag) : Sp := fun vs H Q _ => ∃ (n : Nat) (x y : V) (a b c d : Int), vs = [.int n, x, y] ∧ Fr K H x a b ∧ Fr K H y c d ∧ 0 < b ∧ 0 < d ∧ B 1000 (n : Int) ∧ B 1000 a ∧ B 1000 b ∧ B 1000 c ∧ B 1000 d ∧
  ∀ z H', Same H H' → (∀ R b' M : Int, 0 < M → R * b = a * M → b' * d = c * M → z = FS n R b' M) → Q (.int z) H'
end EP
namespace EP
/-- a / b is x / M -/
def Rv (a b x M : Int) : Prop := a * M = x * b
theorem Rv.red {n d x M : Int} (hd : d ≠ 0) (h : n * M = x * d) : Rv (rn n d) (rd n d) x M := by
  have e := rn_rd (n := n) hd
  refine Int.eq_of_mul_eq_mul_right hd ?_
  have : rn n d * M * d = rn n d * d * M := by grind
  rw [this, e]
  have : n * rd n d * M = n * M * rd n d := by grind
  rw [this, h]; grind
theorem Rv.add {a b c d x y M : Int} (h1 : Rv a b x M) (h2 : Rv c d y M) : (a * d + c * b) * M = (x + y) * (b * d) := by
  unfold Rv at *
  have : (a * d + c * b) * M = a * M * d + c * M * b := by grind
  rw [this, h1, h2]; grind
theorem Rv.sub {a b c d x y M : Int} (h1 : Rv a b x M) (h2 : Rv c d y M) : (a * d - c * b) * M = (x - y) * (b * d) := by
  unfold Rv at *
  have : (a * d - c * b) * M = a * M * d - c * M * b := by grind
  rw [this, h1, h2]; grind
theorem Rv.times {n a b x M : Int} (h1 : Rv a b x M) : (n * a) * M = (n * x) * b := by
  unfold Rv at *
  rw [Int.mul_assoc, h1]; grind
theorem Rv.floor {a b x M : Int} (hb : 0 < b) (hM : 0 < M) (h : Rv a b x M) : a / b = x / M := floor_congr hb hM h
theorem Rv.fs {a b x M : Int} (h : Rv a b x M) : x * b = a * M := h.symm
end EP
namespace EP
open PySem PySem.Spec PyProof.Rows L2
theorem Sm_sum (f : Nat → Int) : ∀ n : Nat, ((List.range n).map f).sum = Sm f n
  | 0 => rfl
  | n + 1 => by
    rw [List.range_succ, List.map_append, List.sum_append, Sm_sum f n]
    simp [Sm]
end EP
namespace EP
open PySem PySem.Spec PyProof.Rows L2
def topS (i : Nat) : Stmt := PySem.Challenge.pw_evenpace_k07_whole_great_sums_of_floors.main.body.getD i (.Pass ⟨0, 0, 0, 0⟩)
abbrev s_gcd : Stmt := topS 4
abbrev N_gcd : List Str := ["one", "other"]
abbrev Ps_gcd : List Str := ["one", "other"]
theorem sc_gcd : FnScope N_gcd Ps_gcd (defScope s_gcd) := ⟨rfl, rfl, rfl, by decide +kernel, rfl, by decide +kernel, by decide +kernel⟩
abbrev s_common_denominator : Stmt := topS 6
abbrev N_common_denominator : List Str := ["values", "result", "value"]
abbrev Ps_common_denominator : List Str := ["values"]
theorem sc_common_denominator : FnScope N_common_denominator Ps_common_denominator (defScope s_common_denominator) := ⟨rfl, rfl, rfl, by decide +kernel, rfl, by decide +kernel, by decide +kernel⟩
abbrev s_whole : Stmt := topS 7
abbrev N_whole : List Str := ["value", "common"]
abbrev Ps_whole : List Str := ["value", "common"]
theorem sc_whole : FnScope N_whole Ps_whole (defScope s_whole) := ⟨rfl, rfl, rfl, by decide +kernel, rfl, by decide +kernel, by decide +kernel⟩
abbrev s_floor_sum : Stmt := topS 8
abbrev N_floor_sum : List Str := ["count", "slope", "offset", "den", "rise", "base", "result", "top"]
abbrev Ps_floor_sum : List Str := ["count", "slope", "offset"]
theorem sc_floor_sum : FnScope N_floor_sum Ps_floor_sum (defScope s_floor_sum) := ⟨rfl, rfl, rfl, by decide +kernel, rfl, by decide +kernel, by decide +kernel⟩
abbrev s_l_source : Stmt := topS 10
abbrev N_l_source : List Str := ["_law_script", "_law_seed", "_law_cell"]
abbrev Ps_l_source : List Str := ["_law_script"]
theorem sc_l_source : FnScope N_l_source Ps_l_source (defScope s_l_source) := ⟨rfl, rfl, rfl, by decide +kernel, rfl, by decide +kernel, by decide +kernel⟩
abbrev s_l_draw : Stmt := topS 11
abbrev N_l_draw : List Str := ["_law_rng", "_law_many", "_law_cell", "_law_got", "_law_seed"]
abbrev Ps_l_draw : List Str := ["_law_rng", "_law_many"]
theorem sc_l_draw : FnScope N_l_draw Ps_l_draw (defScope s_l_draw) := ⟨rfl, rfl, rfl, by decide +kernel, rfl, by decide +kernel, by decide +kernel⟩
abbrev s_l_choice : Stmt := topS 12
abbrev N_l_choice : List Str := ["_law_rng", "_law_some"]
abbrev Ps_l_choice : List Str := ["_law_rng", "_law_some"]
theorem sc_l_choice : FnScope N_l_choice Ps_l_choice (defScope s_l_choice) := ⟨rfl, rfl, rfl, by decide +kernel, rfl, by decide +kernel, by decide +kernel⟩
abbrev s_l_divisor : Stmt := topS 13
abbrev N_l_divisor : List Str := ["_law_one", "_law_other"]
abbrev Ps_l_divisor : List Str := ["_law_one", "_law_other"]
theorem sc_l_divisor : FnScope N_l_divisor Ps_l_divisor (defScope s_l_divisor) := ⟨rfl, rfl, rfl, by decide +kernel, rfl, by decide +kernel, by decide +kernel⟩
abbrev s_l_reduce : Stmt := topS 14
abbrev N_l_reduce : List Str := ["_law_num", "_law_den", "_law_by", "_law_sign"]
abbrev Ps_l_reduce : List Str := ["_law_num", "_law_den"]
theorem sc_l_reduce : FnScope N_l_reduce Ps_l_reduce (defScope s_l_reduce) := ⟨rfl, rfl, rfl, by decide +kernel, rfl, by decide +kernel, by decide +kernel⟩
abbrev s_l_add : Stmt := topS 15
abbrev N_l_add : List Str := ["_law_one", "_law_other"]
abbrev Ps_l_add : List Str := ["_law_one", "_law_other"]
theorem sc_l_add : FnScope N_l_add Ps_l_add (defScope s_l_add) := ⟨rfl, rfl, rfl, by decide +kernel, rfl, by decide +kernel, by decide +kernel⟩
abbrev s_l_subtract : Stmt := topS 16
abbrev N_l_subtract : List Str := ["_law_one", "_law_other"]
abbrev Ps_l_subtract : List Str := ["_law_one", "_law_other"]
theorem sc_l_subtract : FnScope N_l_subtract Ps_l_subtract (defScope s_l_subtract) := ⟨rfl, rfl, rfl, by decide +kernel, rfl, by decide +kernel, by decide +kernel⟩
abbrev s_l_times : Stmt := topS 17
abbrev N_l_times : List Str := ["_law_number", "_law_one"]
abbrev Ps_l_times : List Str := ["_law_number", "_law_one"]
theorem sc_l_times : FnScope N_l_times Ps_l_times (defScope s_l_times) := ⟨rfl, rfl, rfl, by decide +kernel, rfl, by decide +kernel, by decide +kernel⟩
abbrev s_l_floor : Stmt := topS 18
abbrev N_l_floor : List Str := ["_law_one"]
abbrev Ps_l_floor : List Str := ["_law_one"]
theorem sc_l_floor : FnScope N_l_floor Ps_l_floor (defScope s_l_floor) := ⟨rfl, rfl, rfl, by decide +kernel, rfl, by decide +kernel, by decide +kernel⟩
abbrev s_law : Stmt := topS 19
abbrev N_law : List Str := ["_law_script", "_law_rng", "_law_turn", "_law_slope", "_law_offset", "_law_count", "_law_first", "_law_whole", "_law_rest", "_law_a", "_law_b", "_law_more", "_law_last", "_law_tiny", "_law_high", "_law_some", "_law_k"]
abbrev Ps_law : List Str := ["_law_script"]
theorem sc_law : FnScope N_law Ps_law (defScope s_law) := ⟨rfl, rfl, rfl, by decide +kernel, rfl, by decide +kernel, by decide +kernel⟩
structure DefT (K : PySem.W.Frag) (mg : Str → Option Value) (n : Str) (s : Stmt) (ps : List Str) where
  f : Addr
  d : FuncData
  F : Fun K n n s f d
  b : Binds K d ps []
  g : mg n = some (.ref f)
set_option maxHeartbeats 8000000 in
structure Txt (K : PySem.W.Frag) (mg : Str → Option Value) where
  D_gcd : DefT K mg "gcd" s_gcd Ps_gcd
  D_common_denominator : DefT K mg "common_denominator" s_common_denominator Ps_common_denominator
  D_whole : DefT K mg "whole" s_whole Ps_whole
  D_floor_sum : DefT K mg "floor_sum" s_floor_sum Ps_floor_sum
  D_l_source : DefT K mg "_law_source" s_l_source Ps_l_source
  D_l_draw : DefT K mg "_law_draw" s_l_draw Ps_l_draw
  D_l_choice : DefT K mg "_law_choice" s_l_choice Ps_l_choice
  D_l_divisor : DefT K mg "_law_divisor" s_l_divisor Ps_l_divisor
  D_l_reduce : DefT K mg "_law_reduce" s_l_reduce Ps_l_reduce
  D_l_add : DefT K mg "_law_add" s_l_add Ps_l_add
  D_l_subtract : DefT K mg "_law_subtract" s_l_subtract Ps_l_subtract
  D_l_times : DefT K mg "_law_times" s_l_times Ps_l_times
  D_l_floor : DefT K mg "_law_floor" s_l_floor Ps_l_floor
  D_law : DefT K mg "law" s_law Ps_law
  m_abs : mg "abs" = none
  m_len : mg "len" = none
  m_list : mg "list" = none
  m_range : mg "range" = none
  m_isinstance : mg "isinstance" = none
  m_int : mg "int" = none
  m_bool : mg "bool" = none
  m_min : mg "min" = none
  m_sum : mg "sum" = none
abbrev Txt.f_gcd {K : PySem.W.Frag} {mg : Str → Option Value} (T : Txt K mg) := T.D_gcd.f
abbrev Txt.d_gcd {K : PySem.W.Frag} {mg : Str → Option Value} (T : Txt K mg) := T.D_gcd.d
abbrev Txt.F_gcd {K : PySem.W.Frag} {mg : Str → Option Value} (T : Txt K mg) := T.D_gcd.F
abbrev Txt.b_gcd {K : PySem.W.Frag} {mg : Str → Option Value} (T : Txt K mg) := T.D_gcd.b
abbrev Txt.g_gcd {K : PySem.W.Frag} {mg : Str → Option Value} (T : Txt K mg) := T.D_gcd.g
abbrev Txt.f_common_denominator {K : PySem.W.Frag} {mg : Str → Option Value} (T : Txt K mg) := T.D_common_denominator.f
abbrev Txt.d_common_denominator {K : PySem.W.Frag} {mg : Str → Option Value} (T : Txt K mg) := T.D_common_denominator.d
abbrev Txt.F_common_denominator {K : PySem.W.Frag} {mg : Str → Option Value} (T : Txt K mg) := T.D_common_denominator.F
abbrev Txt.b_common_denominator {K : PySem.W.Frag} {mg : Str → Option Value} (T : Txt K mg) := T.D_common_denominator.b
abbrev Txt.g_common_denominator {K : PySem.W.Frag} {mg : Str → Option Value} (T : Txt K mg) := T.D_common_denominator.g
abbrev Txt.f_whole {K : PySem.W.Frag} {mg : Str → Option Value} (T : Txt K mg) := T.D_whole.f
abbrev Txt.d_whole {K : PySem.W.Frag} {mg : Str → Option Value} (T : Txt K mg) := T.D_whole.d
abbrev Txt.F_whole {K : PySem.W.Frag} {mg : Str → Option Value} (T : Txt K mg) := T.D_whole.F
abbrev Txt.b_whole {K : PySem.W.Frag} {mg : Str → Option Value} (T : Txt K mg) := T.D_whole.b
abbrev Txt.g_whole {K : PySem.W.Frag} {mg : Str → Option Value} (T : Txt K mg) := T.D_whole.g
abbrev Txt.f_floor_sum {K : PySem.W.Frag} {mg : Str → Option Value} (T : Txt K mg) := T.D_floor_sum.f
abbrev Txt.d_floor_sum {K : PySem.W.Frag} {mg : Str → Option Value} (T : Txt K mg) := T.D_floor_sum.d
abbrev Txt.F_floor_sum {K : PySem.W.Frag} {mg : Str → Option Value} (T : Txt K mg) := T.D_floor_sum.F
abbrev Txt.b_floor_sum {K : PySem.W.Frag} {mg : Str → Option Value} (T : Txt K mg) := T.D_floor_sum.b
abbrev Txt.g_floor_sum {K : PySem.W.Frag} {mg : Str → Option Value} (T : Txt K mg) := T.D_floor_sum.g
abbrev Txt.f_l_source {K : PySem.W.Frag} {mg : Str → Option Value} (T : Txt K mg) := T.D_l_source.f
abbrev Txt.d_l_source {K : PySem.W.Frag} {mg : Str → Option Value} (T : Txt K mg) := T.D_l_source.d
abbrev Txt.F_l_source {K : PySem.W.Frag} {mg : Str → Option Value} (T : Txt K mg) := T.D_l_source.F
abbrev Txt.b_l_source {K : PySem.W.Frag} {mg : Str → Option Value} (T : Txt K mg) := T.D_l_source.b
abbrev Txt.g_l_source {K : PySem.W.Frag} {mg : Str → Option Value} (T : Txt K mg) := T.D_l_source.g
abbrev Txt.f_l_draw {K : PySem.W.Frag} {mg : Str → Option Value} (T : Txt K mg) := T.D_l_draw.f
abbrev Txt.d_l_draw {K : PySem.W.Frag} {mg : Str → Option Value} (T : Txt K mg) := T.D_l_draw.d
abbrev Txt.F_l_draw {K : PySem.W.Frag} {mg : Str → Option Value} (T : Txt K mg) := T.D_l_draw.F
abbrev Txt.b_l_draw {K : PySem.W.Frag} {mg : Str → Option Value} (T : Txt K mg) := T.D_l_draw.b
abbrev Txt.g_l_draw {K : PySem.W.Frag} {mg : Str → Option Value} (T : Txt K mg) := T.D_l_draw.g
abbrev Txt.f_l_choice {K : PySem.W.Frag} {mg : Str → Option Value} (T : Txt K mg) := T.D_l_choice.f
abbrev Txt.d_l_choice {K : PySem.W.Frag} {mg : Str → Option Value} (T : Txt K mg) := T.D_l_choice.d
abbrev Txt.F_l_choice {K : PySem.W.Frag} {mg : Str → Option Value} (T : Txt K mg) := T.D_l_choice.F
abbrev Txt.b_l_choice {K : PySem.W.Frag} {mg : Str → Option Value} (T : Txt K mg) := T.D_l_choice.b
abbrev Txt.g_l_choice {K : PySem.W.Frag} {mg : Str → Option Value} (T : Txt K mg) := T.D_l_choice.g
abbrev Txt.f_l_divisor {K : PySem.W.Frag} {mg : Str → Option Value} (T : Txt K mg) := T.D_l_divisor.f
abbrev Txt.d_l_divisor {K : PySem.W.Frag} {mg : Str → Option Value} (T : Txt K mg) := T.D_l_divisor.d
abbrev Txt.F_l_divisor {K : PySem.W.Frag} {mg : Str → Option Value} (T : Txt K mg) := T.D_l_divisor.F
abbrev Txt.b_l_divisor {K : PySem.W.Frag} {mg : Str → Option Value} (T : Txt K mg) := T.D_l_divisor.b
abbrev Txt.g_l_divisor {K : PySem.W.Frag} {mg : Str → Option Value} (T : Txt K mg) := T.D_l_divisor.g
abbrev Txt.f_l_reduce {K : PySem.W.Frag} {mg : Str → Option Value} (T : Txt K mg) := T.D_l_reduce.f
abbrev Txt.d_l_reduce {K : PySem.W.Frag} {mg : Str → Option Value} (T : Txt K mg) := T.D_l_reduce.d
abbrev Txt.F_l_reduce {K : PySem.W.Frag} {mg : Str → Option Value} (T : Txt K mg) := T.D_l_reduce.F
abbrev Txt.b_l_reduce {K : PySem.W.Frag} {mg : Str → Option Value} (T : Txt K mg) := T.D_l_reduce.b
abbrev Txt.g_l_reduce {K : PySem.W.Frag} {mg : Str → Option Value} (T : Txt K mg) := T.D_l_reduce.g
abbrev Txt.f_l_add {K : PySem.W.Frag} {mg : Str → Option Value} (T : Txt K mg) := T.D_l_add.f
abbrev Txt.d_l_add {K : PySem.W.Frag} {mg : Str → Option Value} (T : Txt K mg) := T.D_l_add.d
abbrev Txt.F_l_add {K : PySem.W.Frag} {mg : Str → Option Value} (T : Txt K mg) := T.D_l_add.F
abbrev Txt.b_l_add {K : PySem.W.Frag} {mg : Str → Option Value} (T : Txt K mg) := T.D_l_add.b
abbrev Txt.g_l_add {K : PySem.W.Frag} {mg : Str → Option Value} (T : Txt K mg) := T.D_l_add.g
abbrev Txt.f_l_subtract {K : PySem.W.Frag} {mg : Str → Option Value} (T : Txt K mg) := T.D_l_subtract.f
abbrev Txt.d_l_subtract {K : PySem.W.Frag} {mg : Str → Option Value} (T : Txt K mg) := T.D_l_subtract.d
abbrev Txt.F_l_subtract {K : PySem.W.Frag} {mg : Str → Option Value} (T : Txt K mg) := T.D_l_subtract.F
abbrev Txt.b_l_subtract {K : PySem.W.Frag} {mg : Str → Option Value} (T : Txt K mg) := T.D_l_subtract.b
abbrev Txt.g_l_subtract {K : PySem.W.Frag} {mg : Str → Option Value} (T : Txt K mg) := T.D_l_subtract.g
abbrev Txt.f_l_times {K : PySem.W.Frag} {mg : Str → Option Value} (T : Txt K mg) := T.D_l_times.f
abbrev Txt.d_l_times {K : PySem.W.Frag} {mg : Str → Option Value} (T : Txt K mg) := T.D_l_times.d
abbrev Txt.F_l_times {K : PySem.W.Frag} {mg : Str → Option Value} (T : Txt K mg) := T.D_l_times.F
abbrev Txt.b_l_times {K : PySem.W.Frag} {mg : Str → Option Value} (T : Txt K mg) := T.D_l_times.b
abbrev Txt.g_l_times {K : PySem.W.Frag} {mg : Str → Option Value} (T : Txt K mg) := T.D_l_times.g
abbrev Txt.f_l_floor {K : PySem.W.Frag} {mg : Str → Option Value} (T : Txt K mg) := T.D_l_floor.f
abbrev Txt.d_l_floor {K : PySem.W.Frag} {mg : Str → Option Value} (T : Txt K mg) := T.D_l_floor.d
abbrev Txt.F_l_floor {K : PySem.W.Frag} {mg : Str → Option Value} (T : Txt K mg) := T.D_l_floor.F
abbrev Txt.b_l_floor {K : PySem.W.Frag} {mg : Str → Option Value} (T : Txt K mg) := T.D_l_floor.b
abbrev Txt.g_l_floor {K : PySem.W.Frag} {mg : Str → Option Value} (T : Txt K mg) := T.D_l_floor.g
abbrev Txt.f_law {K : PySem.W.Frag} {mg : Str → Option Value} (T : Txt K mg) := T.D_law.f
abbrev Txt.d_law {K : PySem.W.Frag} {mg : Str → Option Value} (T : Txt K mg) := T.D_law.d
abbrev Txt.F_law {K : PySem.W.Frag} {mg : Str → Option Value} (T : Txt K mg) := T.D_law.F
abbrev Txt.b_law {K : PySem.W.Frag} {mg : Str → Option Value} (T : Txt K mg) := T.D_law.b
abbrev Txt.g_law {K : PySem.W.Frag} {mg : Str → Option Value} (T : Txt K mg) := T.D_law.g
section
variable {P : Program} {w : World} {K : PySem.W.Frag} {mg : Str → Option Value} {base : Heap}
theorem ok_gcd (T : Txt K mg) : FnOk P w K mg base CX0 1 T.f_gcd T.d_gcd Ps_gcd spGcd := by
  refine T.F_gcd.ok sc_gcd (fun vs H Q E h => ?_) (fun cdv A outer s H vs Q E hr h => ?_)
  · obtain ⟨a, b, rfl, _⟩ := h; rfl
  · obtain ⟨a, b, rfl, q⟩ := h
    refine ⟨_, (pss_cons (ps_par (i := 0) (j := 1) (by rfl) sc_gcd.nd rfl rfl (by decide) rfl rfl (pa_cons (pe_callB call_abs (by rfl) T.m_abs (by decide +kernel) (pa_cons (pv 0) pa_nil)) (pa_cons (pe_callB call_abs (by rfl) T.m_abs (by decide +kernel) (pa_cons (pv 1) pa_nil)) pa_nil)) (by rfl))
      (pss_cons (ps_while PassesOwn.never (pt_cmpR op_ne (pv 1) pe_int (nomark _)) (pss_one (ps_par (i := 0) (j := 1) (by rfl) sc_gcd.nd rfl rfl (by decide) rfl rfl (pa_cons (pv 1) (pa_cons (pe_op op_mod (pv 0) (pv 1)) pa_nil)) (by rfl))))
      (pss_one (ps_ret (pv 0))))), ?_⟩
    refine ⟨.int a, rfl, a, rfl, .int b, rfl, b, rfl, _, _, rfl, ?_⟩
    refine while_by (fun σ H' => H' = H ∧ ∃ x y : Int, σ = [some (.int x), some (.int y)] ∧ 0 ≤ x ∧ 0 ≤ y ∧ Int.gcd x y = Int.gcd a b) (fun σ _ => match σ with | [_, some (.int y)] => y.toNat | _ => 0) ?_ ?_ (fun σ H Q Q' h ⟨v, e, s, k, ek, q⟩ => ⟨v, e, s, k, ek, h _ _ q⟩)
    · refine ⟨rfl, _, _, rfl, ?_, ?_, ?_⟩
      · rw [abs_nat]; omega
      · rw [abs_nat]; omega
      · rw [abs_nat, abs_nat]; unfold Int.gcd; simp only [Int.natAbs_natCast]
    · rintro σ H' ⟨rfl, x, y, rfl, hx, hy, e⟩
      refine ⟨.int y, rfl, rfl, _, rfl, brNe (fun h0 => ?_) (fun h0 => ?_)⟩
      · refine ⟨.int y, rfl, .int x, rfl, .int y, rfl, _, _, rfl, rfl, (by show 0 < y; omega), _, _, rfl, ⟨rfl, _, _, rfl, hy, ?_, ?_⟩, ?_⟩
        · exact Int.emod_nonneg _ h0
        · rw [← e]; exact gcd_step hx (by omega)
        · show (x % y).toNat < y.toNat
          have := Int.emod_lt_of_pos x (show 0 < y by omega)
          have := Int.emod_nonneg x h0
          omega
      · subst h0
        refine ⟨_, rfl, ?_⟩
        have : x = (Int.gcd a b : Int) := by rw [← e]; unfold Int.gcd; simp; omega
        show Q (.int x) _
        rw [this]; exact q
theorem ok_l_divisor (T : Txt K mg) : FnOk P w K mg base CX0 1 T.f_l_divisor T.d_l_divisor Ps_l_divisor spGcd := by
  refine T.F_l_divisor.ok sc_l_divisor (fun vs H Q E h => ?_) (fun cdv A outer s H vs Q E hr h => ?_)
  · obtain ⟨a, b, rfl, _⟩ := h; rfl
  · obtain ⟨a, b, rfl, q⟩ := h
    refine ⟨_, (pss_cons (ps_par (i := 0) (j := 1) (by rfl) sc_l_divisor.nd rfl rfl (by decide) rfl rfl (pa_cons (pe_callB call_abs (by rfl) T.m_abs (by decide +kernel) (pa_cons (pv 0) pa_nil)) (pa_cons (pe_callB call_abs (by rfl) T.m_abs (by decide +kernel) (pa_cons (pv 1) pa_nil)) pa_nil)) (by rfl))
      (pss_cons (ps_while PassesOwn.never (pt_cmpR op_ne (pv 1) pe_int (nomark _)) (pss_one (ps_par (i := 0) (j := 1) (by rfl) sc_l_divisor.nd rfl rfl (by decide) rfl rfl (pa_cons (pv 1) (pa_cons (pe_op op_mod (pv 0) (pv 1)) pa_nil)) (by rfl))))
      (pss_one (ps_ret (pv 0))))), ?_⟩
    refine ⟨.int a, rfl, a, rfl, .int b, rfl, b, rfl, _, _, rfl, ?_⟩
    refine while_by (fun σ H' => H' = H ∧ ∃ x y : Int, σ = [some (.int x), some (.int y)] ∧ 0 ≤ x ∧ 0 ≤ y ∧ Int.gcd x y = Int.gcd a b) (fun σ _ => match σ with | [_, some (.int y)] => y.toNat | _ => 0) ?_ ?_ (fun σ H Q Q' h ⟨v, e, s, k, ek, q⟩ => ⟨v, e, s, k, ek, h _ _ q⟩)
    · refine ⟨rfl, _, _, rfl, ?_, ?_, ?_⟩
      · rw [abs_nat]; omega
      · rw [abs_nat]; omega
      · rw [abs_nat, abs_nat]; unfold Int.gcd; simp only [Int.natAbs_natCast]
    · rintro σ H' ⟨rfl, x, y, rfl, hx, hy, e⟩
      refine ⟨.int y, rfl, rfl, _, rfl, brNe (fun h0 => ?_) (fun h0 => ?_)⟩
      · refine ⟨.int y, rfl, .int x, rfl, .int y, rfl, _, _, rfl, rfl, (by show 0 < y; omega), _, _, rfl, ⟨rfl, _, _, rfl, hy, ?_, ?_⟩, ?_⟩
        · exact Int.emod_nonneg _ h0
        · rw [← e]; exact gcd_step hx (by omega)
        · show (x % y).toNat < y.toNat
          have := Int.emod_lt_of_pos x (show 0 < y by omega)
          have := Int.emod_nonneg x h0
          omega
      · subst h0
        refine ⟨_, rfl, ?_⟩
        have : x = (Int.gcd a b : Int) := by rw [← e]; unfold Int.gcd; simp; omega
        show Q (.int x) _
        rw [this]; exact q
theorem ok_l_reduce (T : Txt K mg) : FnOk P w K mg base CX0 2 T.f_l_reduce T.d_l_reduce Ps_l_reduce (spRed K) := by
  refine T.F_l_reduce.ok sc_l_reduce (fun vs H Q E h => ?_) (fun cdv A outer s H vs Q E hr h => ?_)
  · obtain ⟨n, d, rfl, _⟩ := h; rfl
  · obtain ⟨n, d, rfl, hd, bn, bd, q⟩ := h
    have hg : (0 : Int) < (Int.gcd n d : Int) := by have := gcd_pos (n := n) hd; omega
    have bg : B 8000 (Int.gcd n d : Int) := bd.le (gcd_le hd)
    have b1 : B 1 1 := by unfold B; decide
    have b2 : B 1 (-1) := by unfold B; decide
    refine ⟨_, (pss_cons (ps_set (i := 2) sc_l_reduce.nd rfl (Or.inl rfl) (pe_call (ok_l_divisor T) hr (by rfl) T.g_l_divisor T.F_l_divisor.kp T.b_l_divisor .nil pass0 (pa_cons (pv 0) (pa_cons (pv 1) pa_nil))))
      (pss_cons (ps_set (i := 3) sc_l_reduce.nd rfl (Or.inl rfl) (pe_ifExp (pt_cmpR op_gt (pv 1) pe_int (nomark _)) pe_int (pe_un un_neg pe_int)))
      (pss_one (ps_ret (pe_tup (pa_cons (pe_op op_fdivW (pe_op op_mulW (pv 3) (pv 0)) (pv 2)) (pa_cons (pe_op op_fdivW (pe_op op_mulW (pv 3) (pv 1)) (pv 2)) pa_nil))))))), ?_⟩
    refine ⟨_, rfl, _, rfl, n, d, rfl, ?_⟩
    refine ⟨_, rfl, _, _, rfl, rfl, _, rfl, brI (fun hpos => ?_) (fun hneg => ?_)⟩
    · refine ⟨_, rfl, _, rfl, _, _, rfl, rfl, cm b1 bn, _, rfl, _, _, rfl, rfl, cdW hg bg, _, rfl, _, rfl, _, _, rfl, rfl, cm b1 bd, _, rfl, _, _, rfl, rfl, cdW hg bg, sizeLine2 (by simp), fun p np => ?_⟩
      refine q _ _ (same_upd np) ⟨p, rfl, .inl (.inl ?_)⟩
      rw [upd_same]; dsimp only
      rw [Int.one_mul, Int.one_mul]
      unfold rn rd
      rw [if_neg (by omega), show (d.natAbs : Int) = d by omega]
    · refine ⟨_, rfl, ?_⟩
      refine ⟨_, rfl, _, rfl, _, _, rfl, rfl, cm b2 bn, _, rfl, _, _, rfl, rfl, cdW hg bg, _, rfl, _, rfl, _, _, rfl, rfl, cm b2 bd, _, rfl, _, _, rfl, rfl, cdW hg bg, sizeLine2 (by simp), fun p np => ?_⟩
      refine q _ _ (same_upd np) ⟨p, rfl, .inl (.inl ?_)⟩
      rw [upd_same]; dsimp only
      rw [show (-1 : Int) * n = -n by omega, show (-1 : Int) * d = -d by omega]
      unfold rn rd
      rw [if_pos (by omega), show (d.natAbs : Int) = -d by omega]
theorem ok_l_add (T : Txt K mg) : FnOk P w K mg base CX0 3 T.f_l_add T.d_l_add Ps_l_add (spFF K fun a b c d => (rn (a * d + c * b) (b * d), rd (a * d + c * b) (b * d))) := by
  refine T.F_l_add.ok sc_l_add (fun vs H Q E h => ?_) (fun cdv A outer s H vs Q E hr h => ?_)
  · obtain ⟨x, y, _, _, _, _, rfl, _⟩ := h; rfl
  · obtain ⟨x, y, a, b, c, d, rfl, ⟨p1, rfl, h1⟩, ⟨p2, rfl, h2⟩, hb, hd, ba, bb, bc, bd, q⟩ := h
    refine ⟨_, (pss_one (ps_ret (pe_call (ok_l_reduce T) hr (by rfl) T.g_l_reduce T.F_l_reduce.kp T.b_l_reduce .nil pass0 (pa_cons (pe_op op_add (pe_op op_mulW (pe_ix ix_tup (pv 0) pe_int (fun _ _ => rfl)) (pe_ix ix_tup (pv 1) pe_int (fun _ _ => rfl))) (pe_op op_mulW (pe_ix ix_tup (pv 1) pe_int (fun _ _ => rfl)) (pe_ix ix_tup (pv 0) pe_int (fun _ _ => rfl)))) (pa_cons (pe_op op_mulW (pe_ix ix_tup (pv 0) pe_int (fun _ _ => rfl)) (pe_ix ix_tup (pv 1) pe_int (fun _ _ => rfl))) pa_nil))))), ?_⟩
    exact ⟨_, rfl, _, _, _, _, rfl, rfl, h1, ix0, _, rfl, _, _, _, _, rfl, rfl, h2, ix1, _, _, rfl, rfl, (cm ba bd), _, rfl, _, _, _, _, rfl, rfl, h2, ix0, _, rfl, _, _, _, _, rfl, rfl, h1, ix1, _, _, rfl, rfl, (cm bc bb), _, _, rfl, rfl, _, rfl, _, _, _, _, rfl, rfl, h1, ix1, _, rfl, _, _, _, _, rfl, rfl, h2, ix1, _, _, rfl, rfl, (cm bb bd), _, _, rfl, Int.mul_ne_zero hb hd, ((ba.mul bd).add (bc.mul bb)).mono, (bb.mul bd).mono, q⟩
theorem ok_l_subtract (T : Txt K mg) : FnOk P w K mg base CX0 3 T.f_l_subtract T.d_l_subtract Ps_l_subtract (spFF K fun a b c d => (rn (a * d - c * b) (b * d), rd (a * d - c * b) (b * d))) := by
  refine T.F_l_subtract.ok sc_l_subtract (fun vs H Q E h => ?_) (fun cdv A outer s H vs Q E hr h => ?_)
  · obtain ⟨x, y, _, _, _, _, rfl, _⟩ := h; rfl
  · obtain ⟨x, y, a, b, c, d, rfl, ⟨p1, rfl, h1⟩, ⟨p2, rfl, h2⟩, hb, hd, ba, bb, bc, bd, q⟩ := h
    refine ⟨_, (pss_one (ps_ret (pe_call (ok_l_reduce T) hr (by rfl) T.g_l_reduce T.F_l_reduce.kp T.b_l_reduce .nil pass0 (pa_cons (pe_op op_sub (pe_op op_mulW (pe_ix ix_tup (pv 0) pe_int (fun _ _ => rfl)) (pe_ix ix_tup (pv 1) pe_int (fun _ _ => rfl))) (pe_op op_mulW (pe_ix ix_tup (pv 1) pe_int (fun _ _ => rfl)) (pe_ix ix_tup (pv 0) pe_int (fun _ _ => rfl)))) (pa_cons (pe_op op_mulW (pe_ix ix_tup (pv 0) pe_int (fun _ _ => rfl)) (pe_ix ix_tup (pv 1) pe_int (fun _ _ => rfl))) pa_nil))))), ?_⟩
    exact ⟨_, rfl, _, _, _, _, rfl, rfl, h1, ix0, _, rfl, _, _, _, _, rfl, rfl, h2, ix1, _, _, rfl, rfl, (cm ba bd), _, rfl, _, _, _, _, rfl, rfl, h2, ix0, _, rfl, _, _, _, _, rfl, rfl, h1, ix1, _, _, rfl, rfl, (cm bc bb), _, _, rfl, rfl, _, rfl, _, _, _, _, rfl, rfl, h1, ix1, _, rfl, _, _, _, _, rfl, rfl, h2, ix1, _, _, rfl, rfl, (cm bb bd), _, _, rfl, Int.mul_ne_zero hb hd, ((ba.mul bd).sub (bc.mul bb)).mono, (bb.mul bd).mono, q⟩
theorem ok_l_floor (T : Txt K mg) : FnOk P w K mg base CX0 1 T.f_l_floor T.d_l_floor Ps_l_floor (spFloor K) := by
  refine T.F_l_floor.ok sc_l_floor (fun vs H Q E h => ?_) (fun cdv A outer s H vs Q E hr h => ?_)
  · obtain ⟨x, _, _, rfl, _⟩ := h; rfl
  · obtain ⟨x, a, b, rfl, ⟨p1, rfl, h1⟩, hb, bb, q⟩ := h
    refine ⟨_, (pss_one (ps_ret (pe_op op_fdivW (pe_ix ix_tup (pv 0) pe_int (fun _ _ => rfl)) (pe_ix ix_tup (pv 0) pe_int (fun _ _ => rfl))))), ?_⟩
    exact ⟨_, rfl, _, _, _, _, rfl, rfl, h1, ix0, _, rfl, _, _, _, _, rfl, rfl, h1, ix1, _, _, rfl, rfl, cdW hb bb, q⟩
theorem ok_l_times (T : Txt K mg) : FnOk P w K mg base CX0 3 T.f_l_times T.d_l_times Ps_l_times (spTimes K) := by
  refine T.F_l_times.ok sc_l_times (fun vs H Q E h => ?_) (fun cdv A outer s H vs Q E hr h => ?_)
  · obtain ⟨n, x, _, _, rfl, _⟩ := h; rfl
  · obtain ⟨n, x, a, b, rfl, ⟨p1, rfl, h1⟩, hb, bn, ba, bb, q⟩ := h
    refine ⟨_, (pss_one (ps_ret (pe_call (ok_l_reduce T) hr (by rfl) T.g_l_reduce T.F_l_reduce.kp T.b_l_reduce .nil pass0 (pa_cons (pe_op op_mulW (pv 0) (pe_ix ix_tup (pv 1) pe_int (fun _ _ => rfl))) (pa_cons (pe_ix ix_tup (pv 1) pe_int (fun _ _ => rfl)) pa_nil))))), ?_⟩
    exact ⟨_, rfl, _, rfl, _, _, _, _, rfl, rfl, h1, ix0, _, _, rfl, rfl, (cm bn ba), _, rfl, _, _, _, _, rfl, rfl, h1, ix1, _, _, rfl, hb, (bn.mul ba).mono, bb.mono, q⟩
theorem ok_common_denominator (T : Txt K mg) : FnOk P w K mg base CX0 2 T.f_common_denominator T.d_common_denominator Ps_common_denominator (spCden K) := by
  refine T.F_common_denominator.ok sc_common_denominator (fun vs H Q E h => ?_) (fun cdv A outer s H vs Q E hr h => ?_)
  · obtain ⟨l, xs, qs, k, rfl, _⟩ := h; rfl
  · obtain ⟨l, xs, qs, k, rfl, hx, hf, hb, hk, hl, q⟩ := h
    have el := hf.len
    have hqpos := hf.pos
    have turn : ∀ (i : Nat) (x : V), xs[i]? = some x → ∃ a b, Fr K H x a b ∧ 0 < b ∧ B k b ∧ cden (qs.take (i + 1)) 1 = lstep (cden (qs.take i) 1) b := fun i x hx => by
      obtain ⟨a, b, e1, f, p⟩ := hf.get hx
      exact ⟨a, b, f, p, hb _ (List.mem_of_getElem? e1), cden_take e1⟩
    have bstep : ∀ {i : Nat} {r b : Int}, 0 < r → 0 < b → B (1 + k * i) r → B k b → B (1 + k * (i + 1)) (lstep r b) := fun h1 h2 h3 h4 => by
      have := (h3.mul h4).le (lstep_le h1 h2)
      rw [Nat.mul_add, Nat.mul_one, ← Nat.add_assoc]; exact this
    rcases hx with hx | hx
    · refine ⟨_, (pss_cons (ps_set (i := 1) sc_common_denominator.nd rfl (Or.inl rfl) pe_int)
      (pss_cons (ps_for PassesOwn.never rfl (pi_list (pv 0)) (pg_name (i := 2) sc_common_denominator.nd rfl (Or.inl rfl)) (pss_one (ps_set (i := 1) sc_common_denominator.nd rfl (Or.inl rfl) (pe_op op_mulW (pe_op op_fdivW (pv 1) (pe_call (ok_gcd T) hr (by rfl) T.g_gcd T.F_gcd.kp T.b_gcd .nil pass0 (pa_cons (pv 1) (pa_cons (pe_ix ix_tup (pv 2) pe_int (fun _ _ => rfl)) pa_nil)))) (pe_ix ix_tup (pv 2) pe_int (fun _ _ => rfl))))))
      (pss_one (ps_ret (pv 1))))), ?_⟩
      refine ⟨_, rfl, l, rfl, ⟨_, hx⟩, ?_⟩
      refine for_list (K := K) (xs := xs) (fun i σ H' => H' = H ∧ ∃ (r : Int) (z : Option V), σ = [some (.ref l), some (.int r), z] ∧ r = cden (qs.take i) 1 ∧ 0 < r ∧ B (1 + k * i) r) ⟨rfl, 1, none, rfl, rfl, by decide, B.one⟩ (fun i σ H' _ h => h.1 ▸ hx) ?_ ?_
      · rintro i x σ H' hxi ⟨rfl, r, z, rfl, er, hr0, br⟩
        obtain ⟨a, b, ⟨p, rfl, f⟩, pb, bb, e⟩ := turn i x hxi
        have hil : i < qs.length := by have := (List.getElem?_eq_some_iff.mp hxi).1; omega
        have hle : k * i ≤ k * qs.length := Nat.mul_le_mul_left k (by omega)
        have hk1 : k * 1 ≤ k * qs.length := Nat.mul_le_mul_left k (by omega)
        have bg : B k (Int.gcd r b : Int) := bb.le (gcd_le (by omega))
        have bg2 : B 8000 (Int.gcd r b : Int) := bg.mono (by have : k * 1 ≤ k * qs.length := Nat.mul_le_mul_left k (by omega); omega)
        have bq : B (1 + k * i) (r / (Int.gcd r b : Int)) := br.le (div_abs (gcd_posI pb))
        refine ⟨_, rfl, _, rfl, _, rfl, _, _, _, _, rfl, rfl, f, ix1, r, b, rfl, _, _, rfl, rfl, cdW (gcd_posI pb) bg2, _, rfl, _, _, _, _, rfl, rfl, f, ix1, _, _, rfl, rfl, cm bq bb (by omega) hk (by omega), rfl, lstep r b, _, rfl, ?_, lstep_pos hr0 pb, bstep hr0 pb br bb⟩
        rw [e, er]
      · rintro σ H' ⟨rfl, r, z, rfl, er, _⟩
        refine ⟨_, rfl, ?_⟩
        rw [er, el, List.take_length]; exact q
    · refine ⟨_, (pss_cons (ps_set (i := 1) sc_common_denominator.nd rfl (Or.inl rfl) pe_int)
      (pss_cons (ps_for PassesOwn.never rfl (pi_tup (pv 0)) (pg_name (i := 2) sc_common_denominator.nd rfl (Or.inl rfl)) (pss_one (ps_set (i := 1) sc_common_denominator.nd rfl (Or.inl rfl) (pe_op op_mulW (pe_op op_fdivW (pv 1) (pe_call (ok_gcd T) hr (by rfl) T.g_gcd T.F_gcd.kp T.b_gcd .nil pass0 (pa_cons (pv 1) (pa_cons (pe_ix ix_tup (pv 2) pe_int (fun _ _ => rfl)) pa_nil)))) (pe_ix ix_tup (pv 2) pe_int (fun _ _ => rfl))))))
      (pss_one (ps_ret (pv 1))))), ?_⟩
      refine ⟨_, rfl, l, rfl, ⟨_, hx⟩, ?_⟩
      refine for_tup (K := K) (xs := xs) (fun i σ H' => H' = H ∧ ∃ (r : Int) (z : Option V), σ = [some (.ref l), some (.int r), z] ∧ r = cden (qs.take i) 1 ∧ 0 < r ∧ B (1 + k * i) r) ⟨rfl, 1, none, rfl, rfl, by decide, B.one⟩ (fun i σ H' _ h => h.1 ▸ hx) ?_ ?_
      · rintro i x σ H' hxi ⟨rfl, r, z, rfl, er, hr0, br⟩
        obtain ⟨a, b, ⟨p, rfl, f⟩, pb, bb, e⟩ := turn i x hxi
        have hil : i < qs.length := by have := (List.getElem?_eq_some_iff.mp hxi).1; omega
        have hle : k * i ≤ k * qs.length := Nat.mul_le_mul_left k (by omega)
        have hk1 : k * 1 ≤ k * qs.length := Nat.mul_le_mul_left k (by omega)
        have bg : B k (Int.gcd r b : Int) := bb.le (gcd_le (by omega))
        have bg2 : B 8000 (Int.gcd r b : Int) := bg.mono (by have : k * 1 ≤ k * qs.length := Nat.mul_le_mul_left k (by omega); omega)
        have bq : B (1 + k * i) (r / (Int.gcd r b : Int)) := br.le (div_abs (gcd_posI pb))
        refine ⟨_, rfl, _, rfl, _, rfl, _, _, _, _, rfl, rfl, f, ix1, r, b, rfl, _, _, rfl, rfl, cdW (gcd_posI pb) bg2, _, rfl, _, _, _, _, rfl, rfl, f, ix1, _, _, rfl, rfl, cm bq bb (by omega) hk (by omega), rfl, lstep r b, _, rfl, ?_, lstep_pos hr0 pb, bstep hr0 pb br bb⟩
        rw [e, er]
      · rintro σ H' ⟨rfl, r, z, rfl, er, _⟩
        refine ⟨_, rfl, ?_⟩
        rw [er, el, List.take_length]; exact q
def spWhole (K : PySem.W.Frag) : Sp := fun vs H Q _ => ∃ (x : V) (m a b : Int) (n k : Nat), vs = [x, .int m] ∧ Fr K H x a b ∧ 0 < b ∧ B n a ∧ B n b ∧ B k m ∧ 0 < n ∧ 0 < k ∧ n ≤ 9000 ∧ n + k ≤ 1000000 ∧ ∀ v H', v = .int (a * (m / b)) → H' = H → Q v H'
theorem ok_whole (T : Txt K mg) : FnOk P w K mg base CX0 1 T.f_whole T.d_whole Ps_whole (spWhole K) := by
  refine T.F_whole.ok sc_whole (fun vs H Q E h => ?_) (fun cdv A outer s H vs Q E hr h => ?_)
  · obtain ⟨_, _, _, _, _, _, rfl, _⟩ := h; rfl
  · obtain ⟨x, m, a, b, n, k, rfl, ⟨p, rfl, f⟩, pb, ba, bb, bm, n0, k0, h9, h10, q⟩ := h
    refine ⟨_, (pss_one (ps_ret (pe_op op_mulW (pe_ix ix_tup (pv 0) pe_int (fun _ _ => rfl)) (pe_op op_fdivW (pv 1) (pe_ix ix_tup (pv 0) pe_int (fun _ _ => rfl)))))), ?_⟩
    refine ⟨_, rfl, _, _, _, _, rfl, rfl, f, ix0, _, rfl, _, rfl, _, _, _, _, rfl, rfl, f, ix1, _, _, rfl, rfl, cdW pb bb n0 h9, _, _, rfl, rfl, cm ba (bm.le (div_abs pb)) n0 k0 h10, ?_⟩
    exact q _ _ rfl rfl
theorem ok_floor_sum (T : Txt K mg) : FnOk P w K mg base CX0 3 T.f_floor_sum T.d_floor_sum Ps_floor_sum (spFloorSum K) := by
  refine T.F_floor_sum.ok sc_floor_sum (fun vs H Q E h => ?_) (fun cdv A outer s H vs Q E hr h => ?_)
  · obtain ⟨n, x, y, _, _, _, _, rfl, _⟩ := h; rfl
  · obtain ⟨n, x, y, a, b, c, d, rfl, f1, f2, hb, hd, bn, ba, bb, bc, bd, q⟩ := h
    refine ⟨_, (pss_cons (ps_if (pt_cmpR op_lt (pv 0) pe_int (nomark _)) (pss_one ps_never) pss_nil)
      (pss_cons (ps_set (i := 3) sc_floor_sum.nd rfl (Or.inl rfl) (pe_call (ok_common_denominator T) hr (by rfl) T.g_common_denominator T.F_common_denominator.kp T.b_common_denominator .nil pass0 (pa_cons (pe_lst (pa_cons (pv 1) (pa_cons (pv 2) pa_nil))) pa_nil)))
      (pss_cons (ps_set (i := 4) sc_floor_sum.nd rfl (Or.inl rfl) (pe_call (ok_whole T) (hr.mono (by decide)) (by rfl) T.g_whole T.F_whole.kp T.b_whole .nil pass0 (pa_cons (pv 1) (pa_cons (pv 3) pa_nil))))
      (pss_cons (ps_set (i := 5) sc_floor_sum.nd rfl (Or.inl rfl) (pe_call (ok_whole T) (hr.mono (by decide)) (by rfl) T.g_whole T.F_whole.kp T.b_whole .nil pass0 (pa_cons (pv 2) (pa_cons (pv 3) pa_nil))))
      (pss_cons (ps_set (i := 6) sc_floor_sum.nd rfl (Or.inl rfl) pe_int)
      (pss_one (ps_while PassesOwn.never (pt_val pe_bl) (pss_cons (ps_aug (i := 6) sc_floor_sum.nd rfl (Or.inl rfl) (pe_op op_add (pe_op op_mulW (pe_op op_fdivW (pe_op op_mulW (pv 0) (pe_op op_sub (pv 0) pe_int)) pe_int) (pe_op op_fdivW (pv 4) (pv 3))) (pe_op op_mulW (pv 0) (pe_op op_fdivW (pv 5) (pv 3)))) ip_add)
      (pss_cons (ps_par (i := 4) (j := 5) (by rfl) sc_floor_sum.nd rfl rfl (by decide) rfl rfl (pa_cons (pe_op op_mod (pv 4) (pv 3)) (pa_cons (pe_op op_mod (pv 5) (pv 3)) pa_nil)) (by rfl))
      (pss_cons (ps_set (i := 7) sc_floor_sum.nd rfl (Or.inl rfl) (pe_op op_add (pe_op op_mulW (pv 4) (pv 0)) (pv 5)))
      (pss_cons (ps_if (pt_cmpR op_lt (pv 7) (pv 3) (nomark _)) (pss_one (ps_ret (pv 6))) pss_nil)
      (pss_cons (ps_par (i := 0) (j := 5) (by rfl) sc_floor_sum.nd rfl rfl (by decide) rfl rfl (pa_cons (pe_op op_fdivW (pv 7) (pv 3)) (pa_cons (pe_op op_mod (pv 7) (pv 3)) pa_nil)) (by rfl))
      (pss_one (ps_par (i := 4) (j := 3) (by rfl) sc_floor_sum.nd rfl rfl (by decide) rfl rfl (pa_cons (pv 3) (pa_cons (pv 4) pa_nil)) (by rfl))))))))))))))), ?_⟩
    refine ⟨_, rfl, _, _, rfl, rfl, _, rfl, brI (fun z => absurd z (by omega)) (fun _ => ?_)⟩
    refine ⟨_, rfl, _, rfl, sizeLine2 (by simp), fun l nl => ?_⟩
    have s1 := same_upd (o := HO.lst [x, y]) nl
    have hq : ∀ q ∈ [(a, b), (c, d)], 0 < q.2 := by
      intro q hq; simp only [List.mem_cons, List.not_mem_nil, or_false] at hq; rcases hq with rfl | rfl <;> assumption
    refine ⟨l, _, [(a, b), (c, d)], 1000, rfl, .inl (.inl (.inl upd_same)), .cons (f1.same s1) hb (.cons (f2.same s1) hd .nil), ?_, by decide, by simp, ?_⟩
    · intro q hq; simp only [List.mem_cons, List.not_mem_nil, or_false] at hq; rcases hq with rfl | rfl <;> assumption
    have hden := cden_pos (r := 1) (by decide) hq
    obtain ⟨u, hu⟩ := cden_dvd (r := 1) hq (a, b) (by simp)
    obtain ⟨v, hv⟩ := cden_dvd (r := 1) hq (c, d) (by simp)
    have bden : B 2001 (cden [(a, b), (c, d)] 1) := by
      have p1 := lstep_pos (r := 1) (by decide) hb
      have b1 : B 1001 (lstep 1 b) := (B.one.mul bb).le (lstep_le (by decide) hb)
      exact (b1.mul bd).le (lstep_le p1 hd)
    generalize cden [(a, b), (c, d)] 1 = m at *
    have hu : m = b * u := hu
    have hv : m = d * v := hv
    have eu : m / b = u := by rw [hu]; exact Int.mul_ediv_cancel_left _ (by omega)
    have ev : m / d = v := by rw [hv]; exact Int.mul_ediv_cancel_left _ (by omega)
    have bu : B 2001 u := by rw [← eu]; exact bden.le (div_abs hb)
    have bv : B 2001 v := by rw [← ev]; exact bden.le (div_abs hd)
    obtain ⟨p1, rfl, h1⟩ := f1.same s1
    obtain ⟨p2, rfl, h2⟩ := f2.same s1
    refine ⟨_, rfl, _, rfl, _, m, a, b, 1000, 2001, rfl, ⟨p1, rfl, h1⟩, hb, ba, bb, bden, by decide, by decide, by decide, by decide, fun w1 H1 e1 e2 => ?_⟩
    subst e1 e2
    refine ⟨_, rfl, _, rfl, _, m, c, d, 1000, 2001, rfl, ⟨p2, rfl, h2⟩, hd, bc, bd, bden, by decide, by decide, by decide, by decide, fun w2 H2 e1 e2 => ?_⟩
    subst e1 e2
    have hm0 := hden
    refine while_by (fun σ H' => H' = upd H l (.lst [.ref p1, .ref p2]) ∧ ∃ (cnt : Nat) (den rise bas res : Int) (z : Option V), σ = [some (.int cnt), some (.ref p1), some (.ref p2), some (.int den), some (.int rise), some (.int bas), some (.int res), z] ∧ 0 < den ∧ B 3100 (cnt : Int) ∧ B 3100 den ∧ B 3100 rise ∧ B 3100 bas ∧ res + FS cnt rise bas den = FS n (a * u) (c * v) m) (fun σ _ => match σ with | [_, _, _, some (.int y), _, _, _, _] => y.toNat | _ => 0) ?_ ?_ (fun σ H Q Q' h ⟨c, e, q⟩ => ⟨c, e, h _ _ q⟩)
    · refine ⟨rfl, n, m, a * u, c * v, 0, none, ?_, hden, bn.mono, bden.mono, (ba.mul bu).mono, (bc.mul bv).mono, by omega⟩
      rw [← eu, ← ev]; rfl
    · rintro σ H' ⟨rfl, cnt, den, rise, bas, res, z, rfl, hden, bcnt, bden, brise, bbas, inv⟩
      refine ⟨_, rfl, iteT ?_⟩
      have b2 : B 2 2 := B.of (by decide)
      have bt : B 6300 ((cnt : Int) * (cnt - 1) / 2) := ((bcnt.mul (bcnt.sub (B.one.mono))).mono).le (div_abs (by decide))
      have bq1 : B 3100 (rise / den) := brise.le (div_abs hden)
      have bq2 : B 3100 (bas / den) := bbas.le (div_abs hden)
      refine ⟨_, rfl, _, rfl, _, rfl, _, _, rfl, rfl, _, _, rfl, rfl, cm bcnt (bcnt.sub B.one.mono), _, _, rfl, rfl, cdW (by decide) b2, _, rfl, _, rfl, _, _, rfl, rfl, cdW hden bden, _, _, rfl, rfl, cm bt bq1, _, rfl, _, rfl, _, rfl, _, _, rfl, rfl, cdW hden bden, _, _, rfl, rfl, cm bcnt bq2, _, _, rfl, rfl, _, _, rfl, rfl, ?_⟩
      refine ⟨_, rfl, _, rfl, _, _, rfl, rfl, hden, _, rfl, _, rfl, _, _, rfl, rfl, hden, _, _, rfl, ?_⟩
      have r0 := Int.emod_nonneg rise (show den ≠ 0 by omega)
      have r1 := Int.emod_lt_of_pos rise hden
      have b0 := Int.emod_nonneg bas (show den ≠ 0 by omega)
      have b1 := Int.emod_lt_of_pos bas hden
      have er := Int.mul_ediv_add_emod rise den
      have eb := Int.mul_ediv_add_emod bas den
      have more := FS_more (r := rise % den) (b := bas % den) (x := rise / den) (y := bas / den) hden cnt
      rw [show rise % den + rise / den * den = rise by rw [Int.mul_comm]; omega, show bas % den + bas / den * den = bas by rw [Int.mul_comm]; omega] at more
      have bR : B 3100 (rise % den) := bden.le (by omega)
      have bB : B 3100 (bas % den) := bden.le (by omega)
      have bRc := bR.mul bcnt
      refine ⟨_, rfl, _, rfl, _, _, rfl, rfl, cm bR bcnt, _, rfl, _, _, rfl, rfl, ?_⟩
      have c0 : (0 : Int) ≤ (rise % den) * cnt := Int.mul_nonneg r0 (Int.natCast_nonneg cnt)
      refine ⟨_, rfl, _, rfl, _, _, rfl, rfl, _, rfl, brI (fun hlt => ?_) (fun hge => ?_)⟩
      · refine ⟨_, rfl, ?_⟩
        refine q _ _ s1 fun RR b' M hM e1 e2 => ?_
        have z0 := FS_small (n := cnt) r0 b0 hlt
        have fin : FS n (a * u) (c * v) m = FS n RR b' M := FS_congr hm0 hM (by grind) (by grind)
        show res + ((cnt : Int) * (cnt - 1) / 2 * (rise / den) + (cnt : Int) * (bas / den)) = _
        rw [← fin, ← inv, more, z0]
        have t1 : (cnt : Int) * (cnt - 1) / 2 * (rise / den) = rise / den * ((cnt : Int) * (cnt - 1) / 2) := Int.mul_comm ..
        have t2 : (cnt : Int) * (bas / den) = bas / den * cnt := Int.mul_comm ..
        omega
      · have hR : 0 < (rise % den) := by
          rcases Int.lt_or_eq_of_le r0 with h | h
          · exact h
          · rw [← h, Int.zero_mul] at hge; omega
        have hflip := FS_flip (n := cnt) hR r1 b0 b1
        have hc0 := Int.ediv_nonneg (show 0 ≤ (rise % den) * (cnt : Int) + (bas % den) by omega) (Int.le_of_lt hden)
        have hcl : ((rise % den) * (cnt : Int) + (bas % den)) / den ≤ cnt := by
          have h1 : (rise % den) * (cnt : Int) ≤ (den - 1) * cnt := Int.mul_le_mul_of_nonneg_right (by omega) (Int.natCast_nonneg cnt)
          have h2 : (den - 1) * (cnt : Int) = cnt * den - cnt := by grind
          have h3 : ((cnt : Int) + 1) * den = cnt * den + den := by grind
          have h4 := Int.ediv_lt_of_lt_mul (a := (rise % den) * (cnt : Int) + (bas % den)) (b := (cnt : Int) + 1) hden (by omega)
          omega
        obtain ⟨cn, hcn⟩ := Int.eq_ofNat_of_zero_le hc0
        have m0 := Int.emod_nonneg ((rise % den) * (cnt : Int) + (bas % den)) (show den ≠ 0 by omega)
        have m1 := Int.emod_lt_of_pos ((rise % den) * (cnt : Int) + (bas % den)) hden
        refine ⟨_, rfl, _, rfl, _, _, rfl, rfl, cdW hden bden, _, rfl, _, rfl, _, _, rfl, rfl, hden, _, _, rfl, _, rfl, _, rfl, _, _, rfl, ⟨rfl, cn, (rise % den), den, ((rise % den) * (cnt : Int) + (bas % den)) % den, res + ((cnt : Int) * (cnt - 1) / 2 * (rise / den) + (cnt : Int) * (bas / den)), some (.int ((rise % den) * cnt + bas % den)), ?_, hR, ?_, bR, bden, ?_, ?_⟩, ?_⟩
        · rw [← hcn]; rfl
        · exact bcnt.le (by omega)
        · exact bden.le (by omega)
        · rw [hflip, hcn] at more
          rw [← inv, more]
          have t1 : (cnt : Int) * (cnt - 1) / 2 * (rise / den) = rise / den * ((cnt : Int) * (cnt - 1) / 2) := Int.mul_comm ..
          have t2 : (cnt : Int) * (bas / den) = bas / den * cnt := Int.mul_comm ..
          rw [Int.toNat_natCast]
          omega
        · show (rise % den).toNat < den.toNat
          omega
end
end EP
namespace EP
open PySem PySem.Spec PyProof.Rows L2
section
variable {P : Program} {w : World} {K : PySem.W.Frag} {mg : Str → Option Value} {base : Heap}
theorem ok_l_source (T : Txt K mg) : FnOk P w K mg base CX0 1 T.f_l_source T.d_l_source Ps_l_source (spSource K) := by
  refine T.F_l_source.ok sc_l_source (fun vs H Q E h => ?_) (fun cdv A outer s H vs Q E hr h => ?_)
  · obtain ⟨a, ns, rfl, _⟩ := h; rfl
  · obtain ⟨a, ns, rfl, hS, hlen, q⟩ := h
    refine ⟨_, (pss_cons (ps_set (i := 1) sc_l_source.nd rfl (Or.inl rfl) (pe_op op_add pe_int (pe_op op_mulW pe_int (pe_callB call_len_seq (by rfl) T.m_len PySem.boot_len (pa_cons (pe_slice sl_list (pv 0) po_none (po_some pe_int)) pa_nil)))))
      (pss_cons (ps_for PassesOwn.never rfl (pi_list (pe_slice sl_list (pv 0) po_none (po_some pe_int))) (pg_name (i := 2) sc_l_source.nd rfl (Or.inl rfl)) (pss_one (ps_set (i := 1) sc_l_source.nd rfl (Or.inl rfl) (pe_op op_mod (pe_op op_add (pe_op op_add (pe_op op_mulW (pv 1) pe_int) (pe_op op_mod (pv 2) pe_int)) pe_int) pe_int))))
      (pss_one (ps_ret (pe_lst (pa_cons (pe_callTy call_list_of (by rfl) T.m_list (by decide +kernel) (pa_cons (pe_slice sl_list (pv 0) po_none (po_some pe_int)) pa_nil)) (pa_cons pe_int (pa_cons pe_int (pa_cons (pv 1) pa_nil))))))))), ?_⟩
    have bc : B 7 59 := by unfold B; decide
    have bm : B 32 48271 := by unfold B; decide
    have ecut : cutV (ns.map V.int) none (some 63) = ns.map V.int := by
      unfold cutV
      rw [HT.sIx_none, show HT.sIx (ns.map V.int).length (ns.map V.int).length (some 63) = min 63 (ns.map V.int).length from HT.sIx_nat _ _ 63, List.drop_zero, List.length_map, List.take_of_length_le]
      rw [List.length_map]; omega
    refine ⟨.ref a, rfl, 63, rfl, a, _, rfl, hS, fun c nc => ?_⟩
    rw [ecut]
    have s1 := same_upd (o := HO.lst (ns.map V.int)) nc
    refine ⟨c, _, rfl, .inl (.inl (.inl upd_same)), _, _, rfl, rfl, ?_, _, _, rfl, rfl, ?_⟩
    · rw [List.length_map]; exact cm (n := 7) (m := 7) bc (show (ns.length : Int).natAbs < 2 ^ 7 by omega)
    refine ⟨.ref a, rfl, 63, rfl, a, _, rfl, Evl.ex_l s1 hS, fun c2 nc2 => ?_⟩
    rw [ecut]
    have s2 := same_upd (o := HO.lst (ns.map V.int)) nc2
    refine ⟨c2, rfl, ⟨_, .inl (.inl upd_same)⟩, ?_⟩
    refine for_list (K := K) (xs := ns.map V.int) (fun i σ H' => Same H H' ∧ (H' c2 = some (.lst (ns.map V.int))) ∧ ∃ (sd : Int) (z : Option V), σ = [some (.ref a), some (.int sd), z] ∧ 0 ≤ sd ∧ sd < 2147483563) ?_ ?_ ?_ ?_
    · refine ⟨s1.trans s2, upd_same, _, none, rfl, ?_, ?_⟩
      · rw [List.length_map]; omega
      · rw [List.length_map]; omega
    · rintro i σ H' _ ⟨_, h, _⟩; exact .inl (.inl h)
    · rintro i x σ H' hx ⟨sH, hc2, sd, z, rfl, h0, h1⟩
      obtain ⟨n, hn, rfl⟩ : ∃ n, ns[i]? = some n ∧ V.int n = x := by
        rw [List.getElem?_map] at hx
        cases e : ns[i]? with
        | none => rw [e] at hx; cases hx
        | some n => rw [e] at hx; exact ⟨n, rfl, Option.some.inj hx⟩
      have bs : B 31 sd := by unfold B; omega
      refine ⟨_, rfl, _, _, rfl, rfl, cm bs bm, _, rfl, _, _, rfl, rfl, (by decide : (0:Int) < 2147483563), _, _, rfl, rfl, _, _, rfl, rfl, _, _, rfl, rfl, (by decide : (0:Int) < 2147483563), sH, hc2, _, _, rfl, ?_, ?_⟩
      · exact Int.emod_nonneg _ (by decide)
      · exact Int.emod_lt_of_pos _ (by decide)
    · rintro σ H' ⟨sH, hc2, sd, z, rfl, h0, h1⟩
      refine ⟨.ref a, rfl, 63, rfl, a, _, rfl, Evl.ex_l sH hS, fun c3 nc3 => ?_⟩
      rw [ecut]
      have s3 := same_upd (o := HO.lst (ns.map V.int)) nc3
      refine ⟨c3, _, rfl, .inl (.inl (.inl upd_same)), fun L nL => ?_⟩
      have s4 := same_upd (o := HO.lst (ns.map V.int)) nL
      refine ⟨_, rfl, sizeLine2 (by simp), fun r nr => ?_⟩
      have s5 := same_upd (o := HO.lst [.ref L, .int 0, .int 0, .int sd]) nr
      refine q r _ (((sH.trans s3).trans s4).trans s5) ⟨L, ns, 0, 0, sd, upd_same, ?_, ?_, by omega, by omega, by omega, h0, h1⟩
      · exact s5 _ _ upd_same
      · intro e; subst e; rw [upd_same] at nr; cases nr
theorem ok_l_draw (T : Txt K mg) : FnOk P w K mg base CX0 1 T.f_l_draw T.d_l_draw Ps_l_draw spDraw := by
  refine T.F_l_draw.ok sc_l_draw (fun vs H Q E h => ?_) (fun cdv A outer s H vs Q E hr h => ?_)
  · obtain ⟨a, m, rfl, _⟩ := h; rfl
  · obtain ⟨r, m, rfl, hm, bm, h0R, q⟩ := h
    obtain ⟨L, ns, i, c, sd, hr0, hL, nL, hi, hl, hc, hs0, hs1⟩ := id h0R
    have hrH := hr0
    refine ⟨_, (pss_cons (ps_if (PW.pt (pw_and (pt_cmpR op_eq (pe_ix ix_list (pv 0) pe_int (fun _ _ => rfl)) pe_int (nomark _)) (pw_and1 (pt_cmpR op_lt (pe_ix ix_list (pv 0) pe_int (fun _ _ => rfl)) (pe_callB call_len_seq (by rfl) T.m_len PySem.boot_len (pa_cons (pe_ix ix_list (pv 0) pe_int (fun _ _ => rfl)) pa_nil)) (nomark _))))) (pss_cons (ps_set (i := 2) sc_l_draw.nd rfl (Or.inl rfl) (pe_ix ix_list (pe_ix ix_list (pv 0) pe_int (fun _ _ => rfl)) (pe_ix ix_list (pv 0) pe_int (fun _ _ => rfl)) (fun _ _ => rfl)))
      (pss_cons (ps_asg (pe_op op_add (pe_ix ix_list (pv 0) pe_int (fun _ _ => rfl)) pe_int) (pg_sub (pv 0) pe_int set_list))
      (pss_one (ps_if (pt_cmpR op_ge (pv 2) (pe_op op_pow pe_int pe_int) (nomark _)) (pss_one (ps_asg (pv 2) (pg_sub (pv 0) pe_int set_list))) (pss_one (ps_asg (pe_op op_mod (pe_op op_add (pe_op op_add (pe_op op_mulW (pe_ix ix_list (pv 0) pe_int (fun _ _ => rfl)) pe_int) (pe_op op_mulW (pe_op op_mod (pv 2) pe_int) pe_int)) (pe_ix ix_list (pv 0) pe_int (fun _ _ => rfl))) pe_int) (pg_sub (pv 0) pe_int set_list))))))) pss_nil)
      (pss_cons (ps_if (pt_cmpR op_gt (pe_ix ix_list (pv 0) pe_int (fun _ _ => rfl)) pe_int (nomark _)) (pss_cons (ps_set (i := 3) sc_l_draw.nd rfl (Or.inl rfl) (pe_op op_mod (pe_ix ix_list (pv 0) pe_int (fun _ _ => rfl)) (pv 1)))
      (pss_cons (ps_asg (pe_op op_fdivW (pe_ix ix_list (pv 0) pe_int (fun _ _ => rfl)) (pv 1)) (pg_sub (pv 0) pe_int set_list))
      (pss_one (ps_ret (pv 3))))) pss_nil)
      (pss_cons (ps_set (i := 4) sc_l_draw.nd rfl (Or.inl rfl) (pe_ix ix_list (pv 0) pe_int (fun _ _ => rfl)))
      (pss_cons (ps_asg (pe_op op_mod (pe_op op_add (pe_op op_add (pe_op op_mulW (pv 4) (pv 4)) (pe_op op_mulW (pv 4) pe_int)) pe_int) pe_int) (pg_sub (pv 0) pe_int set_list))
      (pss_one (ps_ret (pe_op op_mod (pe_op op_add (pe_op op_fdivW (pe_ix ix_list (pv 0) pe_int (fun _ _ => rfl)) pe_int) (pe_op op_mulW (pe_op op_mod (pe_ix ix_list (pv 0) pe_int (fun _ _ => rfl)) pe_int) pe_int)) (pv 1)))))))), ?_⟩
    refine seq_by (fun σ H' => ∃ (i c sd : Int) (z1 : Option V), σ = [some (.ref r), some (.int m), z1, none, none] ∧ Gw r H H' ∧ H' r = some (.lst [.ref L, .int i, .int c, .int sd]) ∧ H' L = some (.lst (ns.map V.int)) ∧ 0 ≤ i ∧ 0 ≤ c ∧ 0 ≤ sd ∧ sd < 2147483563) ?_ (fun fin => ?_)
    · rintro σ H' ⟨i, c, sd, z1, rfl, g, hr0, hL, hi, hc, hs0, hs1⟩
      have hR : SqL K H' r [.ref L, .int i, .int c, .int sd] := .inl (.inl hr0)
      have mo : ∀ (c' sd' : Int), 0 ≤ c' → 0 ≤ sd' → sd' < 2147483563 → Mo r H (upd H' r (.lst [.ref L, .int i, .int c', .int sd'])) := fun c' sd' h1 h2 h3 =>
        ⟨fun a o n e => by rw [upd_ne n]; exact g a o n e, h0R, fun L' hL' => by
          obtain ⟨_, _, _, _, e1, _⟩ := hL'
          rw [hrH] at e1; cases e1
          exact ⟨ns, i, c', sd', upd_same, by rw [upd_ne nL]; exact hL, nL, hi, hl, h1, h2, h3⟩⟩
      refine ⟨_, rfl, _, _, _, _, rfl, rfl, hR, ix2, _, _, rfl, rfl, _, rfl, brI (fun hp => ?_) (fun hp => ?_)⟩
      · refine ⟨_, rfl, _, _, _, _, rfl, rfl, hR, ix2, _, rfl, _, _, rfl, rfl, hm, ?_⟩
        refine ⟨_, rfl, _, _, _, _, rfl, rfl, hR, ix2, _, rfl, _, _, rfl, rfl, cdW hm bm, _, rfl, r, _, _, 2, rfl, rfl, hr0, rfl, ?_⟩
        refine ⟨_, rfl, ?_⟩
        refine q _ _ (Int.emod_nonneg _ (by omega)) (Int.emod_lt_of_pos _ hm) ?_
        exact mo _ _ (Int.ediv_nonneg hc (by omega)) hs0 hs1
      · refine ⟨_, rfl, _, _, _, _, rfl, rfl, hR, ix3, ?_⟩
        have bs : B 31 sd := by unfold B; omega
        have b4 : B 20 40123 := by unfold B; decide
        have h1 := Int.emod_nonneg (sd * sd + sd * 40123 + 70001) (show (2147483563 : Int) ≠ 0 by decide)
        have h2 := Int.emod_lt_of_pos (sd * sd + sd * 40123 + 70001) (show (0 : Int) < 2147483563 by decide)
        refine ⟨_, rfl, _, rfl, _, _, rfl, rfl, cm bs bs, _, rfl, _, _, rfl, rfl, cm bs b4, _, _, rfl, rfl, _, _, rfl, rfl, _, _, rfl, rfl, (by decide : (0 : Int) < 2147483563), _, rfl, r, _, _, 3, rfl, rfl, hr0, rfl, ?_⟩
        have hR2 : SqL K (upd H' r (.lst [.ref L, .int i, .int c, .int ((sd * sd + sd * 40123 + 70001) % 2147483563)])) r [.ref L, .int i, .int c, .int ((sd * sd + sd * 40123 + 70001) % 2147483563)] := .inl (.inl upd_same)
        have b5 : B 7 59 := by unfold B; decide
        have b6 : ∀ e : Int, B 13 (e % 8111) := fun e => by unfold B; have := Int.emod_nonneg e (show (8111 : Int) ≠ 0 by decide); have := Int.emod_lt_of_pos e (show (0 : Int) < 8111 by decide); omega
        have b7 : B 8 229 := by unfold B; decide
        refine ⟨_, rfl, _, _, _, _, rfl, rfl, hR2, ix3, _, _, rfl, rfl, cdW (by decide) b5, _, rfl, _, _, _, _, rfl, rfl, hR2, ix3, _, _, rfl, rfl, (by decide : (0 : Int) < 8111), _, _, rfl, rfl, cm (b6 _) b7, _, _, rfl, rfl, _, rfl, _, _, rfl, rfl, hm, ?_⟩
        exact q _ _ (Int.emod_nonneg _ (by omega)) (Int.emod_lt_of_pos _ hm) (mo _ _ hc h1 h2)
    · have hR : SqL K H r [.ref L, .int i, .int c, .int sd] := .inl (.inl hr0)
      have hLL : SqL K H L (ns.map V.int) := .inl (.inl hL)
      refine ⟨_, rfl, _, _, _, _, rfl, rfl, hR, ix2, rfl, _, rfl, brEq (fun hc0 => ?_) (fun hc0 => ?_)⟩
      · refine ⟨_, rfl, _, _, _, _, rfl, rfl, hR, ix1, _, rfl, _, _, _, _, rfl, rfl, hR, ix0, L, _, rfl, .inl hLL, _, _, rfl, rfl, _, rfl, brI (fun hlt => ?_) (fun hlt => ?_)⟩
        · rw [List.length_map] at hlt
          obtain ⟨k, rfl⟩ := Int.eq_ofNat_of_zero_le hi
          have hk : k < ns.length := by omega
          refine ⟨_, rfl, _, _, _, _, rfl, rfl, hR, ix0, _, rfl, _, _, _, _, rfl, rfl, hR, ix1, L, _, _, .int ns[k], rfl, rfl, hLL, atI_nat (by rw [List.getElem?_map, List.getElem?_eq_getElem hk]; rfl), ?_⟩
          refine ⟨_, rfl, _, _, _, _, rfl, rfl, hR, ix1, _, _, rfl, rfl, _, rfl, r, _, _, 1, rfl, rfl, hr0, rfl, ?_⟩
          have hR2 : SqL K (upd H r (.lst [.ref L, .int (k + 1), .int c, .int sd])) r [.ref L, .int (k + 1), .int c, .int sd] := .inl (.inl upd_same)
          refine ⟨_, rfl, _, _, rfl, rfl, (⟨by decide, by decide, by decide⟩ : CPow 10 18), _, _, rfl, rfl, _, rfl, brI (fun hbig => ?_) (fun hbig => ?_)⟩
          · refine ⟨_, rfl, _, rfl, r, _, _, 2, rfl, rfl, upd_same, rfl, ?_⟩
            refine fin _ _ ⟨k + 1, ns[k], sd, _, rfl, fun a o n e => ?_, ?_, ?_, by omega, ?_, hs0, hs1⟩
            · rw [upd_ne n, upd_ne n]; exact e
            · rw [upd_same]; rfl
            · rw [upd_ne nL, upd_ne nL]; exact hL
            · have : (10 : Int) ^ (18 : Int).toNat ≤ ns[k] := hbig
              have h10 : (0 : Int) ≤ 10 ^ (18 : Int).toNat := by decide
              omega
          · have bs : B 31 sd := by unfold B; omega
            have b4 : B 20 40692 := by unfold B; decide
            have b6 : B 32 (ns[k] % 2147483563) := by unfold B; have := Int.emod_nonneg ns[k] (show (2147483563 : Int) ≠ 0 by decide); have := Int.emod_lt_of_pos ns[k] (show (0 : Int) < 2147483563 by decide); omega
            have b7 : B 8 67 := by unfold B; decide
            refine ⟨_, rfl, _, _, _, _, rfl, rfl, hR2, ix3, _, _, rfl, rfl, cm bs b4, _, rfl, _, _, rfl, rfl, (by decide : (0 : Int) < 2147483563), _, _, rfl, rfl, cm b6 b7, _, _, rfl, rfl, _, rfl, _, _, _, _, rfl, rfl, hR2, ix1, _, _, rfl, rfl, _, _, rfl, rfl, (by decide : (0 : Int) < 2147483563), _, rfl, r, _, _, 3, rfl, rfl, upd_same, rfl, ?_⟩
            refine fin _ _ ⟨k + 1, c, (sd * 40692 + ns[k] % 2147483563 * 67 + (k + 1)) % 2147483563, _, rfl, fun a o n e => ?_, ?_, ?_, by omega, hc, Int.emod_nonneg _ (by decide), Int.emod_lt_of_pos _ (by decide)⟩
            · rw [upd_ne n, upd_ne n]; exact e
            · rw [upd_same]; rfl
            · rw [upd_ne nL, upd_ne nL]; exact hL
        · exact fin _ _ ⟨i, c, sd, _, rfl, fun a o n e => e, hr0, hL, hi, hc, hs0, hs1⟩
      · exact fin _ _ ⟨i, c, sd, _, rfl, fun a o n e => e, hr0, hL, hi, hc, hs0, hs1⟩
theorem ok_l_choice (T : Txt K mg) : FnOk P w K mg base CX0 2 T.f_l_choice T.d_l_choice Ps_l_choice (spChoice K) := by
  refine T.F_l_choice.ok sc_l_choice (fun vs H Q E h => ?_) (fun cdv A outer s H vs Q E hr h => ?_)
  · obtain ⟨a, l, xs, rfl, _⟩ := h; rfl
  · obtain ⟨r, l, xs, rfl, hx, hlr, h0, hl, hR, q⟩ := h
    refine ⟨_, (pss_one (ps_ret (pe_ix ix_list (pv 1) (pe_call (ok_l_draw T) hr (by rfl) T.g_l_draw T.F_l_draw.kp T.b_l_draw .nil pass0 (pa_cons (pv 0) (pa_cons (pe_callB call_len_seq (by rfl) T.m_len PySem.boot_len (pa_cons (pv 1) pa_nil)) pa_nil))) (fun _ _ => rfl)))), ?_⟩
    refine ⟨_, rfl, _, rfl, _, rfl, l, xs, rfl, .inl hx, r, _, rfl, by omega, ?_, hR, fun x H' x0 x1 mo => ?_⟩
    · show B 2000 (xs.length : Int)
      exact B.mono (n := 20) (show (xs.length : Int).natAbs < 2 ^ 20 by omega)
    · obtain ⟨j, rfl⟩ := Int.eq_ofNat_of_zero_le x0
      have hj : j < xs.length := by omega
      exact ⟨l, xs, _, xs[j], rfl, rfl, sql_mo mo hlr hx, atI_nat (List.getElem?_eq_getElem hj), q _ _ (List.getElem_mem hj) mo⟩
end
end EP
namespace EP
open PySem PySem.Spec PyProof.Rows L2
section
variable {P : Program} {w : World} {K : PySem.W.Frag} {mg : Str → Option Value} {base : Heap}
def spLaw (K : PySem.W.Frag) : Sp := fun vs H Q _ => ∃ (a : Addr) (ns : List Int), vs = [.ref a] ∧ SqL K H a (ns.map V.int) ∧ ns.length ≤ 63 ∧ ∀ H', Q (.bl true) H'
set_option maxHeartbeats 8000000 in
theorem ok_law (T : Txt K mg) : FnOk P w K mg base CX0 4 T.f_law T.d_law Ps_law (spLaw K) := by
  refine T.F_law.ok sc_law (fun vs H Q E h => ?_) (fun cdv A outer s H vs Q E hr h => ?_)
  · obtain ⟨a, ns, rfl, _⟩ := h; rfl
  · obtain ⟨sc, ns, rfl, hS, hlen, q⟩ := h
    refine ⟨_, (pss_cons (ps_set (i := 1) sc_law.nd rfl (Or.inr rfl) (pe_call (ok_l_source T) (hr.mono (by decide)) (by rfl) T.g_l_source T.F_l_source.kp T.b_l_source .nil pass0 (pa_cons (pv 0) pa_nil)))
      (pss_cons (ps_for PassesOwn.never rfl (pi_range1 rfl T.m_range (pa_cons pe_int pa_nil)) (pg_name (i := 2) sc_law.nd rfl (Or.inl rfl)) (pss_cons (ps_asg (pe_lc (own := [("_law_k", 16)]) (g := (gName 16)) (tt := tYes) rfl sc_law.nd (pi_tup (pe_tup (pa_cons pe_int (pa_cons pe_int pa_nil)))) (blkOk_by (N := N_law) (sc := defScope s_law) (by decide +kernel)) (fun _ _ _ _ _ => (pg_name (i := 16) sc_law.nd rfl (Or.inl rfl))) (fun _ _ _ _ _ => pts_nil) (fun _ _ _ _ _ => (pe_call (ok_l_reduce T) (hr.mono (by decide)) (by rfl) T.g_l_reduce T.F_l_reduce.kp T.b_l_reduce .nil pass0 (pa_cons (pe_op op_sub (pe_call (ok_l_draw T) (hr.mono (by decide)) (by rfl) T.g_l_draw T.F_l_draw.kp T.b_l_draw .nil pass0 (pa_cons (pv 1) (pa_cons pe_int pa_nil))) pe_int) (pa_cons (pe_op op_add pe_int (pe_call (ok_l_draw T) (hr.mono (by decide)) (by rfl) T.g_l_draw T.F_l_draw.kp T.b_l_draw .nil pass0 (pa_cons (pv 1) (pa_cons pe_int pa_nil)))) pa_nil))))) (pg_unl (by rfl) (pgs_cons (pg_name (i := 3) sc_law.nd rfl (Or.inr rfl)) (pgs_cons (pg_name (i := 4) sc_law.nd rfl (Or.inr rfl)) pgs_nil))))
      (pss_cons (ps_set (i := 5) sc_law.nd rfl (Or.inl rfl) (pe_call (ok_l_choice T) (hr.mono (by decide)) (by rfl) T.g_l_choice T.F_l_choice.kp T.b_l_choice .nil pass0 (pa_cons (pv 1) (pa_cons (pe_lst (pa_cons (pe_call (ok_l_draw T) (hr.mono (by decide)) (by rfl) T.g_l_draw T.F_l_draw.kp T.b_l_draw .nil pass0 (pa_cons (pv 1) (pa_cons (pe_op op_pow pe_int pe_int) pa_nil))) (pa_cons (pe_call (ok_l_draw T) (hr.mono (by decide)) (by rfl) T.g_l_draw T.F_l_draw.kp T.b_l_draw .nil pass0 (pa_cons (pv 1) (pa_cons (pe_op op_pow pe_int pe_int) pa_nil))) (pa_cons (pe_call (ok_l_draw T) (hr.mono (by decide)) (by rfl) T.g_l_draw T.F_l_draw.kp T.b_l_draw .nil pass0 (pa_cons (pv 1) (pa_cons pe_int pa_nil))) pa_nil)))) pa_nil))))
      (pss_cons (ps_set (i := 6) sc_law.nd rfl (Or.inl rfl) (pe_call (ok_l_draw T) (hr.mono (by decide)) (by rfl) T.g_l_draw T.F_l_draw.kp T.b_l_draw .nil pass0 (pa_cons (pv 1) (pa_cons (pe_op op_add (pv 5) pe_int) pa_nil))))
      (pss_cons (ps_set (i := 7) sc_law.nd rfl (Or.inl rfl) (pe_call (ok_floor_sum T) hr (by rfl) T.g_floor_sum T.F_floor_sum.kp T.b_floor_sum .nil pass0 (pa_cons (pv 5) (pa_cons (pv 3) (pa_cons (pv 4) pa_nil)))))
      (pss_cons (ps_if (PW.pt (pw_or (pt_not (pt_val (pe_callB call_isi (by rfl) T.m_isinstance (by decide +kernel) (pa_cons (pv 7) (pa_cons (pe_bltn (v := .ty "int") (u := .type "int") (by rfl) T.m_int (by decide +kernel) rfl) pa_nil))))) (pw_or1 (pt_val (pe_callB call_isi (by rfl) T.m_isinstance (by decide +kernel) (pa_cons (pv 7) (pa_cons (pe_bltn (v := .ty "bool") (u := .type "bool") (by rfl) T.m_bool (by decide +kernel) rfl) pa_nil))))))) (pss_one (ps_ret pe_bl)) pss_nil)
      (pss_cons (ps_set (i := 8) sc_law.nd rfl (Or.inl rfl) (pe_call (ok_floor_sum T) hr (by rfl) T.g_floor_sum T.F_floor_sum.kp T.b_floor_sum .nil pass0 (pa_cons (pe_op op_sub (pv 5) (pv 6)) (pa_cons (pv 3) (pa_cons (pe_call (ok_l_add T) hr (by rfl) T.g_l_add T.F_l_add.kp T.b_l_add .nil pass0 (pa_cons (pv 4) (pa_cons (pe_call (ok_l_times T) hr (by rfl) T.g_l_times T.F_l_times.kp T.b_l_times .nil pass0 (pa_cons (pv 6) (pa_cons (pv 3) pa_nil))) pa_nil))) pa_nil)))))
      (pss_cons (ps_if (pt_cmpR op_ne (pe_op op_add (pe_call (ok_floor_sum T) hr (by rfl) T.g_floor_sum T.F_floor_sum.kp T.b_floor_sum .nil pass0 (pa_cons (pv 6) (pa_cons (pv 3) (pa_cons (pv 4) pa_nil)))) (pv 8)) (pv 7) (nomark _)) (pss_one (ps_ret pe_bl)) pss_nil)
      (pss_cons (ps_par (i := 9) (j := 10) (by rfl) sc_law.nd rfl rfl (by decide) rfl rfl (pa_cons (pe_op op_sub (pe_call (ok_l_draw T) (hr.mono (by decide)) (by rfl) T.g_l_draw T.F_l_draw.kp T.b_l_draw .nil pass0 (pa_cons (pv 1) (pa_cons pe_int pa_nil))) pe_int) (pa_cons (pe_op op_sub (pe_call (ok_l_draw T) (hr.mono (by decide)) (by rfl) T.g_l_draw T.F_l_draw.kp T.b_l_draw .nil pass0 (pa_cons (pv 1) (pa_cons pe_int pa_nil))) pe_int) pa_nil)) (by rfl))
      (pss_cons (ps_set (i := 11) sc_law.nd rfl (Or.inl rfl) (pe_call (ok_floor_sum T) hr (by rfl) T.g_floor_sum T.F_floor_sum.kp T.b_floor_sum .nil pass0 (pa_cons (pv 5) (pa_cons (pe_call (ok_l_add T) hr (by rfl) T.g_l_add T.F_l_add.kp T.b_l_add .nil pass0 (pa_cons (pv 3) (pa_cons (pe_tup (pa_cons (pv 9) (pa_cons pe_int pa_nil))) pa_nil))) (pa_cons (pe_call (ok_l_add T) hr (by rfl) T.g_l_add T.F_l_add.kp T.b_l_add .nil pass0 (pa_cons (pv 4) (pa_cons (pe_tup (pa_cons (pv 10) (pa_cons pe_int pa_nil))) pa_nil))) pa_nil)))))
      (pss_cons (ps_if (pt_cmpR op_ne (pv 11) (pe_op op_add (pe_op op_add (pv 7) (pe_op op_mulW (pv 9) (pe_op op_fdivW (pe_op op_mulW (pv 5) (pe_op op_sub (pv 5) pe_int)) pe_int))) (pe_op op_mulW (pv 10) (pv 5))) (nomark _)) (pss_one (ps_ret pe_bl)) pss_nil)
      (pss_cons (ps_set (i := 12) sc_law.nd rfl (Or.inl rfl) (pe_call (ok_l_add T) hr (by rfl) T.g_l_add T.F_l_add.kp T.b_l_add .nil pass0 (pa_cons (pv 4) (pa_cons (pe_call (ok_l_times T) hr (by rfl) T.g_l_times T.F_l_times.kp T.b_l_times .nil pass0 (pa_cons (pe_op op_sub (pv 5) pe_int) (pa_cons (pv 3) pa_nil))) pa_nil))))
      (pss_cons (ps_if (pt_cmpR op_ne (pe_call (ok_floor_sum T) hr (by rfl) T.g_floor_sum T.F_floor_sum.kp T.b_floor_sum .nil pass0 (pa_cons (pv 5) (pa_cons (pe_call (ok_l_times T) hr (by rfl) T.g_l_times T.F_l_times.kp T.b_l_times .nil pass0 (pa_cons (pe_op op_sub pe_int pe_int) (pa_cons (pv 3) pa_nil))) (pa_cons (pv 12) pa_nil)))) (pv 7) (nomark _)) (pss_one (ps_ret pe_bl)) pss_nil)
      (pss_cons (ps_set (i := 13) sc_law.nd rfl (Or.inl rfl) (pe_tup (pa_cons pe_int (pa_cons (pe_op op_mulW (pe_ix ix_tup (pv 3) pe_int (fun _ _ => rfl)) (pe_ix ix_tup (pv 4) pe_int (fun _ _ => rfl))) pa_nil))))
      (pss_cons (ps_set (i := 14) sc_law.nd rfl (Or.inl rfl) (pe_call (ok_floor_sum T) hr (by rfl) T.g_floor_sum T.F_floor_sum.kp T.b_floor_sum .nil pass0 (pa_cons (pv 5) (pa_cons (pe_call (ok_l_times T) hr (by rfl) T.g_l_times T.F_l_times.kp T.b_l_times .nil pass0 (pa_cons (pe_op op_sub pe_int pe_int) (pa_cons (pv 3) pa_nil))) (pa_cons (pe_call (ok_l_subtract T) hr (by rfl) T.g_l_subtract T.F_l_subtract.kp T.b_l_subtract .nil pass0 (pa_cons (pe_call (ok_l_subtract T) hr (by rfl) T.g_l_subtract T.F_l_subtract.kp T.b_l_subtract .nil pass0 (pa_cons (pe_tup (pa_cons pe_int (pa_cons pe_int pa_nil))) (pa_cons (pv 13) pa_nil))) (pa_cons (pv 4) pa_nil))) pa_nil)))))
      (pss_cons (ps_if (pt_cmpR op_ne (pe_op op_add (pv 14) (pv 7)) pe_int (nomark _)) (pss_one (ps_ret pe_bl)) pss_nil)
      (pss_cons (ps_setLc (i := 15) (own := [("_law_k", 16)]) (g := (gName 16)) (tt := tYes) rfl sc_law.nd rfl rfl (sw_true rfl rfl rfl (by decide +kernel)) (pi_range1 rfl T.m_range (pa_cons (pe_callB (call_min2 rfl) (by rfl) T.m_min (by decide +kernel) (pa_cons (pv 5) (pa_cons pe_int pa_nil))) pa_nil)) (blkOk_by (N := N_law) (sc := defScope s_law) (by decide +kernel)) (fun _ _ _ _ _ => (pg_name (i := 16) sc_law.nd rfl (Or.inl rfl))) (fun _ _ _ _ _ => pts_nil) (fun _ _ _ _ _ => (pe_call (ok_l_floor T) (hr.mono (by decide)) (by rfl) T.g_l_floor T.F_l_floor.kp T.b_l_floor .nil pass0 (pa_cons (pe_call (ok_l_add T) hr (by rfl) T.g_l_add T.F_l_add.kp T.b_l_add .nil pass0 (pa_cons (pv 4) (pa_cons (pe_call (ok_l_times T) hr (by rfl) T.g_l_times T.F_l_times.kp T.b_l_times .nil pass0 (pa_cons (pv 16) (pa_cons (pv 3) pa_nil))) pa_nil))) pa_nil))))
      (pss_one (ps_if (pt_cmpR op_ne (pe_call (ok_floor_sum T) hr (by rfl) T.g_floor_sum T.F_floor_sum.kp T.b_floor_sum .nil pass0 (pa_cons (pe_callB (call_min2 rfl) (by rfl) T.m_min (by decide +kernel) (pa_cons (pv 5) (pa_cons pe_int pa_nil))) (pa_cons (pv 3) (pa_cons (pv 4) pa_nil)))) (pe_callB (cr_sum rfl) (by rfl) T.m_sum (by decide +kernel) (pa_cons (pv 15) pa_nil)) (nomark _)) (pss_one (ps_ret pe_bl)) pss_nil)))))))))))))))))))
      (pss_one (ps_ret pe_bl)))), ?_⟩
    refine ⟨_, rfl, sc, ns, rfl, hS, hlen, fun r H0 s0 hR => ?_⟩
    refine ⟨3, rfl, by decide, by decide, ?_⟩
    refine for_range (n := 3) (fun i σ H' => Rng H' r ∧ ∃ z2 z3 z4 z5 z6 z7 z8 z9 z10 z11 z12 z13 z14 z15 z16, σ = [some (.ref sc), some (.ref r), z2, z3, z4, z5, z6, z7, z8, z9, z10, z11, z12, z13, z14, z15, z16]) ⟨hR, _, _, _, _, _, _, _, _, _, _, _, _, _, _, _, rfl⟩ ?_ ?_
    · rintro i σ Hi hi ⟨hR, z2, z3, z4, z5, z6, z7, z8, z9, z10, z11, z12, z13, z14, z15, z16, rfl⟩
      -- slope, offset
      refine ⟨sizeLine2 (by simp), fun pt nt => ?_⟩
      have mt := Mo.new (o := HO.tup [.int 0, .int 1]) hR nt
      refine ⟨pt, rfl, ⟨_, .inl (.inl upd_same)⟩, fun D nD => ?_⟩
      refine lc_it (walk_tup (xs := [.int 0, .int 1])) (fun i H' => Mo r (upd Hi pt (.tup [.int 0, .int 1])) H' ∧ ∃ vs qs, H' D = some (.lst vs) ∧ vs.length = i ∧ Fqs K H' 10 vs qs) ⟨(Mo.refl mt.b).mut nD, [], [], upd_same, rfl, .nil⟩ (fun i H' _ h => sqt_mo h.1 (.inl (.inl upd_same))) ?_ ?_
      · rintro i x H1 H2 hi ⟨m1, vs, qs, hD, hl, hv⟩ ⟨rfl, hx⟩
        refine ⟨rfl, ?_⟩
        refine ⟨_, rfl, r, 2001, rfl, by decide, (B.of (n := 11) (by decide)).mono, m1.b, fun x H3 x0 x1 m3 => ?_⟩
        refine ⟨_, _, rfl, rfl, _, rfl, r, 1000, rfl, by decide, (B.of (n := 11) (by decide)).mono, m3.b, fun y H4 y0 y1 m4 => ?_⟩
        have bn : B 10 (x - 1000) := B.of (by omega)
        have bd : B 10 (1 + y) := B.of (by omega)
        refine ⟨_, _, rfl, rfl, _, _, rfl, by omega, bn.mono, bd.mono, fun v H5 s5 f5 => ?_⟩
        have m5 := (m3.trans m4).trans (.same m4.b s5)
        have Dr : D ≠ r := mt.b.ne nD
        have hD5 : H5 D = some (.lst vs) := m5.g _ _ Dr hD
        refine ⟨vs, hD5, Nat.lt_of_lt_of_le (show vs.length < 1000 by simp at hi; omega) (by decide), (m1.trans m5).mut nD, vs ++ [v], qs ++ [(rn (x - 1000) (1 + y), rd (x - 1000) (1 + y))], upd_same, by rw [List.length_append, hl]; rfl, ?_⟩
        exact .snoc ((hv.mo m5).mut hD5) ((Fq.red (by omega) f5 bn bd).mut hD5)
      rintro H1 ⟨m1, vs, qs, hD, hl, hv⟩
      obtain ⟨v1, v2, a, b, c, d, rfl, f1, f2⟩ := hv.two hl
      refine ⟨D, [v1, v2], rfl, .inl (.inl hD), rfl, v1, [v2], rfl, v2, [], rfl, rfl, ?_⟩
      have hR := m1.b
      clear m1 hv hl hD nD mt nt
      -- count
      have c20 : CPow 10 20 := ⟨by decide, by decide, by decide⟩
      have c6 : CPow 10 6 := ⟨by decide, by decide, by decide⟩
      refine ⟨_, rfl, _, rfl, _, _, rfl, rfl, c20, r, _, rfl, by decide, (B.of (n := 67) (by decide)).mono, hR, fun x1 H2 x10 x11 m2 => ?_⟩
      refine ⟨_, rfl, _, _, rfl, rfl, c6, r, _, rfl, by decide, (B.of (n := 67) (by decide)).mono, m2.b, fun x2 H3 x20 x21 m3 => ?_⟩
      refine ⟨_, rfl, r, 100, rfl, by decide, (B.of (n := 67) (by decide)).mono, m3.b, fun x3 H4 x30 x31 m4 => ?_⟩
      refine ⟨sizeLine2 (by simp), fun l nl => ?_⟩
      have m5 := Mo.new (o := HO.lst [.int x1, .int x2, .int x3]) m4.b nl
      refine ⟨r, l, _, rfl, .inl (.inl upd_same), m4.b.ne nl, by simp, by simp, m5.b, fun xc H5 hxc m6 => ?_⟩
      simp only [Int.reduceToNat, Int.reducePow] at x11 x21
      obtain ⟨n, rfl, bn⟩ : ∃ n : Nat, xc = .int n ∧ B 67 (n : Int) := by
        simp only [List.mem_cons, List.not_mem_nil, or_false] at hxc
        rcases hxc with rfl | rfl | rfl
        · obtain ⟨n, rfl⟩ := Int.eq_ofNat_of_zero_le x10; exact ⟨n, rfl, B.of (by simp only [Nat.reducePow]; omega)⟩
        · obtain ⟨n, rfl⟩ := Int.eq_ofNat_of_zero_le x20; exact ⟨n, rfl, B.of (by simp only [Nat.reducePow]; omega)⟩
        · obtain ⟨n, rfl⟩ := Int.eq_ofNat_of_zero_le x30; exact ⟨n, rfl, B.of (by simp only [Nat.reducePow]; omega)⟩
      have m7 := (((m2.trans m3).trans m4).trans m5).trans m6
      have f1 := f1.mo m7
      have f2 := f2.mo m7
      have hR := m7.b
      clear m7 m6 m5 m4 m3 m2 hxc nl
      -- first
      refine ⟨_, rfl, _, rfl, _, _, rfl, rfl, r, _, rfl, by omega, (bn.add (B.one.mono)).mono, hR, fun x H6 x0 x1 m6 => ?_⟩
      obtain ⟨fi, rfl⟩ := Int.eq_ofNat_of_zero_le x0
      have hfi : fi ≤ n := by omega
      have f1 := f1.mo m6
      have f2 := f2.mo m6
      have hR := m6.b
      clear m6 x0 x1
      have bfi : B 67 (fi : Int) := bn.le (by omega)
      have hM : 0 < b * d := Int.mul_pos f1.p f2.p
      have r1 : Rv a b (a * d) (b * d) := by unfold Rv; grind
      have r2 : Rv c d (c * b) (b * d) := by unfold Rv; grind
      have ro : ∀ k : Int, Rv k 1 (k * (b * d)) (b * d) := fun k => by unfold Rv; grind
      have hb0 : b ≠ 0 := Int.ne_of_gt f1.p
      have hd0 : d ≠ 0 := Int.ne_of_gt f2.p
      -- whole
      refine ⟨_, rfl, _, rfl, _, rfl, n, v1, v2, a, b, c, d, rfl, f1.f, f2.f, f1.p, f2.p, bn.mono, f1.ba.mono, f1.bb.mono, f2.ba.mono, f2.bb.mono, fun z0 H7 s7 h0 => ?_⟩
      have e0 := h0 _ _ _ hM r1.fs r2.fs
      have f1 := f1.same s7
      have f2 := f2.same s7
      have hR := hR.same s7
      have ty : TyX K H7 (.int z0) (.type "int") := .base (.int z0)
      refine ⟨_, rfl, _, _, _, _, _, rfl, .ty _, ty, kt_int_int, _, rfl, iteF ⟨_, rfl, _, _, _, _, _, rfl, .ty _, ty, kt_int_bool, _, rfl, iteF ?_⟩⟩
      -- rest
      refine ⟨_, rfl, _, rfl, _, _, rfl, rfl, _, rfl, _, rfl, _, rfl, _, rfl, _, v1, a, b, rfl, f1.f, hb0, bfi.mono, f1.ba.mono, f1.bb.mono, fun v3 H8 s8 f3 => ?_⟩
      have q3 := Rv.red hb0 (r1.times (n := fi))
      have g3 : Fq K H8 77 v3 _ _ := .red hb0 f3 (bfi.mul f1.ba) f1.bb.mono
      have f2' := f2.same s8
      refine ⟨v2, v3, c, d, _, _, rfl, f2'.f, g3.f, hd0, Int.ne_of_gt g3.p, f2'.ba.mono, f2'.bb.mono, g3.ba.mono, g3.bb.mono, fun v4 H9 s9 f4 => ?_⟩
      dsimp only at f4
      have hdd := Int.mul_ne_zero hd0 (Int.ne_of_gt g3.p)
      have q4 := Rv.red hdd (r2.add q3)
      have g4 : Fq K H9 100 v4 _ _ := .red hdd f4 (((f2'.ba.mono (m := 20)).mul g3.bb).mono.add (g3.ba.mul (f2'.bb.mono (m := 20)))).mono (f2'.bb.mul g3.bb).mono
      have bnf : B 67 ((n - fi : Nat) : Int) := bn.le (by omega)
      refine ⟨n - fi, v1, v4, a, b, _, _, ?_, ((f1.same s8).same s9).f, g4.f, f1.p, g4.p, bnf.mono, f1.ba.mono, f1.bb.mono, g4.ba.mono, g4.bb.mono, fun z1 HA sA h1 => ?_⟩
      · rw [show ((n - fi : Nat) : Int) = (n : Int) - fi by omega]; rfl
      have e1 := h1 _ _ _ hM r1.fs q4.fs
      have sB := (s8.trans s9).trans sA
      have f1 := f1.same sB
      have f2 := f2.same sB
      have hR := hR.same sB
      clear g4 g3 f4 f3 f2' s9 s8 sA sB q3 q4 hdd
      -- the split
      refine ⟨_, rfl, _, rfl, _, rfl, fi, v1, v2, a, b, c, d, rfl, f1.f, f2.f, f1.p, f2.p, bfi.mono, f1.ba.mono, f1.bb.mono, f2.ba.mono, f2.bb.mono, fun z2 H8 s8 h2 => ?_⟩
      have e2 := h2 _ _ _ hM r1.fs r2.fs
      refine ⟨_, rfl, _, _, rfl, rfl, _, rfl, rfl, _, rfl, brNe (fun z => absurd ?_ z) (fun _ => ?_)⟩
      · have sp := FS_split (n1 := fi) (n2 := n - fi) (r := a * d) (b := c * b) (m := b * d)
        rw [show fi + (n - fi) = n by omega] at sp
        omega
      have f1 := f1.same s8
      have f2 := f2.same s8
      have hR := hR.same s8
      clear s8
      -- a, b
      refine ⟨_, rfl, r, 19, rfl, by decide, (B.of (n := 67) (by decide)).mono, hR, fun xa H8 xa0 xa1 m8 => ?_⟩
      refine ⟨_, _, rfl, rfl, _, rfl, r, 19, rfl, by decide, (B.of (n := 67) (by decide)).mono, m8.b, fun xb H9 xb0 xb1 m9 => ?_⟩
      refine ⟨_, _, rfl, rfl, _, _, rfl, ?_⟩
      have m10 := m8.trans m9
      have f1 := f1.mo m10
      have f2 := f2.mo m10
      have hR := m10.b
      clear m8 m9 m10
      have bxa : B 5 (xa - 9) := B.of (by omega)
      have bxb : B 5 (xb - 9) := B.of (by omega)
      -- more
      refine ⟨_, rfl, _, rfl, _, rfl, sizeLine2 (by simp), fun pa na => ?_⟩
      have s1 := same_upd (o := HO.tup [.int (xa - 9), .int 1]) na
      refine ⟨v1, _, a, b, xa - 9, 1, rfl, (f1.same s1).f, ⟨_, rfl, .inl (.inl upd_same)⟩, hb0, by decide, f1.ba.mono, f1.bb.mono, bxa.mono, B.one.mono, fun v3 H10 s10 f3 => ?_⟩
      dsimp only at f3
      have hb1 : b * 1 ≠ 0 := by omega
      have q3 := Rv.red hb1 (r1.add (ro (xa - 9)))
      have g3 : Fq K H10 20 v3 _ _ := .red hb1 f3 ((f1.ba.mul B.one).mono.add ((bxa.mul f1.bb).mono (m := 16))).mono (f1.bb.mul B.one).mono
      have f2 := (f2.same s1).same s10
      refine ⟨_, rfl, _, rfl, sizeLine2 (by simp), fun pb nb => ?_⟩
      have s2 := same_upd (o := HO.tup [.int (xb - 9), .int 1]) nb
      refine ⟨v2, _, c, d, xb - 9, 1, rfl, (f2.same s2).f, ⟨_, rfl, .inl (.inl upd_same)⟩, hd0, by decide, f2.ba.mono, f2.bb.mono, bxb.mono, B.one.mono, fun v4 H11 s11 f4 => ?_⟩
      dsimp only at f4
      have hd1 : d * 1 ≠ 0 := by omega
      have q4 := Rv.red hd1 (r2.add (ro (xb - 9)))
      have g4 : Fq K H11 20 v4 _ _ := .red hd1 f4 ((f2.ba.mul B.one).mono.add ((bxb.mul f2.bb).mono (m := 16))).mono (f2.bb.mul B.one).mono
      have g3 := (g3.same s2).same s11
      refine ⟨n, v3, v4, _, _, _, _, rfl, g3.f, g4.f, g3.p, g4.p, bn.mono, g3.ba.mono, g3.bb.mono, g4.ba.mono, g4.bb.mono, fun z3 H12 s12 h3 => ?_⟩
      have e3 := h3 _ _ _ hM q3.fs q4.fs
      rw [FS_more hM n] at e3
      have sB := ((s1.trans s10).trans (s2.trans s11)).trans s12
      have f1 := f1.same sB
      have f2 := (f2.same (s2.trans s11)).same s12
      have hR := hR.same sB
      clear g3 g4 f3 f4 s1 s10 s2 s11 s12 sB q3 q4 na nb hb1 hd1
      have b2 : B 2 2 := B.of (by decide)
      have bt : B 200 ((n : Int) * (n - 1) / 2) := ((bn.mul (bn.sub B.one.mono)).mono).le (div_abs (by decide))
      refine ⟨_, rfl, _, rfl, _, rfl, _, rfl, _, rfl, _, _, rfl, rfl, _, _, rfl, rfl, cm bn (bn.sub B.one.mono), _, _, rfl, rfl, cdW (by decide) b2, _, _, rfl, rfl, cm bxa bt, _, _, rfl, rfl, _, rfl, _, rfl, _, _, rfl, rfl, cm bxb bn, _, _, rfl, rfl, rfl, _, rfl, brNe (fun z => absurd ?_ z) (fun _ => ?_)⟩
      · rw [e3, e0]
      -- last
      refine ⟨_, rfl, _, rfl, _, _, rfl, rfl, _, rfl, _, v1, a, b, rfl, f1.f, hb0, (bn.sub B.one.mono).mono, f1.ba.mono, f1.bb.mono, fun v3 H8 s8 f3 => ?_⟩
      have q3 := Rv.red hb0 (r1.times (n := (n : Int) - 1))
      have g3 : Fq K H8 78 v3 _ _ := .red hb0 f3 ((bn.sub B.one.mono).mul f1.ba) f1.bb.mono
      have f2' := f2.same s8
      refine ⟨v2, v3, c, d, _, _, rfl, f2'.f, g3.f, hd0, Int.ne_of_gt g3.p, f2'.ba.mono, f2'.bb.mono, g3.ba.mono, g3.bb.mono, fun v4 H9 s9 f4 => ?_⟩
      dsimp only at f4
      have hdd := Int.mul_ne_zero hd0 (Int.ne_of_gt g3.p)
      have q4 := Rv.red hdd (r2.add q3)
      have g4 : Fq K H9 100 v4 _ _ := .red hdd f4 (((f2'.ba.mono (m := 20)).mul g3.bb).mono.add (g3.ba.mul (f2'.bb.mono (m := 20)))).mono (f2'.bb.mul g3.bb).mono
      have f1 := (f1.same s8).same s9
      have f2 := f2'.same s9
      have hR := (hR.same s8).same s9
      clear g3 f3 f4 f2' s9 s8 hdd
      -- the terms in the opposite order
      refine ⟨_, rfl, _, _, rfl, rfl, _, rfl, _, v1, a, b, rfl, f1.f, hb0, (B.of (n := 2) (by decide)).mono, f1.ba.mono, f1.bb.mono, fun v5 H8 s8 f5 => ?_⟩
      have q5 := Rv.red hb0 (r1.times (n := 0 - 1))
      have b01 : B 2 (0 - 1) := B.of (by decide)
      have g5 : Fq K H8 12 v5 _ _ := .red hb0 f5 (b01.mul f1.ba) f1.bb.mono
      have g4 := g4.same s8
      refine ⟨_, rfl, n, v5, v4, _, _, _, _, rfl, g5.f, g4.f, g5.p, g4.p, bn.mono, g5.ba.mono, g5.bb.mono, g4.ba.mono, g4.bb.mono, fun z4 H9 s9 h4 => ?_⟩
      have e4 := h4 _ _ _ hM q5.fs q4.fs
      have f1 := (f1.same s8).same s9
      have f2 := (f2.same s8).same s9
      have hR := (hR.same s8).same s9
      refine ⟨_, rfl, rfl, _, rfl, brNe (fun z => absurd ?_ z) (fun _ => ?_)⟩
      · rw [e4, e0, show (0 - 1 : Int) * (a * d) = -(a * d) by omega, FS_rev]
      clear g4 g5 f5 q5 q4 q3 s8 s9
      -- tiny, high
      obtain ⟨p1, rfl, h1⟩ := id f1.f
      obtain ⟨p2, rfl, h2⟩ := id f2.f
      refine ⟨_, rfl, _, _, _, _, rfl, rfl, h1, ix1, _, rfl, _, _, _, _, rfl, rfl, h2, ix1, _, _, rfl, rfl, cm f1.bb f2.bb, sizeLine2 (by simp), fun pt nt => ?_⟩
      have s1 := same_upd (o := HO.tup [.int 1, .int (b * d)]) nt
      have f1 := f1.same s1
      have f2 := f2.same s1
      have hR := hR.same s1
      have ft : Fr K (upd H9 pt (.tup [.int 1, .int (b * d)])) (.ref pt) 1 (b * d) := ⟨_, rfl, .inl (.inl upd_same)⟩
      refine ⟨_, rfl, _, _, rfl, rfl, _, rfl, _, _, a, b, rfl, f1.f, hb0, (B.of (n := 2) (by decide)).mono, f1.ba.mono, f1.bb.mono, fun v5 H10 s10 f5 => ?_⟩
      have q5 := Rv.red hb0 (r1.times (n := 0 - 1))
      have g5 : Fq K H10 12 v5 _ _ := .red hb0 f5 (b01.mul f1.ba) f1.bb.mono
      refine ⟨sizeLine2 (by simp), fun po no => ?_⟩
      have s2 := same_upd (o := HO.tup [.int 1, .int 1]) no
      refine ⟨_, rfl, _, _, 1, 1, 1, b * d, rfl, ⟨_, rfl, .inl (.inl upd_same)⟩, (ft.same s10).same s2, by decide, Int.ne_of_gt hM, B.one.mono, B.one.mono, B.one.mono, (f1.bb.mul f2.bb).mono, fun v6 H11 s11 f6 => ?_⟩
      dsimp only at f6
      have hn1 : 1 * (b * d) ≠ 0 := by omega
      have rt : Rv 1 (b * d) 1 (b * d) := by unfold Rv; omega
      have q6 := Rv.red hn1 ((ro 1).sub rt)
      have bbd := f1.bb.mul f2.bb
      have g6 : Fq K H11 25 v6 _ _ := .red hn1 f6 ((B.one.mul bbd).mono.sub ((B.one.mul B.one).mono (m := 22))).mono (B.one.mul bbd).mono
      have f2 := ((f2.same s10).same s2).same s11
      refine ⟨_, rfl, v6, _, _, _, c, d, rfl, g6.f, f2.f, Int.ne_of_gt g6.p, hd0, g6.ba.mono, g6.bb.mono, f2.ba.mono, f2.bb.mono, fun v7 H12 s12 f7 => ?_⟩
      dsimp only at f7
      have hgd := Int.mul_ne_zero (Int.ne_of_gt g6.p) hd0
      have q7 := Rv.red hgd (q6.sub r2)
      have g7 : Fq K H12 60 v7 _ _ := .red hgd f7 ((g6.ba.mul f2.bb).mono.sub ((f2.ba.mul g6.bb).mono (m := 40))).mono (g6.bb.mul f2.bb).mono
      have g5 := ((g5.same s2).same s11).same s12
      refine ⟨n, v5, v7, _, _, _, _, rfl, g5.f, g7.f, g5.p, g7.p, bn.mono, g5.ba.mono, g5.bb.mono, g7.ba.mono, g7.bb.mono, fun z5 H13 s13 h5 => ?_⟩
      have e5 := h5 _ _ _ hM q5.fs q7.fs
      have sB := ((s10.trans s2).trans s11).trans (s12.trans s13)
      have f1 := f1.same sB
      have f2 := (f2.same s12).same s13
      have hR := hR.same sB
      refine ⟨_, rfl, _, rfl, _, _, rfl, rfl, rfl, _, rfl, brNe (fun z => absurd ?_ z) (fun _ => ?_)⟩
      · rw [e5, e0, show (0 - 1 : Int) * (a * d) = -(a * d) by omega, show (1 : Int) * (b * d) - 1 - c * b = b * d - 1 - c * b by omega]
        exact FS_neg hM
      clear g7 g6 g5 f7 f6 f5 q7 q6 q5 ft nt no s1 s2 s10 s11 s12 s13 sB hgd hn1 h1 h2
      -- some
      obtain ⟨k9, ek9, hk9⟩ : ∃ k9 : Nat, (if (9 : Int) < n then 9 else (n : Int)) = k9 ∧ k9 ≤ 9 ∧ k9 ≤ n := by
        by_cases h : (9 : Int) < n
        · exact ⟨9, by rw [if_pos h]; rfl, by omega, by omega⟩
        · exact ⟨n, by rw [if_neg h], by omega, by omega⟩
      refine ⟨_, rfl, _, _, rfl, ?_⟩
      rw [ek9]
      refine ⟨_, rfl, by omega, by omega, fun D nD => ?_⟩
      refine lc_it (walk_range (n := ((k9 : Nat) : Int).toNat)) (fun i H' => Same H13 H' ∧ H' D = some (.lst ((List.range i).map fun (k : Nat) => V.int ((a * d * k + c * b) / (b * d))))) ⟨same_upd nD, upd_same⟩ (fun _ _ _ _ => trivial) ?_ ?_
      · rintro i x H1 H2 hi ⟨sH, hD⟩ ⟨rfl, rfl⟩
        refine ⟨rfl, ?_⟩
        have f1 := f1.same sH
        have f2 := f2.same sH
        have bi : B 5 ((0 : Int) + (i : Nat)) := B.of (by simp only [Int.toNat_natCast] at hi; omega)
        refine ⟨_, rfl, _, rfl, _, rfl, _, _, a, b, rfl, f1.f, hb0, bi.mono, f1.ba.mono, f1.bb.mono, fun v3 H8 s8 f3 => ?_⟩
        have q3 := Rv.red hb0 (r1.times (n := (0 : Int) + (i : Nat)))
        have g3 : Fq K H8 77 v3 _ _ := .red hb0 f3 (bi.mul f1.ba).mono f1.bb.mono
        have f2' := f2.same s8
        refine ⟨_, v3, c, d, _, _, rfl, f2'.f, g3.f, hd0, Int.ne_of_gt g3.p, f2'.ba.mono, f2'.bb.mono, g3.ba.mono, g3.bb.mono, fun v4 H9 s9 f4 => ?_⟩
        dsimp only at f4
        have hdd := Int.mul_ne_zero hd0 (Int.ne_of_gt g3.p)
        have q4 := Rv.red hdd (r2.add q3)
        have g4 : Fq K H9 100 v4 _ _ := .red hdd f4 (((f2'.ba.mono (m := 20)).mul g3.bb).mono.add (g3.ba.mul (f2'.bb.mono (m := 20)))).mono (f2'.bb.mul g3.bb).mono
        refine ⟨v4, _, _, rfl, g4.f, g4.p, g4.bb.mono, ?_⟩
        rw [q4.floor g4.p hM]
        refine ⟨_, s9 _ _ (s8 _ _ hD), ?_, ?_, ?_⟩
        · rw [List.length_map, List.length_range]; exact Nat.lt_of_lt_of_le (show i < 1000 by simp only [Int.toNat_natCast] at hi; omega) (by decide)
        · intro y o e
          rw [upd_ne (ne_of_none e nD)]; exact s9 _ _ (s8 _ _ (sH _ _ e))
        · rw [upd_same, List.range_succ, List.map_append]
          have : (c * b + (0 + (i : Nat)) * (a * d) : Int) = a * d * (i : Nat) + c * b := by grind
          rw [this]; rfl
      · rintro H1 ⟨sH, hD⟩
        have f1 := f1.same sH
        have f2 := f2.same sH
        have hR := hR.same sH
        rw [Int.toNat_natCast] at hD
        refine ⟨_, rfl, _, _, rfl, ?_⟩
        rw [ek9]
        refine ⟨_, rfl, _, rfl, k9, _, _, a, b, c, d, rfl, f1.f, f2.f, f1.p, f2.p, (B.of (n := 5) (by omega)).mono, f1.ba.mono, f1.bb.mono, f2.ba.mono, f2.bb.mono, fun z6 H7 s7 h6 => ?_⟩
        have e6 := h6 _ _ _ hM r1.fs r2.fs
        refine ⟨_, rfl, D, (List.range k9).map (fun (k : Nat) => (a * d * k + c * b) / (b * d)), rfl, .inl (.inl ?_), rfl, _, rfl, brNe (fun z => absurd ?_ z) (fun _ => ?_)⟩
        · rw [List.map_map]; exact s7 _ _ hD
        · rw [e6, Sm_sum]; rfl
        · exact ⟨hR.same s7, _, _, _, _, _, _, _, _, _, _, _, _, _, _, _, rfl⟩
    · rintro σ H' ⟨hR, z2, z3, z4, z5, z6, z7, z8, z9, z10, z11, z12, z13, z14, z15, z16, rfl⟩
      exact q _
end
end EP
namespace EP
open PySem PySem.Spec PyProof.Rows L2
set_option maxHeartbeats 8000000 in
theorem all_mk {l : PySem.W.OpenLaw} {w : World} {K : PySem.W.Frag} {h : Heap} {mg : Str → Option Value} {fa : Addr} (X : K.In h) (G : h.Ns mainGlobals mg) (hfa : mg "law" = some (.ref fa))
    {f0 : Addr} {od0 an0 : Option Addr} {sl0 : Array (Option Value)} {oc0 kV0 dc0 pm0 cd0 ct0 : Value}
    (a0 : PySem.W.nsIn K mainGlobals "gcd" = some (some (.ref f0))) (l0 : K.lookup f0 = some ⟨oc0, od0, .func (PySem.W.fnOf "gcd" "gcd" (defArgs s_gcd) (defBody s_gcd) (defScope s_gcd) .none kV0 dc0 pm0 an0 cd0 ct0), sl0⟩) (c0 : PySem.W.codeIn K cd0 "gcd" = true) (k0 : PySem.W.keepIn K (.ref f0) = true)
    {f1 : Addr} {od1 an1 : Option Addr} {sl1 : Array (Option Value)} {oc1 kV1 dc1 pm1 cd1 ct1 : Value}
    (a1 : PySem.W.nsIn K mainGlobals "common_denominator" = some (some (.ref f1))) (l1 : K.lookup f1 = some ⟨oc1, od1, .func (PySem.W.fnOf "common_denominator" "common_denominator" (defArgs s_common_denominator) (defBody s_common_denominator) (defScope s_common_denominator) .none kV1 dc1 pm1 an1 cd1 ct1), sl1⟩) (c1 : PySem.W.codeIn K cd1 "common_denominator" = true) (k1 : PySem.W.keepIn K (.ref f1) = true)
    {f2 : Addr} {od2 an2 : Option Addr} {sl2 : Array (Option Value)} {oc2 kV2 dc2 pm2 cd2 ct2 : Value}
    (a2 : PySem.W.nsIn K mainGlobals "whole" = some (some (.ref f2))) (l2 : K.lookup f2 = some ⟨oc2, od2, .func (PySem.W.fnOf "whole" "whole" (defArgs s_whole) (defBody s_whole) (defScope s_whole) .none kV2 dc2 pm2 an2 cd2 ct2), sl2⟩) (c2 : PySem.W.codeIn K cd2 "whole" = true) (k2 : PySem.W.keepIn K (.ref f2) = true)
    {f3 : Addr} {od3 an3 : Option Addr} {sl3 : Array (Option Value)} {oc3 kV3 dc3 pm3 cd3 ct3 : Value}
    (a3 : PySem.W.nsIn K mainGlobals "floor_sum" = some (some (.ref f3))) (l3 : K.lookup f3 = some ⟨oc3, od3, .func (PySem.W.fnOf "floor_sum" "floor_sum" (defArgs s_floor_sum) (defBody s_floor_sum) (defScope s_floor_sum) .none kV3 dc3 pm3 an3 cd3 ct3), sl3⟩) (c3 : PySem.W.codeIn K cd3 "floor_sum" = true) (k3 : PySem.W.keepIn K (.ref f3) = true)
    {f4 : Addr} {od4 an4 : Option Addr} {sl4 : Array (Option Value)} {oc4 kV4 dc4 pm4 cd4 ct4 : Value}
    (a4 : PySem.W.nsIn K mainGlobals "_law_source" = some (some (.ref f4))) (l4 : K.lookup f4 = some ⟨oc4, od4, .func (PySem.W.fnOf "_law_source" "_law_source" (defArgs s_l_source) (defBody s_l_source) (defScope s_l_source) .none kV4 dc4 pm4 an4 cd4 ct4), sl4⟩) (c4 : PySem.W.codeIn K cd4 "_law_source" = true) (k4 : PySem.W.keepIn K (.ref f4) = true)
    {f5 : Addr} {od5 an5 : Option Addr} {sl5 : Array (Option Value)} {oc5 kV5 dc5 pm5 cd5 ct5 : Value}
    (a5 : PySem.W.nsIn K mainGlobals "_law_draw" = some (some (.ref f5))) (l5 : K.lookup f5 = some ⟨oc5, od5, .func (PySem.W.fnOf "_law_draw" "_law_draw" (defArgs s_l_draw) (defBody s_l_draw) (defScope s_l_draw) .none kV5 dc5 pm5 an5 cd5 ct5), sl5⟩) (c5 : PySem.W.codeIn K cd5 "_law_draw" = true) (k5 : PySem.W.keepIn K (.ref f5) = true)
    {f6 : Addr} {od6 an6 : Option Addr} {sl6 : Array (Option Value)} {oc6 kV6 dc6 pm6 cd6 ct6 : Value}
    (a6 : PySem.W.nsIn K mainGlobals "_law_choice" = some (some (.ref f6))) (l6 : K.lookup f6 = some ⟨oc6, od6, .func (PySem.W.fnOf "_law_choice" "_law_choice" (defArgs s_l_choice) (defBody s_l_choice) (defScope s_l_choice) .none kV6 dc6 pm6 an6 cd6 ct6), sl6⟩) (c6 : PySem.W.codeIn K cd6 "_law_choice" = true) (k6 : PySem.W.keepIn K (.ref f6) = true)
    {f7 : Addr} {od7 an7 : Option Addr} {sl7 : Array (Option Value)} {oc7 kV7 dc7 pm7 cd7 ct7 : Value}
    (a7 : PySem.W.nsIn K mainGlobals "_law_divisor" = some (some (.ref f7))) (l7 : K.lookup f7 = some ⟨oc7, od7, .func (PySem.W.fnOf "_law_divisor" "_law_divisor" (defArgs s_l_divisor) (defBody s_l_divisor) (defScope s_l_divisor) .none kV7 dc7 pm7 an7 cd7 ct7), sl7⟩) (c7 : PySem.W.codeIn K cd7 "_law_divisor" = true) (k7 : PySem.W.keepIn K (.ref f7) = true)
    {f8 : Addr} {od8 an8 : Option Addr} {sl8 : Array (Option Value)} {oc8 kV8 dc8 pm8 cd8 ct8 : Value}
    (a8 : PySem.W.nsIn K mainGlobals "_law_reduce" = some (some (.ref f8))) (l8 : K.lookup f8 = some ⟨oc8, od8, .func (PySem.W.fnOf "_law_reduce" "_law_reduce" (defArgs s_l_reduce) (defBody s_l_reduce) (defScope s_l_reduce) .none kV8 dc8 pm8 an8 cd8 ct8), sl8⟩) (c8 : PySem.W.codeIn K cd8 "_law_reduce" = true) (k8 : PySem.W.keepIn K (.ref f8) = true)
    {f9 : Addr} {od9 an9 : Option Addr} {sl9 : Array (Option Value)} {oc9 kV9 dc9 pm9 cd9 ct9 : Value}
    (a9 : PySem.W.nsIn K mainGlobals "_law_add" = some (some (.ref f9))) (l9 : K.lookup f9 = some ⟨oc9, od9, .func (PySem.W.fnOf "_law_add" "_law_add" (defArgs s_l_add) (defBody s_l_add) (defScope s_l_add) .none kV9 dc9 pm9 an9 cd9 ct9), sl9⟩) (c9 : PySem.W.codeIn K cd9 "_law_add" = true) (k9 : PySem.W.keepIn K (.ref f9) = true)
    {f10 : Addr} {od10 an10 : Option Addr} {sl10 : Array (Option Value)} {oc10 kV10 dc10 pm10 cd10 ct10 : Value}
    (a10 : PySem.W.nsIn K mainGlobals "_law_subtract" = some (some (.ref f10))) (l10 : K.lookup f10 = some ⟨oc10, od10, .func (PySem.W.fnOf "_law_subtract" "_law_subtract" (defArgs s_l_subtract) (defBody s_l_subtract) (defScope s_l_subtract) .none kV10 dc10 pm10 an10 cd10 ct10), sl10⟩) (c10 : PySem.W.codeIn K cd10 "_law_subtract" = true) (k10 : PySem.W.keepIn K (.ref f10) = true)
    {f11 : Addr} {od11 an11 : Option Addr} {sl11 : Array (Option Value)} {oc11 kV11 dc11 pm11 cd11 ct11 : Value}
    (a11 : PySem.W.nsIn K mainGlobals "_law_times" = some (some (.ref f11))) (l11 : K.lookup f11 = some ⟨oc11, od11, .func (PySem.W.fnOf "_law_times" "_law_times" (defArgs s_l_times) (defBody s_l_times) (defScope s_l_times) .none kV11 dc11 pm11 an11 cd11 ct11), sl11⟩) (c11 : PySem.W.codeIn K cd11 "_law_times" = true) (k11 : PySem.W.keepIn K (.ref f11) = true)
    {f12 : Addr} {od12 an12 : Option Addr} {sl12 : Array (Option Value)} {oc12 kV12 dc12 pm12 cd12 ct12 : Value}
    (a12 : PySem.W.nsIn K mainGlobals "_law_floor" = some (some (.ref f12))) (l12 : K.lookup f12 = some ⟨oc12, od12, .func (PySem.W.fnOf "_law_floor" "_law_floor" (defArgs s_l_floor) (defBody s_l_floor) (defScope s_l_floor) .none kV12 dc12 pm12 an12 cd12 ct12), sl12⟩) (c12 : PySem.W.codeIn K cd12 "_law_floor" = true) (k12 : PySem.W.keepIn K (.ref f12) = true)
    {f13 : Addr} {od13 an13 : Option Addr} {sl13 : Array (Option Value)} {oc13 kV13 dc13 pm13 cd13 ct13 : Value}
    (a13 : PySem.W.nsIn K mainGlobals "law" = some (some (.ref f13))) (l13 : K.lookup f13 = some ⟨oc13, od13, .func (PySem.W.fnOf "law" "law" (defArgs s_law) (defBody s_law) (defScope s_law) .none kV13 dc13 pm13 an13 cd13 ct13), sl13⟩) (c13 : PySem.W.codeIn K cd13 "law" = true) (k13 : PySem.W.keepIn K (.ref f13) = true)
    (z0 : PySem.W.nsIn K mainGlobals "abs" = some none)
    (z1 : PySem.W.nsIn K mainGlobals "len" = some none)
    (z2 : PySem.W.nsIn K mainGlobals "list" = some none)
    (z3 : PySem.W.nsIn K mainGlobals "range" = some none)
    (z4 : PySem.W.nsIn K mainGlobals "isinstance" = some none)
    (z5 : PySem.W.nsIn K mainGlobals "int" = some none)
    (z6 : PySem.W.nsIn K mainGlobals "bool" = some none)
    (z7 : PySem.W.nsIn K mainGlobals "min" = some none)
    (z8 : PySem.W.nsIn K mainGlobals "sum" = some none)
    : ∃ fd : FuncData, (∀ (s : Shared) (v : Value), BindsTo s fd ⟨[v], []⟩ [("_law_script", v)]) ∧ ∀ base : Heap, K.In base → base.Ns mainGlobals mg → FnOk l.prog w K mg base CX0 4 fa fd ["_law_script"] (spLaw K) := by
  have e := hfa.symm.trans (PySem.W.mg_of X G a13)
  cases e
  have F0 := fun_mk (st := s_gcd) l0 c0 k0
  have b0 := F0.binds (ps := ["one", "other"]) fun _ _ _ _ _ _ us hl => match us, hl with | [_, _], _ => rfl
  have F1 := fun_mk (st := s_common_denominator) l1 c1 k1
  have b1 := F1.binds (ps := ["values"]) fun _ _ _ _ _ _ us hl => match us, hl with | [_], _ => rfl
  have F2 := fun_mk (st := s_whole) l2 c2 k2
  have b2 := F2.binds (ps := ["value", "common"]) fun _ _ _ _ _ _ us hl => match us, hl with | [_, _], _ => rfl
  have F3 := fun_mk (st := s_floor_sum) l3 c3 k3
  have b3 := F3.binds (ps := ["count", "slope", "offset"]) fun _ _ _ _ _ _ us hl => match us, hl with | [_, _, _], _ => rfl
  have F4 := fun_mk (st := s_l_source) l4 c4 k4
  have b4 := F4.binds (ps := ["_law_script"]) fun _ _ _ _ _ _ us hl => match us, hl with | [_], _ => rfl
  have F5 := fun_mk (st := s_l_draw) l5 c5 k5
  have b5 := F5.binds (ps := ["_law_rng", "_law_many"]) fun _ _ _ _ _ _ us hl => match us, hl with | [_, _], _ => rfl
  have F6 := fun_mk (st := s_l_choice) l6 c6 k6
  have b6 := F6.binds (ps := ["_law_rng", "_law_some"]) fun _ _ _ _ _ _ us hl => match us, hl with | [_, _], _ => rfl
  have F7 := fun_mk (st := s_l_divisor) l7 c7 k7
  have b7 := F7.binds (ps := ["_law_one", "_law_other"]) fun _ _ _ _ _ _ us hl => match us, hl with | [_, _], _ => rfl
  have F8 := fun_mk (st := s_l_reduce) l8 c8 k8
  have b8 := F8.binds (ps := ["_law_num", "_law_den"]) fun _ _ _ _ _ _ us hl => match us, hl with | [_, _], _ => rfl
  have F9 := fun_mk (st := s_l_add) l9 c9 k9
  have b9 := F9.binds (ps := ["_law_one", "_law_other"]) fun _ _ _ _ _ _ us hl => match us, hl with | [_, _], _ => rfl
  have F10 := fun_mk (st := s_l_subtract) l10 c10 k10
  have b10 := F10.binds (ps := ["_law_one", "_law_other"]) fun _ _ _ _ _ _ us hl => match us, hl with | [_, _], _ => rfl
  have F11 := fun_mk (st := s_l_times) l11 c11 k11
  have b11 := F11.binds (ps := ["_law_number", "_law_one"]) fun _ _ _ _ _ _ us hl => match us, hl with | [_, _], _ => rfl
  have F12 := fun_mk (st := s_l_floor) l12 c12 k12
  have b12 := F12.binds (ps := ["_law_one"]) fun _ _ _ _ _ _ us hl => match us, hl with | [_], _ => rfl
  have F13 := fun_mk (st := s_law) l13 c13 k13
  have b13 := F13.binds (ps := ["_law_script"]) fun _ _ _ _ _ _ us hl => match us, hl with | [_], _ => rfl
  exact ⟨PySem.W.fnOf "law" "law" (defArgs s_law) (defBody s_law) (defScope s_law) .none kV13 dc13 pm13 an13 cd13 ct13, fun s v => .of_eq rfl, fun base _ _ => ok_law ⟨⟨_, _, F0, b0, PySem.W.mg_of X G a0⟩, ⟨_, _, F1, b1, PySem.W.mg_of X G a1⟩, ⟨_, _, F2, b2, PySem.W.mg_of X G a2⟩, ⟨_, _, F3, b3, PySem.W.mg_of X G a3⟩, ⟨_, _, F4, b4, PySem.W.mg_of X G a4⟩, ⟨_, _, F5, b5, PySem.W.mg_of X G a5⟩, ⟨_, _, F6, b6, PySem.W.mg_of X G a6⟩, ⟨_, _, F7, b7, PySem.W.mg_of X G a7⟩, ⟨_, _, F8, b8, PySem.W.mg_of X G a8⟩, ⟨_, _, F9, b9, PySem.W.mg_of X G a9⟩, ⟨_, _, F10, b10, PySem.W.mg_of X G a10⟩, ⟨_, _, F11, b11, PySem.W.mg_of X G a11⟩, ⟨_, _, F12, b12, PySem.W.mg_of X G a12⟩, ⟨_, _, F13, b13, PySem.W.mg_of X G a13⟩, PySem.W.mg_none_of X G z0, PySem.W.mg_none_of X G z1, PySem.W.mg_none_of X G z2, PySem.W.mg_none_of X G z3, PySem.W.mg_none_of X G z4, PySem.W.mg_none_of X G z5, PySem.W.mg_none_of X G z6, PySem.W.mg_none_of X G z7, PySem.W.mg_none_of X G z8⟩⟩
end EP
open PySem PySem.W PyProof.Rows
set_option maxHeartbeats 0 in
theorem PySem.Challenge.cw_evenpace_k07_whole_great_sums_of_floors_holds : PySem.Challenge.rw_evenpace_k07_whole_great_sums_of_floors.Holds := by
  w_on; o_law; k_head; (case hw => w_witness2)
  k_fill
  refine L2.walk_of (l := PySem.Challenge.rw_evenpace_k07_whole_great_sums_of_floors) (n := 63) (k := 4) (x := "_law_script") (CX := fun _ => L2.CX0) (sp := fun w => EP.spLaw _) rfl (by decide) rfl ⟨rfl, by decide, by decide⟩ (fun w h Y => PySem.W.kIn_of Y) ?F (fun _ _ a ns hl _ hS => ⟨a, ns, rfl, hS, hl, fun _ => rfl⟩) (fun _ _ _ _ _ h => h)
  case F =>
    intro w mg fa h KX G hmg
    refine' EP.all_mk KX G hmg ?a0 ?l0 ?c0 ?k0 ?a1 ?l1 ?c1 ?k1 ?a2 ?l2 ?c2 ?k2 ?a3 ?l3 ?c3 ?k3 ?a4 ?l4 ?c4 ?k4 ?a5 ?l5 ?c5 ?k5 ?a6 ?l6 ?c6 ?k6 ?a7 ?l7 ?c7 ?k7 ?a8 ?l8 ?c8 ?k8 ?a9 ?l9 ?c9 ?k9 ?a10 ?l10 ?c10 ?k10 ?a11 ?l11 ?c11 ?k11 ?a12 ?l12 ?c12 ?k12 ?a13 ?l13 ?c13 ?k13 ?z0 ?z1 ?z2 ?z3 ?z4 ?z5 ?z6 ?z7 ?z8
    (case a0 => k_is)
    (case l0 => k_is)
    (case c0 => k_is)
    (case k0 => k_is)
    (case a1 => k_is)
    (case l1 => k_is)
    (case c1 => k_is)
    (case k1 => k_is)
    (case a2 => k_is)
    (case l2 => k_is)
    (case c2 => k_is)
    (case k2 => k_is)
    (case a3 => k_is)
    (case l3 => k_is)
    (case c3 => k_is)
    (case k3 => k_is)
    (case a4 => k_is)
    (case l4 => k_is)
    (case c4 => k_is)
    (case k4 => k_is)
    (case a5 => k_is)
    (case l5 => k_is)
    (case c5 => k_is)
    (case k5 => k_is)
    (case a6 => k_is)
    (case l6 => k_is)
    (case c6 => k_is)
    (case k6 => k_is)
    (case a7 => k_is)
    (case l7 => k_is)
    (case c7 => k_is)
    (case k7 => k_is)
    (case a8 => k_is)
    (case l8 => k_is)
    (case c8 => k_is)
    (case k8 => k_is)
    (case a9 => k_is)
    (case l9 => k_is)
    (case c9 => k_is)
    (case k9 => k_is)
    (case a10 => k_is)
    (case l10 => k_is)
    (case c10 => k_is)
    (case k10 => k_is)
    (case a11 => k_is)
    (case l11 => k_is)
    (case c11 => k_is)
    (case k11 => k_is)
    (case a12 => k_is)
    (case l12 => k_is)
    (case c12 => k_is)
    (case k12 => k_is)
    (case a13 => k_is)
    (case l13 => k_is)
    (case c13 => k_is)
    (case k13 => k_is)
    (case z0 => k_is)
    (case z1 => k_is)
    (case z2 => k_is)
    (case z3 => k_is)
    (case z4 => k_is)
    (case z5 => k_is)
    (case z6 => k_is)
    (case z7 => k_is)
    (case z8 => k_is)
