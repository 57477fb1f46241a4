import PyProof.Rows.All
import Wide.All
import OpenK.AllK
import Wide.FinOn
import HandS.ForMost
import HandS.Wide
import HandS.IsInst
import HandS.Zip
import HandS.Walk
import HandS.Flow
import HandS.Evl
import HandS.Defaults
import HandS.NoneIn
import HandS.SortRule
import HandS.TupAny
import HandS.WideBits
import HandS.Deep
import PyProof.ZipIter
import KE.KItemsList
import HandS.Words
import PySem.Challenge.RW_evenpace_k11_windows
set_option Elab.async false
set_option linter.all false
set_option maxRecDepth 100000
set_option autoImplicit false
namespace EP
open PySem PySem.Spec PyProof.Rows L2
/-! ### wide floor division by a divisor of either sign -/
def CDivZ (_ j : Int) : Prop := j ≠ 0 ∧ j.natAbs.log2 < 9000
theorem op_fdivZ {X : Cx} : OpR X (binaryOp .FloorDiv) (rI CDivZ fun i j => .int (i.fdiv j)) := opI fun _ _ _ _ _ _ _ hc q => floordiv_int hc.1 q (.inl (PyProof.noPylong_of_log2 hc.2))
/-! ### heaps -/
def Gw (r : Addr) (H H' : Hp) : Prop := ∀ a o, a ≠ r → H a = some o → H' a = some o
def RngL (L : Addr) (H : Hp) (r : Addr) : Prop := ∃ (ns : List Int) (i c s : Int), H r = some (.lst [.ref L, .int i, .int c, .int s]) ∧ H L = some (.lst (ns.map V.int)) ∧ L ≠ r ∧ 0 ≤ i ∧ ns.length < 100 ∧ 0 ≤ c ∧ 0 ≤ s ∧ s < 2147483563
def Rng (H : Hp) (r : Addr) : Prop := ∃ L, RngL L H r
/-- from H to H' only the generator at r changed; new things may have come -/
structure Mo (r : Addr) (H H' : Hp) : Prop where
  g : Gw r H H'
  a : Rng H r
  l : ∀ L, RngL L H r → RngL L H' r
theorem Mo.b {r : Addr} {H H' : Hp} (m : Mo r H H') : Rng H' r := by
  obtain ⟨L, h⟩ := m.a
  exact ⟨L, m.l L h⟩
theorem RngL.same {L : Addr} {H H' : Hp} {r : Addr} (h : RngL L H r) (s : Same H H') : RngL L H' r := by
  obtain ⟨ns, i, c, sd, h1, h2, h3⟩ := h
  exact ⟨ns, i, c, sd, s _ _ h1, s _ _ h2, h3⟩
theorem Rng.same {H H' : Hp} {r : Addr} (h : Rng H r) (s : Same H H') : Rng H' r := by
  obtain ⟨L, h⟩ := h
  exact ⟨L, h.same s⟩
theorem Mo.same {H H' : Hp} {r : Addr} (h : Rng H r) (s : Same H H') : Mo r H H' := ⟨fun a o _ e => s a o e, h, fun _ h => h.same s⟩
theorem Mo.refl {H : Hp} {r : Addr} (h : Rng H r) : Mo r H H := ⟨fun a o _ e => e, h, fun _ h => h⟩
theorem Mo.trans {H H1 H2 : Hp} {r : Addr} (x : Mo r H H1) (y : Mo r H1 H2) : Mo r H H2 := ⟨fun a o n e => y.g a o n (x.g a o n e), x.a, fun L h => y.l L (x.l L h)⟩
/-- what is new since H may change -/
theorem Mo.mut {r D : Addr} {H H' : Hp} {o : HO} (m : Mo r H H') (n : H D = none) : Mo r H (upd H' D o) := by
  refine ⟨fun a u ha e => ?_, m.a, fun L h => ?_⟩
  · rw [upd_ne (ne_of_none e n)]; exact m.g a u ha e
  · obtain ⟨_, _, _, _, e1, e2, _⟩ := id h
    obtain ⟨ns, i, c, sd, h1, h2, h3⟩ := m.l L h
    refine ⟨ns, i, c, sd, ?_, ?_, h3⟩
    · rw [upd_ne (ne_of_none e1 n)]; exact h1
    · rw [upd_ne (ne_of_none e2 n)]; exact h2
theorem same_upd {H : Hp} {p : Addr} {o : HO} (h : H p = none) : Same H (upd H p o) := fun b x e => by
  rw [upd_ne (ne_of_none e h)]
  exact e
theorem Mo.new {H : Hp} {r p : Addr} {o : HO} (h : Rng H r) (n : H p = none) : Mo r H (upd H p o) := .same h (same_upd n)
theorem sqt_mo {K : PySem.W.Frag} {H H' : Hp} {r a : Addr} {xs : List V} (m : Mo r H H') (h : SqT K H a xs) : SqT K H' a xs := by
  rcases h with h | h
  · left
    obtain ⟨L, ns, i, c, sd, h1, _⟩ := m.a
    rcases h with h | ⟨o, h⟩
    · refine .inl (m.g a _ (fun e => ?_) h)
      subst e; rw [h1] at h; cases h
    · refine .inr ⟨o, m.g a _ (fun e => ?_) h⟩
      subst e; rw [h1] at h; cases h
  · exact .inr h
theorem sql_mo {K : PySem.W.Frag} {H H' : Hp} {r a : Addr} {xs : List V} (m : Mo r H H') (n : a ≠ r) (h : SqL K H a xs) : SqL K H' a xs := by
  rcases h with h | h
  · left
    rcases h with h | ⟨o, h⟩
    · exact .inl (m.g a _ n h)
    · exact .inr ⟨o, m.g a _ n h⟩
  · exact .inr h
/-! ### fractions -/
def Fr (K : PySem.W.Frag) (H : Hp) (v : V) (a b : Int) : Prop := ∃ p, v = .ref p ∧ SqT K H p [.int a, .int b]
theorem Fr.mo {K : PySem.W.Frag} {H H' : Hp} {r : Addr} {v : V} {a b : Int} (h : Fr K H v a b) (m : Mo r H H') : Fr K H' v a b := by
  obtain ⟨p, e, h⟩ := h
  exact ⟨p, e, sqt_mo m h⟩
theorem Fr.same {K : PySem.W.Frag} {H H' : Hp} {v : V} {a b : Int} (h : Fr K H v a b) (m : Same H H') : Fr K H' v a b := by
  obtain ⟨p, e, h⟩ := h
  exact ⟨p, e, Evl.ex_t m h⟩
theorem sizeLine2 {n : Nat} (h : n ≤ 1000) : n ≤ sizeLine := Nat.le_trans h (by decide)
end EP
namespace EP
open PySem PySem.Spec PyProof.Rows L2
/-! ### tests -/
theorem brI {p A B : Prop} [Decidable p] (h1 : p → A) (h2 : ¬ p → B) : if decide p = true then A else B := by
  by_cases h : p
  · rw [if_pos (decide_eq_true h)]; exact h1 h
  · rw [if_neg (by simpa using h)]; exact h2 h
theorem brEq {i j : Int} {A B : Prop} (h1 : i = j → A) (h2 : i ≠ j → B) : if decide (V.int i = V.int j) = true then A else B :=
  brI (fun h => h1 (V.int.inj h)) (fun h => h2 fun e => h (by rw [e]))
theorem brNe {i j : Int} {A B : Prop} (h1 : i ≠ j → A) (h2 : i = j → B) : if (!decide (V.int i = V.int j)) = true then A else B := by
  by_cases h : i = j
  · subst h; rw [if_neg (by simp)]; exact h2 rfl
  · rw [if_pos (by simpa using h)]; exact h1 h
/-! ### items -/
theorem ix0 {x : V} {xs : List V} : atI (x :: xs) 0 = some x := atI_nat (j := 0) rfl
theorem ix1 {x y : V} {xs : List V} : atI (x :: y :: xs) 1 = some y := atI_nat (j := 1) rfl
theorem ix2 {x y z : V} {xs : List V} : atI (x :: y :: z :: xs) 2 = some z := atI_nat (j := 2) rfl
theorem ix3 {x y z u : V} {xs : List V} : atI (x :: y :: z :: u :: xs) 3 = some u := atI_nat (j := 3) rfl
/-! ### sizes -/
def B (n : Nat) (x : Int) : Prop := x.natAbs < 2 ^ n
theorem B.one : B 1 1 := by unfold B; decide
theorem B.mono {n m : Nat} {x : Int} (h : B n x) (l : n ≤ m := by decide) : B m x := Nat.lt_of_lt_of_le h (Nat.pow_le_pow_right (by decide) l)
theorem B.mul {n m : Nat} {x y : Int} (h : B n x) (k : B m y) : B (n + m) (x * y) := wide_lt h k
theorem B.add {n : Nat} {x y : Int} (h : B n x) (k : B n y) : B (n + 1) (x + y) := by
  unfold B at *
  rw [Nat.pow_succ]; omega
theorem B.sub {n : Nat} {x y : Int} (h : B n x) (k : B n y) : B (n + 1) (x - y) := by
  unfold B at *
  rw [Nat.pow_succ]; omega
theorem B.neg {n : Nat} {x : Int} (h : B n x) : B n (-x) := by unfold B at *; omega
theorem B.le {n : Nat} {x y : Int} (h : B n y) (k : x.natAbs ≤ y.natAbs) : B n x := Nat.lt_of_le_of_lt k h
theorem B.log {n : Nat} {x : Int} (h : B n x) (h0 : 0 < n := by decide) : x.natAbs.log2 < n := PySem.Flt.log2_lt_of h0 h
theorem cm {n m : Nat} {x y : Int} (h : B n x) (k : B m y) (h0 : 0 < n := by decide) (h1 : 0 < m := by decide) (l : n + m ≤ 1000000 := by decide) : CMulW x y := wide_mul h k h0 h1 l
theorem cdW {x y : Int} {n : Nat} (h : 0 < y) (k : B n y) (h0 : 0 < n := by decide) (l : n ≤ 9000 := by decide) : CDivW x y := wide_div h k h0 l
end EP

namespace EP
/-! ### the mathematics of fractions in lowest terms -/
def rn (n d : Int) : Int := (if d < 0 then -n else n) / (Int.gcd n d : Int)
def rd (n d : Int) : Int := (d.natAbs : Int) / (Int.gcd n d : Int)
theorem gcd_pos {n d : Int} (h : d ≠ 0) : 0 < Int.gcd n d := Int.gcd_pos_of_ne_zero_right n h
theorem rn_mul {n d : Int} : rn n d * (Int.gcd n d : Int) = if d < 0 then -n else n := by
  unfold rn
  refine Int.ediv_mul_cancel ?_
  split
  · exact Int.dvd_neg.mpr (Int.gcd_dvd_left ..)
  · exact Int.gcd_dvd_left ..
theorem rd_mul {n d : Int} : rd n d * (Int.gcd n d : Int) = (d.natAbs : Int) := by
  unfold rd
  exact Int.ediv_mul_cancel (Int.natCast_dvd_natCast.mpr (Nat.gcd_dvd_right ..))
theorem rd_pos {n d : Int} (h : d ≠ 0) : 0 < rd n d := by
  have h1 := rd_mul (n := n) (d := d)
  have h2 : 0 < (Int.gcd n d : Int) := by have := gcd_pos (n := n) h; omega
  have h3 : 0 < rd n d * (Int.gcd n d : Int) := by rw [h1]; omega
  exact Int.pos_of_mul_pos_left h3 h2
/-- the value is kept -/
theorem rn_rd {n d : Int} (h : d ≠ 0) : rn n d * d = n * rd n d := by
  have h1 := rn_mul (n := n) (d := d)
  have h2 := rd_mul (n := n) (d := d)
  have h3 : (Int.gcd n d : Int) ≠ 0 := by have := gcd_pos (n := n) h; omega
  refine Int.eq_of_mul_eq_mul_right h3 ?_
  rw [Int.mul_right_comm, h1, Int.mul_assoc, h2]
  split
  · rw [show (d.natAbs : Int) = -d by omega]; rw [Int.mul_neg, Int.neg_mul]
  · rw [show (d.natAbs : Int) = d by omega]
theorem gcd_le {n d : Int} (h : d ≠ 0) : (Int.gcd n d : Int).natAbs ≤ d.natAbs := by
  rw [Int.natAbs_natCast]
  exact Nat.le_of_dvd (by omega) (Nat.gcd_dvd_right ..)
theorem rn_abs {n d : Int} (h : d ≠ 0) : (rn n d).natAbs ≤ n.natAbs := by
  have h1 := congrArg Int.natAbs (rn_mul (n := n) (d := d))
  rw [Int.natAbs_mul, Int.natAbs_natCast] at h1
  have h2 := gcd_pos (n := n) h
  have h3 : (if d < 0 then -n else n).natAbs = n.natAbs := by split <;> omega
  rw [h3] at h1; rw [← h1]
  exact Nat.le_mul_of_pos_right _ h2
theorem rd_abs {n d : Int} (h : d ≠ 0) : (rd n d).natAbs ≤ d.natAbs := by
  have h1 := congrArg Int.natAbs (rd_mul (n := n) (d := d))
  rw [Int.natAbs_mul, Int.natAbs_natCast, Int.natAbs_natCast] at h1
  have h2 := gcd_pos (n := n) h
  rw [← h1]
  exact Nat.le_mul_of_pos_right _ h2
theorem B.rn {k : Nat} {n d : Int} (h : d ≠ 0) (b : B k n) : B k (rn n d) := b.le (rn_abs h)
theorem B.rd {k : Nat} {n d : Int} (h : d ≠ 0) (b : B k d) : B k (rd n d) := b.le (rd_abs h)
theorem fdiv_neg_exact {n g : Int} (hg : g ≠ 0) (h : g ∣ n) : n.fdiv (-g) = -n / g := by
  obtain ⟨c, rfl⟩ := h
  rw [show g * c = (-g) * (-c) by rw [Int.neg_mul_neg], Int.mul_fdiv_cancel_left _ (by omega), Int.neg_mul, Int.neg_neg, Int.mul_ediv_cancel_left _ hg]
theorem fdiv_exact {n g : Int} (hg : g ≠ 0) (h : g ∣ n) : n.fdiv g = n / g := by
  obtain ⟨c, rfl⟩ := h
  rw [Int.mul_fdiv_cancel_left _ hg, Int.mul_ediv_cancel_left _ hg]
end EP
namespace EP
open PySem PySem.Spec PyProof.Rows L2
theorem abs_nat (a : Int) : (if a < 0 then -a else a) = (a.natAbs : Int) := by split <;> omega
theorem gcd_step {x y : Int} (hx : 0 ≤ x) (hy : 0 < y) : Int.gcd y (x % y) = Int.gcd x y := by
  obtain ⟨a, rfl⟩ := Int.eq_ofNat_of_zero_le hx
  obtain ⟨b, rfl⟩ := Int.eq_ofNat_of_zero_le (Int.le_of_lt hy)
  show Nat.gcd (Int.natAbs (b : Int)) (Int.natAbs ((a : Int) % (b : Int))) = Nat.gcd (Int.natAbs (a : Int)) (Int.natAbs (b : Int))
  rw [← Int.natCast_emod]
  simp only [Int.natAbs_natCast]
  rw [Nat.gcd_comm a b, Nat.gcd_rec b a, Nat.gcd_comm]
theorem div_abs {x y : Int} (h : 0 < y) : (x / y).natAbs ≤ x.natAbs := by
  by_cases h0 : 0 ≤ x
  · have h1 := Int.ediv_nonneg h0 (Int.le_of_lt h)
    have h2 := Int.ediv_le_self y h0
    omega
  · have h1 : x ≤ x / y := by
      refine Int.le_ediv_of_mul_le h ?_
      have := Int.mul_le_mul_of_nonpos_left (a := x) (b := y) (c := 1) (by omega) (by omega)
      omega
    have h5 : x / y < 0 := Int.ediv_neg_of_neg_of_pos (by omega) h
    omega
/-! ### promises -/
def spGcd : Sp := fun vs H Q _ => ∃ a b : Int, vs = [.int a, .int b] ∧ Q (.int (Int.gcd a b)) H
def spRed (K : PySem.W.Frag) : Sp := fun vs H Q _ => ∃ n d : Int, vs = [.int n, .int d] ∧ d ≠ 0 ∧ B 8000 n ∧ B 8000 d ∧ ∀ v H', Same H H' → Fr K H' v (rn n d) (rd n d) → Q v H'
def spFF (K : PySem.W.Frag) (g : Int → Int → Int → Int → Int × Int) : Sp := fun vs H Q _ => ∃ (x y : V) (a b c d : Int), vs = [x, y] ∧ Fr K H x a b ∧ Fr K H y c d ∧ b ≠ 0 ∧ d ≠ 0 ∧ B 2000 a ∧ B 2000 b ∧ B 2000 c ∧ B 2000 d ∧ ∀ v H', Same H H' → Fr K H' v (g a b c d).1 (g a b c d).2 → Q v H'
def spFD (K : PySem.W.Frag) (g : Int → Int → Int → Int → Int × Int) : Sp := fun vs H Q _ => ∃ (x y : V) (a b c d : Int), vs = [x, y] ∧ Fr K H x a b ∧ Fr K H y c d ∧ b ≠ 0 ∧ c ≠ 0 ∧ B 2000 a ∧ B 2000 b ∧ B 2000 c ∧ B 2000 d ∧ ∀ v H', Same H H' → Fr K H' v (g a b c d).1 (g a b c d).2 → Q v H'
def spLess (K : PySem.W.Frag) : Sp := fun vs H Q _ => ∃ (x y : V) (a b c d : Int), vs = [x, y] ∧ Fr K H x a b ∧ Fr K H y c d ∧ B 2000 a ∧ B 2000 b ∧ B 2000 c ∧ B 2000 d ∧ Q (.bl (decide (a * d < c * b))) H
def spFloor (K : PySem.W.Frag) : Sp := fun vs H Q _ => ∃ (x : V) (a b : Int), vs = [x] ∧ Fr K H x a b ∧ 0 < b ∧ B 4000 b ∧ Q (.int (a / b)) H
def spCeil (K : PySem.W.Frag) : Sp := fun vs H Q _ => ∃ (x : V) (a b : Int), vs = [x] ∧ Fr K H x a b ∧ 0 < b ∧ B 4000 b ∧ Q (.int (-(-a / b))) H
def spTimes (K : PySem.W.Frag) : Sp := fun vs H Q _ => ∃ (n : Int) (x : V) (a b : Int), vs = [.int n, x] ∧ Fr K H x a b ∧ b ≠ 0 ∧ B 2000 n ∧ B 2000 a ∧ B 2000 b ∧ ∀ v H', Same H H' → Fr K H' v (rn (n * a) b) (rd (n * a) b) → Q v H'
/-- one minus the floor of one / period times the period -/
def remN (a b c d : Int) : Int × Int :=
  let t := rn (a * d) (b * c) / rd (a * d) (b * c)
  let n := rn (t * c) d
  let m := rd (t * c) d
  (rn (a * m - n * b) (b * m), rd (a * m - n * b) (b * m))
def spRem (K : PySem.W.Frag) : Sp := fun vs H Q _ => ∃ (x y : V) (a b c d : Int), vs = [x, y] ∧ Fr K H x a b ∧ Fr K H y c d ∧ 0 < b ∧ 0 < c ∧ 0 < d ∧ B 500 a ∧ B 500 b ∧ B 500 c ∧ B 500 d ∧ ∀ v H', Same H H' → Fr K H' v (remN a b c d).1 (remN a b c d).2 → Q v H'
end EP
namespace EP
open PySem PySem.Spec PyProof.Rows L2
def spSource (K : PySem.W.Frag) : Sp := fun vs H Q _ => ∃ (a : Addr) (ns : List Int), vs = [.ref a] ∧ SqL K H a (ns.map V.int) ∧ ns.length ≤ 63 ∧ ∀ r H', Same H H' → Rng H' r → Q (.ref r) H'
def spDraw : Sp := fun vs H Q _ => ∃ (r : Addr) (m : Int), vs = [.ref r, .int m] ∧ 0 < m ∧ B 2000 m ∧ Rng H r ∧ ∀ x H', 0 ≤ x → x < m → Mo r H H' → Q (.int x) H'
def spChoice (K : PySem.W.Frag) : Sp := fun vs H Q _ => ∃ (r l : Addr) (xs : List V), vs = [.ref r, .ref l] ∧ SqL K H l xs ∧ l ≠ r ∧ 0 < xs.length ∧ xs.length < 1000 ∧ Rng H r ∧ ∀ x H', x ∈ xs → Mo r H H' → Q x H'
end EP
namespace EP
open PySem PySem.Spec PyProof.Rows L2
theorem seq_by {t u : TS} {D : Ends} {σ : L2.St} {H : Hp} (C : L2.St → Hp → Prop) (h2 : ∀ σ' H', C σ' H' → u D σ' H') (h1 : (∀ σ' H', C σ' H' → u D σ' H') → t { D with nx := u D } σ H) : tSeq t u D σ H := h1 h2
end EP
namespace EP
open PySem PySem.Spec PyProof.Rows L2
mutual
def dep : PyData → Nat
  | .list xs => deps xs + 1
  | .tuple xs => deps xs + 1
  | _ => 0
def deps : List PyData → Nat
  | [] => 0
  | x :: xs => max (dep x) (deps xs)
end
mutual
def wd : PyData → Nat
  | .list xs => max xs.length (wds xs)
  | .tuple xs => max xs.length (wds xs)
  | _ => 0
def wds : List PyData → Nat
  | [] => 0
  | x :: xs => max (wd x) (wds xs)
end
theorem wds_get : ∀ {ds : List PyData} {i : Nat} {d : PyData}, ds[i]? = some d → wd d ≤ wds ds
  | [], i, _, e => by simp at e
  | x :: xs, 0, _, e => by cases Option.some.inj e; unfold wds; omega
  | x :: xs, i + 1, d, e => by have := wds_get (ds := xs) (i := i) e; unfold wds; omega
def spEqual (K : PySem.W.Frag) (n : Nat) : Sp := fun vs H Q _ => ∃ (x y : V) (d : PyData), vs = [x, y] ∧ Dp K H x d ∧ Dp K H y d ∧ dep d < n ∧ wd d < 1000000 ∧ ∀ H', Same H H' → Q (.bl true) H'
end EP
namespace EP
open PySem PySem.Spec PyProof.Rows L2
theorem kt_bool_bool {K : PySem.W.Frag} : PySem.W.kitOne K (.type "bool") (.type "bool") = some true := kit_ty (by decide +kernel)
theorem kt_bool_int {K : PySem.W.Frag} : PySem.W.kitOne K (.type "bool") (.type "int") = some true := kit_ty (by decide +kernel)
theorem kt_bool_str {K : PySem.W.Frag} : PySem.W.kitOne K (.type "bool") (.type "str") = some false := kit_ty (by decide +kernel)
theorem kt_bool_list {K : PySem.W.Frag} : PySem.W.kitOne K (.type "bool") (.type "list") = some false := kit_ty (by decide +kernel)
theorem kt_bool_tuple {K : PySem.W.Frag} : PySem.W.kitOne K (.type "bool") (.type "tuple") = some false := kit_ty (by decide +kernel)
theorem kt_int_bool {K : PySem.W.Frag} : PySem.W.kitOne K (.type "int") (.type "bool") = some false := kit_ty (by decide +kernel)
theorem kt_int_int {K : PySem.W.Frag} : PySem.W.kitOne K (.type "int") (.type "int") = some true := kit_ty (by decide +kernel)
theorem kt_int_str {K : PySem.W.Frag} : PySem.W.kitOne K (.type "int") (.type "str") = some false := kit_ty (by decide +kernel)
theorem kt_int_list {K : PySem.W.Frag} : PySem.W.kitOne K (.type "int") (.type "list") = some false := kit_ty (by decide +kernel)
theorem kt_int_tuple {K : PySem.W.Frag} : PySem.W.kitOne K (.type "int") (.type "tuple") = some false := kit_ty (by decide +kernel)
theorem kt_str_bool {K : PySem.W.Frag} : PySem.W.kitOne K (.type "str") (.type "bool") = some false := kit_ty (by decide +kernel)
theorem kt_str_int {K : PySem.W.Frag} : PySem.W.kitOne K (.type "str") (.type "int") = some false := kit_ty (by decide +kernel)
theorem kt_str_str {K : PySem.W.Frag} : PySem.W.kitOne K (.type "str") (.type "str") = some true := kit_ty (by decide +kernel)
theorem kt_str_list {K : PySem.W.Frag} : PySem.W.kitOne K (.type "str") (.type "list") = some false := kit_ty (by decide +kernel)
theorem kt_str_tuple {K : PySem.W.Frag} : PySem.W.kitOne K (.type "str") (.type "tuple") = some false := kit_ty (by decide +kernel)
theorem kt_list_bool {K : PySem.W.Frag} : PySem.W.kitOne K (.type "list") (.type "bool") = some false := kit_ty (by decide +kernel)
theorem kt_list_int {K : PySem.W.Frag} : PySem.W.kitOne K (.type "list") (.type "int") = some false := kit_ty (by decide +kernel)
theorem kt_list_str {K : PySem.W.Frag} : PySem.W.kitOne K (.type "list") (.type "str") = some false := kit_ty (by decide +kernel)
theorem kt_list_list {K : PySem.W.Frag} : PySem.W.kitOne K (.type "list") (.type "list") = some true := kit_ty (by decide +kernel)
theorem kt_list_tuple {K : PySem.W.Frag} : PySem.W.kitOne K (.type "list") (.type "tuple") = some false := kit_ty (by decide +kernel)
theorem kt_tuple_bool {K : PySem.W.Frag} : PySem.W.kitOne K (.type "tuple") (.type "bool") = some false := kit_ty (by decide +kernel)
theorem kt_tuple_int {K : PySem.W.Frag} : PySem.W.kitOne K (.type "tuple") (.type "int") = some false := kit_ty (by decide +kernel)
theorem kt_tuple_str {K : PySem.W.Frag} : PySem.W.kitOne K (.type "tuple") (.type "str") = some false := kit_ty (by decide +kernel)
theorem kt_tuple_list {K : PySem.W.Frag} : PySem.W.kitOne K (.type "tuple") (.type "list") = some false := kit_ty (by decide +kernel)
theorem kt_tuple_tuple {K : PySem.W.Frag} : PySem.W.kitOne K (.type "tuple") (.type "tuple") = some true := kit_ty (by decide +kernel)
theorem kt_NoneType_bool {K : PySem.W.Frag} : PySem.W.kitOne K (.type "NoneType") (.type "bool") = some false := kit_ty (by decide +kernel)
theorem kt_NoneType_int {K : PySem.W.Frag} : PySem.W.kitOne K (.type "NoneType") (.type "int") = some false := kit_ty (by decide +kernel)
theorem kt_NoneType_str {K : PySem.W.Frag} : PySem.W.kitOne K (.type "NoneType") (.type "str") = some false := kit_ty (by decide +kernel)
theorem kt_NoneType_list {K : PySem.W.Frag} : PySem.W.kitOne K (.type "NoneType") (.type "list") = some false := kit_ty (by decide +kernel)
theorem kt_NoneType_tuple {K : PySem.W.Frag} : PySem.W.kitOne K (.type "NoneType") (.type "tuple") = some false := kit_ty (by decide +kernel)
end EP
namespace EP
open PySem PySem.Spec PyProof.Rows L2
mutual
theorem Dp_same {K : PySem.W.Frag} {H H' : Hp} (s : Same H H') : ∀ {v : V} {d : PyData}, Dp K H v d → Dp K H' v d
  | _, _, .non => .non
  | _, _, .bl b => .bl b
  | _, _, .int i => .int i
  | _, _, .str x => .str x
  | _, _, .lst h a => .lst (Evl.ex_l s h) (DpAll_same s a)
  | _, _, .tup h a => .tup (Evl.ex_t s h) (DpAll_same s a)
theorem DpAll_same {K : PySem.W.Frag} {H H' : Hp} (s : Same H H') : ∀ {v : List V} {d : List PyData}, DpAll K H v d → DpAll K H' v d
  | _, _, .nil => .nil
  | _, _, .cons h a => .cons (Dp_same s h) (DpAll_same s a)
end
theorem DpAll_len {K : PySem.W.Frag} {H : Hp} : ∀ {v : List V} {d : List PyData}, DpAll K H v d → v.length = d.length
  | _, _, .nil => rfl
  | _, _, .cons _ a => congrArg Nat.succ (DpAll_len a)
theorem DpAll_get {K : PySem.W.Frag} {H : Hp} : ∀ {v : List V} {ds : List PyData} {i : Nat} {x : V}, DpAll K H v ds → v[i]? = some x → ∃ d, ds[i]? = some d ∧ Dp K H x d
  | _, _, i, _, .nil, e => by simp at e
  | _, _, 0, _, .cons h a, e => ⟨_, rfl, by cases Option.some.inj e; exact h⟩
  | _, _, i + 1, _, .cons h a, e => DpAll_get (i := i) a e
theorem deps_get : ∀ {ds : List PyData} {i : Nat} {d : PyData}, ds[i]? = some d → dep d ≤ deps ds
  | [], i, _, e => by simp at e
  | x :: xs, 0, _, e => by cases Option.some.inj e; unfold deps; omega
  | x :: xs, i + 1, d, e => by have := deps_get (ds := xs) (i := i) e; unfold deps; omega
theorem all_true (n : Nat) : (List.replicate n true).all id = true := by
  induction n with
  | zero => rfl
  | succ n ih => rw [List.replicate_succ, List.all_cons, ih]; rfl
theorem walk_zipT {K : PySem.W.Frag} {a b : Addr} {xs ys : List V} {n : Nat} (hn : n = min xs.length ys.length) : Walk (RZ.ItzT K a b) n (fun H => SqT K H a xs ∧ SqT K H b ys) (YPair (fun i => xs[i]?) (fun i => ys[i]?)) := by
  subst hn
  refine ⟨fun i _ hi q => ?_, fun _ q => ⟨xs, ys, q.1, q.2, by omega⟩, fun i H v H' _ q y => ?_⟩
  · have h1 : i < xs.length := by omega
    have h2 : i < ys.length := by omega
    exact ⟨xs, ys, xs[i], ys[i], q.1, q.2, by simp [h1], by simp [h2]⟩
  · obtain ⟨T, x, z, h1, h2, h3, h4, h5⟩ := y
    exact ⟨T, x, z, h1, h2, h3, h4 xs q.1, h5 ys q.2⟩
end EP
namespace EP
open PySem PySem.Spec PyProof.Rows L2
theorem ty_list {K : PySem.W.Frag} {H : Hp} {a : Addr} {xs : List V} (h : SqL K H a xs) : TyX K H (.ref a) (.type "list") := by
  rcases h with (h | ⟨o, h⟩) | ⟨o, its, n, h1, h2, _⟩
  · exact .base (.lst h)
  · exact .base (.frz h)
  · exact .kList h1 h2
theorem ty_tuple {K : PySem.W.Frag} {H : Hp} {a : Addr} {xs : List V} (h : SqT K H a xs) : TyX K H (.ref a) (.type "tuple") := by
  rcases h with (h | ⟨o, h⟩) | ⟨o, its, n, h1, h2, _⟩
  · exact .base (.tup h)
  · exact .fTuple h
  · exact .kTuple h1 h2
end EP
namespace EP
open PySem PySem.Spec PyProof.Rows L2
theorem gcd_red {n d : Int} (h : d ≠ 0) : Int.gcd (rn n d) (rd n d) = 1 := by
  have hg := gcd_pos (n := n) h
  have h1 := congrArg Int.natAbs (rn_mul (n := n) (d := d))
  have h2 := congrArg Int.natAbs (rd_mul (n := n) (d := d))
  rw [Int.natAbs_mul, Int.natAbs_natCast] at h1 h2
  have h3 : (if d < 0 then -n else n).natAbs = n.natAbs := by split <;> omega
  rw [h3] at h1
  rw [Int.natAbs_natCast] at h2
  have h4 : Nat.gcd (rn n d).natAbs (rd n d).natAbs * Int.gcd n d = Int.gcd n d := by
    rw [← Nat.gcd_mul_right, h1, h2]; rfl
  have h5 : Nat.gcd (rn n d).natAbs (rd n d).natAbs * Int.gcd n d = 1 * Int.gcd n d := by rw [h4, Nat.one_mul]
  exact Nat.eq_of_mul_eq_mul_right hg h5
/-- a fraction in lowest terms, below 2 ^ n -/
structure Fq (K : PySem.W.Frag) (H : Hp) (n : Nat) (v : V) (a b : Int) : Prop where
  f : Fr K H v a b
  p : 0 < b
  ba : B n a
  bb : B n b
  g : Int.gcd a b = 1
theorem Fq.mo {K : PySem.W.Frag} {H H' : Hp} {r : Addr} {v : V} {a b : Int} {n : Nat} (h : Fq K H n v a b) (m : Mo r H H') : Fq K H' n v a b := ⟨h.f.mo m, h.p, h.ba, h.bb, h.g⟩
theorem Fq.same {K : PySem.W.Frag} {H H' : Hp} {v : V} {a b : Int} {n : Nat} (h : Fq K H n v a b) (m : Same H H') : Fq K H' n v a b := ⟨h.f.same m, h.p, h.ba, h.bb, h.g⟩
theorem Fq.mono {K : PySem.W.Frag} {H : Hp} {v : V} {a b : Int} {n m : Nat} (h : Fq K H n v a b) (l : n ≤ m := by decide) : Fq K H m v a b := ⟨h.f, h.p, h.ba.mono l, h.bb.mono l, h.g⟩
theorem Fq.red {K : PySem.W.Frag} {H : Hp} {v : V} {n d : Int} {k : Nat} (h : d ≠ 0) (f : Fr K H v (rn n d) (rd n d)) (bn : B k n) (bd : B k d) : Fq K H k v (rn n d) (rd n d) := ⟨f, rd_pos h, bn.rn h, bd.rd h, gcd_red h⟩
theorem Fq.lit {K : PySem.W.Frag} {H : Hp} {p : Addr} {a b : Int} {k : Nat} (h : H p = some (.tup [.int a, .int b])) (hb : 0 < b) (ba : B k a) (bb : B k b) (g : Int.gcd a b = 1) : Fq K H k (.ref p) a b := ⟨⟨p, rfl, .inl (.inl h)⟩, hb, ba, bb, g⟩
/-- a drawn fraction -/
def spDrawn (K : PySem.W.Frag) (n : Nat) : Sp := fun vs H Q _ => ∃ (r : Addr), vs = [.ref r] ∧ Rng H r ∧ ∀ v a b H', Mo r H H' → Fq K H' n v a b → Q v H'
/-- the same, positive -/
def spDrawnP (K : PySem.W.Frag) (n : Nat) : Sp := fun vs H Q _ => ∃ (r : Addr), vs = [.ref r] ∧ Rng H r ∧ ∀ v a b H', Mo r H H' → Fq K H' n v a b → 0 < a → Q v H'
theorem Rng.ne {H : Hp} {r l : Addr} (h : Rng H r) (n : H l = none) : l ≠ r := fun e => by
  obtain ⟨L, ns, i, c, s, h1, _⟩ := h
  subst e; rw [n] at h1; cases h1
theorem B.of {x : Int} {n : Nat} (h : x.natAbs < 2 ^ n) : B n x := h
end EP
namespace EP
theorem rn_pos {n d : Int} (hn : 0 < n) (hd : 0 < d) : 0 < rn n d := by
  have h1 := rn_rd (n := n) (d := d) (by omega)
  have h2 := rd_pos (n := n) (d := d) (by omega)
  have h3 : 0 < rn n d * d := by rw [h1]; exact Int.mul_pos hn h2
  exact Int.pos_of_mul_pos_left h3 hd
end EP
namespace EP
open PySem PySem.Spec PyProof.Rows L2
/-- fractions, one behind another -/
inductive Frs (K : PySem.W.Frag) (H : Hp) : List V → List (Int × Int) → Prop
  | nil : Frs K H [] []
  | cons {v : V} {a b : Int} {vs : List V} {qs : List (Int × Int)} : Fr K H v a b → 0 < b → Frs K H vs qs → Frs K H (v :: vs) ((a, b) :: qs)
theorem Frs.same {K : PySem.W.Frag} {H H' : Hp} (s : Same H H') : ∀ {vs : List V} {qs : List (Int × Int)}, Frs K H vs qs → Frs K H' vs qs
  | _, _, .nil => .nil
  | _, _, .cons f p r => .cons (f.same s) p (r.same s)
theorem Frs.mo {K : PySem.W.Frag} {H H' : Hp} {g : Addr} (s : Mo g H H') : ∀ {vs : List V} {qs : List (Int × Int)}, Frs K H vs qs → Frs K H' vs qs
  | _, _, .nil => .nil
  | _, _, .cons f p r => .cons (f.mo s) p (r.mo s)
theorem Frs.len {K : PySem.W.Frag} {H : Hp} : ∀ {vs : List V} {qs : List (Int × Int)}, Frs K H vs qs → vs.length = qs.length
  | _, _, .nil => rfl
  | _, _, .cons _ _ r => congrArg Nat.succ r.len
theorem Frs.pos {K : PySem.W.Frag} {H : Hp} : ∀ {vs : List V} {qs : List (Int × Int)}, Frs K H vs qs → ∀ q ∈ qs, 0 < q.2
  | _, _, .cons _ p r, q, h => by
    rcases List.mem_cons.mp h with e | e
    · rw [e]; exact p
    · exact r.pos q e
theorem Frs.get {K : PySem.W.Frag} {H : Hp} : ∀ {vs : List V} {qs : List (Int × Int)} {i : Nat} {v : V}, Frs K H vs qs → vs[i]? = some v → ∃ a b, qs[i]? = some (a, b) ∧ Fr K H v a b ∧ 0 < b
  | _, _, _, _, .nil, e => by simp at e
  | _, _, 0, _, .cons f p _, e => ⟨_, _, rfl, by cases Option.some.inj e; exact f, p⟩
  | _, _, i + 1, _, .cons _ _ r, e => Frs.get (i := i) r e
end EP
namespace EP
open PySem PySem.Spec PyProof.Rows L2
theorem sqt_mut {K : PySem.W.Frag} {H : Hp} {D a : Addr} {o : HO} {xs ys : List V} (hD : H D = some (.lst ys)) (h : SqT K H a xs) : SqT K (upd H D o) a xs := by
  rcases h with (h | ⟨u, h⟩) | h
  · refine .inl (.inl ?_)
    rw [upd_ne (fun e => by subst e; rw [hD] at h; cases h)]; exact h
  · refine .inl (.inr ⟨u, ?_⟩)
    rw [upd_ne (fun e => by subst e; rw [hD] at h; cases h)]; exact h
  · exact .inr h
theorem Fr.mut {K : PySem.W.Frag} {H : Hp} {D : Addr} {o : HO} {v : V} {a b : Int} {ys : List V} (h : Fr K H v a b) (hD : H D = some (.lst ys)) : Fr K (upd H D o) v a b := by
  obtain ⟨p, e, h⟩ := h
  exact ⟨p, e, sqt_mut hD h⟩
theorem Fq.mut {K : PySem.W.Frag} {H : Hp} {D : Addr} {o : HO} {v : V} {a b : Int} {n : Nat} {ys : List V} (h : Fq K H n v a b) (hD : H D = some (.lst ys)) : Fq K (upd H D o) n v a b := ⟨h.f.mut hD, h.p, h.ba, h.bb, h.g⟩
/-- drawn fractions, one behind another -/
inductive Fqs (K : PySem.W.Frag) (H : Hp) (n : Nat) : List V → List (Int × Int) → Prop
  | nil : Fqs K H n [] []
  | snoc {v : V} {a b : Int} {vs : List V} {qs : List (Int × Int)} : Fqs K H n vs qs → Fq K H n v a b → Fqs K H n (vs ++ [v]) (qs ++ [(a, b)])
theorem Fqs.mo {K : PySem.W.Frag} {H H' : Hp} {g : Addr} {n : Nat} (s : Mo g H H') : ∀ {vs : List V} {qs : List (Int × Int)}, Fqs K H n vs qs → Fqs K H' n vs qs
  | _, _, .nil => .nil
  | _, _, .snoc r f => .snoc (r.mo s) (f.mo s)
theorem Fqs.same {K : PySem.W.Frag} {H H' : Hp} {n : Nat} (s : Same H H') : ∀ {vs : List V} {qs : List (Int × Int)}, Fqs K H n vs qs → Fqs K H' n vs qs
  | _, _, .nil => .nil
  | _, _, .snoc r f => .snoc (r.same s) (f.same s)
theorem Fqs.mut {K : PySem.W.Frag} {H : Hp} {D : Addr} {o : HO} {n : Nat} {ys : List V} (hD : H D = some (.lst ys)) : ∀ {vs : List V} {qs : List (Int × Int)}, Fqs K H n vs qs → Fqs K (upd H D o) n vs qs
  | _, _, .nil => .nil
  | _, _, .snoc r f => .snoc (r.mut hD) (f.mut hD)
theorem Fqs.len {K : PySem.W.Frag} {H : Hp} {n : Nat} : ∀ {vs : List V} {qs : List (Int × Int)}, Fqs K H n vs qs → vs.length = qs.length
  | _, _, .nil => rfl
  | _, _, .snoc r _ => by rw [List.length_append, List.length_append, r.len]; rfl
theorem Frs.app {K : PySem.W.Frag} {H : Hp} {v : V} {a b : Int} (f : Fr K H v a b) (p : 0 < b) : ∀ {vs : List V} {qs : List (Int × Int)}, Frs K H vs qs → Frs K H (vs ++ [v]) (qs ++ [(a, b)])
  | _, _, .nil => .cons f p .nil
  | _, _, .cons g q r => .cons g q (r.app f p)
theorem Fqs.frs {K : PySem.W.Frag} {H : Hp} {n : Nat} : ∀ {vs : List V} {qs : List (Int × Int)}, Fqs K H n vs qs → Frs K H vs qs
  | _, _, .nil => .nil
  | _, _, .snoc r f => r.frs.app f.f f.p
theorem Fqs.bd {K : PySem.W.Frag} {H : Hp} {n : Nat} : ∀ {vs : List V} {qs : List (Int × Int)}, Fqs K H n vs qs → ∀ q ∈ qs, B n q.1 ∧ B n q.2 ∧ Int.gcd q.1 q.2 = 1
  | _, _, .nil, q, h => by cases h
  | _, _, .snoc r f, q, h => by
    rcases List.mem_append.mp h with e | e
    · exact r.bd q e
    · rw [List.mem_singleton.mp e]; exact ⟨f.ba, f.bb, f.g⟩
theorem Fqs.two {K : PySem.W.Frag} {H : Hp} {n : Nat} {vs : List V} {qs : List (Int × Int)} (h : Fqs K H n vs qs) (e : vs.length = 2) : ∃ v1 v2 a1 b1 a2 b2, vs = [v1, v2] ∧ Fq K H n v1 a1 b1 ∧ Fq K H n v2 a2 b2 := by
  cases h with
  | nil => cases e
  | @snoc v a b vs1 qs1 r f =>
    cases r with
    | nil => cases e
    | @snoc v' a' b' vs2 qs2 r2 f2 =>
      have : vs2 = [] := by cases vs2 with
        | nil => rfl
        | cons x xs => simp at e
      subst this
      exact ⟨v', v, a', b', a, b, rfl, f2, f⟩
end EP
namespace EP
theorem rd_one {n m : Int} (hm : m ≠ 0) (h : m ∣ n) : rd n m = 1 := by
  unfold rd
  have : Int.gcd n m = m.natAbs := by
    unfold Int.gcd
    exact Nat.gcd_eq_right (Int.natAbs_dvd_natAbs.mpr h)
  rw [this]
  exact Int.ediv_self (by omega)
end EP
namespace EP
/-! ### fractions are rational numbers -/
theorem rat_of {n d : Int} (hd : d ≠ 0) {q : Rat} (h : q * (d : Rat) = (n : Rat)) : rn n d = q.num ∧ rd n d = (q.den : Int) := by
  have hp := rd_pos (n := n) hd
  have e1 : (rd n d).toNat ≠ 0 := by omega
  have e2 : ((rd n d).toNat : Int) = rd n d := by omega
  have cop : (rn n d).natAbs.Coprime (rd n d).toNat := by
    have := gcd_red (n := n) hd
    unfold Int.gcd at this
    have e3 : (rd n d).natAbs = (rd n d).toNat := by omega
    rw [e3] at this; exact this
  have hq : q.num * d = n * q.den := by
    have h0 := Rat.num_divInt_den q
    rw [Rat.divInt_eq_div] at h0
    have hden : ((q.den : Int) : Rat) ≠ 0 := by
      have := q.den_nz
      intro e; exact this (by have := Rat.intCast_eq_zero_iff.mp e; omega)
    have h1 : (q.num : Rat) = q * ((q.den : Int) : Rat) := by rw [← Rat.div_mul_cancel (a := (q.num : Rat)) hden, h0]
    have h2 : ((q.num * d : Int) : Rat) = ((n * (q.den : Int) : Int) : Rat) := by
      rw [Rat.intCast_mul, Rat.intCast_mul, h1, ← h]; grind
    exact Rat.intCast_inj.mp h2
  have key : rn n d * q.den = q.num * rd n d := by
    refine Int.eq_of_mul_eq_mul_right hd ?_
    have h3 := rn_rd (n := n) hd
    have : rn n d * (q.den : Int) * d = (rn n d * d) * q.den := by grind
    rw [this, h3]
    have : q.num * rd n d * d = (q.num * d) * rd n d := by grind
    rw [this, hq]; grind
  have e : (⟨rn n d, (rd n d).toNat, e1, cop⟩ : Rat) = q := by
    refine Rat.eq_iff_mul_eq_mul.mpr ?_
    show rn n d * (q.den : Int) = q.num * ((rd n d).toNat : Int)
    rw [e2]; exact key
  constructor
  · rw [← e]
  · rw [← e]; exact e2.symm
theorem num_den (q : Rat) : q * ((q.den : Int) : Rat) = (q.num : Rat) := by
  have h0 := Rat.num_divInt_den q
  rw [Rat.divInt_eq_div] at h0
  have hden : ((q.den : Int) : Rat) ≠ 0 := by
    have := q.den_nz
    intro e; exact this (by have := Rat.intCast_eq_zero_iff.mp e; omega)
  rw [← Rat.div_mul_cancel (a := (q.num : Rat)) hden, h0]
theorem den_pos (q : Rat) : (0 : Int) < q.den := by have := q.den_nz; omega
theorem den_ne (q : Rat) : (q.den : Int) ≠ 0 := by have := q.den_nz; omega
theorem den_neQ (q : Rat) : ((q.den : Int) : Rat) ≠ 0 := fun e => den_ne q (Rat.intCast_eq_zero_iff.mp e)
/-- below 2 ^ n -/
structure Bq (n : Nat) (q : Rat) : Prop where
  a : B n q.num
  b : B n (q.den : Int)
theorem Bq.mono {n m : Nat} {q : Rat} (h : Bq n q) (l : n ≤ m := by decide) : Bq m q := ⟨h.a.mono l, h.b.mono l⟩
theorem Bq.of {k : Nat} {n d : Int} {q : Rat} (hd : d ≠ 0) (h : q * (d : Rat) = (n : Rat)) (bn : B k n) (bd : B k d) : Bq k q := by
  obtain ⟨e1, e2⟩ := rat_of hd h
  exact ⟨by rw [← e1]; exact bn.rn hd, by rw [← e2]; exact bd.rd hd⟩
theorem Bq.int {k : Nat} {n : Int} (h : B k n) (hk : 0 < k := by decide) : Bq k (n : Rat) := ⟨h, B.one.mono hk⟩
theorem q_add (p q : Rat) : (p + q) * ((p.den * q.den : Int) : Rat) = ((p.num * q.den + q.num * p.den : Int) : Rat) := by
  have h1 := num_den p; have h2 := num_den q
  simp only [Rat.intCast_mul, Rat.intCast_add, Rat.intCast_sub, Rat.intCast_one]
  rw [← h1, ← h2]; grind
theorem q_sub (p q : Rat) : (p - q) * ((p.den * q.den : Int) : Rat) = ((p.num * q.den - q.num * p.den : Int) : Rat) := by
  have h1 := num_den p; have h2 := num_den q
  simp only [Rat.intCast_mul, Rat.intCast_add, Rat.intCast_sub, Rat.intCast_one]
  rw [← h1, ← h2]; grind
theorem q_mul (p q : Rat) : (p * q) * ((p.den * q.den : Int) : Rat) = ((p.num * q.num : Int) : Rat) := by
  have h1 := num_den p; have h2 := num_den q
  simp only [Rat.intCast_mul, Rat.intCast_add, Rat.intCast_sub, Rat.intCast_one]
  rw [← h1, ← h2]; grind
theorem num_ne {q : Rat} (h : q ≠ 0) : q.num ≠ 0 := fun e => h (Rat.num_eq_zero.mp e)
theorem q_div (p : Rat) {q : Rat} (h : q ≠ 0) : (p / q) * ((p.den * q.num : Int) : Rat) = ((p.num * q.den : Int) : Rat) := by
  have h1 := num_den p; have h2 := num_den q
  have h3 : p / q * q = p := Rat.div_mul_cancel h
  simp only [Rat.intCast_mul, Rat.intCast_add, Rat.intCast_sub, Rat.intCast_one]
  rw [← h1, ← h2]; grind
theorem q_times (n : Int) (q : Rat) : ((n : Rat) * q) * ((q.den : Int) : Rat) = ((n * q.num : Int) : Rat) := by
  have h2 := num_den q
  simp only [Rat.intCast_mul, Rat.intCast_add, Rat.intCast_sub, Rat.intCast_one]
  rw [← h2]; grind
theorem Bq.add {n m : Nat} {p q : Rat} (h : Bq n p) (k : Bq m q) : Bq (n + m + 1) (p + q) :=
  .of (Int.mul_ne_zero (den_ne p) (den_ne q)) (q_add p q) ((h.a.mul k.b).add ((Nat.add_comm m n) ▸ k.a.mul h.b)) ((h.b.mul k.b).mono (by omega))
theorem Bq.sub {n m : Nat} {p q : Rat} (h : Bq n p) (k : Bq m q) : Bq (n + m + 1) (p - q) :=
  .of (Int.mul_ne_zero (den_ne p) (den_ne q)) (q_sub p q) ((h.a.mul k.b).sub ((Nat.add_comm m n) ▸ k.a.mul h.b)) ((h.b.mul k.b).mono (by omega))
theorem Bq.mul {n m : Nat} {p q : Rat} (h : Bq n p) (k : Bq m q) : Bq (n + m) (p * q) :=
  .of (Int.mul_ne_zero (den_ne p) (den_ne q)) (q_mul p q) (h.a.mul k.a) (h.b.mul k.b)
theorem Bq.div {n m : Nat} {p q : Rat} (z : q ≠ 0) (h : Bq n p) (k : Bq m q) : Bq (n + m) (p / q) :=
  .of (Int.mul_ne_zero (den_ne p) (num_ne z)) (q_div p z) (h.a.mul k.b) (h.b.mul k.a)
theorem Bq.times {n m : Nat} {k : Int} {q : Rat} (h : B n k) (b : Bq m q) : Bq (n + m) ((k : Rat) * q) :=
  .of (den_ne q) (q_times k q) (h.mul b.a) (b.b.mono (by omega))
theorem Bq.floor {n : Nat} {q : Rat} (h : Bq n q) : B n q.floor := by
  rw [Rat.floor_def]; exact h.a.le (div_abs (den_pos q))
/-! ### remainders -/
def remQ (p P : Rat) : Rat := p - ((p / P).floor : Rat) * P
theorem remQ_nn {p P : Rat} (h : 0 < P) : 0 ≤ remQ p P := by
  unfold remQ
  have h1 := Rat.floor_le (p / P)
  have h2 := Rat.mul_le_mul_of_nonneg_right h1 (Rat.le_of_lt h)
  rw [Rat.div_mul_cancel (by grind)] at h2
  grind
theorem remQ_lt {p P : Rat} (h : 0 < P) : remQ p P < P := by
  unfold remQ
  have h1 := Rat.lt_floor_add_one (p / P)
  have h2 := Rat.mul_lt_mul_of_pos_right h1 h
  rw [Rat.div_mul_cancel (by grind)] at h2
  simp only [Rat.intCast_mul, Rat.intCast_add, Rat.intCast_sub, Rat.intCast_one] at h2
  grind
theorem remQ_eq (p P : Rat) : p = ((p / P).floor : Rat) * P + remQ p P := by unfold remQ; grind
theorem remQ_of {p P t : Rat} (h : 0 < P) (k : Int) (e : p = (k : Rat) * P + t) (h0 : 0 ≤ t) (h1 : t < P) : remQ p P = t := by
  have hne : P ≠ 0 := by grind
  have hf : (p / P).floor = k := by
    have hd : p / P * P = p := Rat.div_mul_cancel hne
    have a1 : k ≤ (p / P).floor := by
      rw [Rat.le_floor_iff]
      refine Rat.le_of_mul_le_mul_right (c := P) ?_ h
      rw [hd]; grind
    have a2 : (p / P).floor < k + 1 := by
      rw [Rat.floor_lt_iff]
      refine Rat.lt_of_mul_lt_mul_right (c := P) ?_ (Rat.le_of_lt h)
      rw [hd]; simp only [Rat.intCast_mul, Rat.intCast_add, Rat.intCast_sub, Rat.intCast_one]; grind
    omega
  unfold remQ; rw [hf, e]; grind
theorem remQ_mul {p P : Rat} (h : 0 < P) (k : Int) : remQ (p + (k : Rat) * P) P = remQ p P := by
  refine remQ_of h ((p / P).floor + k) ?_ (remQ_nn h) (remQ_lt h)
  have := remQ_eq p P
  simp only [Rat.intCast_mul, Rat.intCast_add, Rat.intCast_sub, Rat.intCast_one]; grind
theorem Bq.rem {n m : Nat} {p P : Rat} (h : 0 < P) (b : Bq n p) (k : Bq m P) : Bq (n + m) (remQ p P) := by
  have hd : (p.den * P.den : Int) ≠ 0 := Int.mul_ne_zero (den_ne p) (den_ne P)
  have hdp : (0 : Int) < p.den * P.den := Int.mul_pos (den_pos p) (den_pos P)
  have e : remQ p P * ((p.den * P.den : Int) : Rat) = ((p.num * P.den - (p / P).floor * P.num * p.den : Int) : Rat) := by
    have h1 := num_den p; have h2 := num_den P
    unfold remQ
    simp only [Rat.intCast_mul, Rat.intCast_add, Rat.intCast_sub, Rat.intCast_one]
    rw [← h1, ← h2]; grind
  refine .of hd e ?_ (b.b.mul k.b)
  have h0 := remQ_nn (p := p) h
  have h1 := remQ_lt (p := p) h
  have hdq : (0 : Rat) < ((p.den * P.den : Int) : Rat) := Rat.intCast_pos.mpr hdp
  have c0 : (0 : Rat) ≤ ((p.num * P.den - (p / P).floor * P.num * p.den : Int) : Rat) := by
    rw [← e]; exact Rat.mul_nonneg h0 (Rat.le_of_lt hdq)
  have c1 : ((p.num * P.den - (p / P).floor * P.num * p.den : Int) : Rat) < ((P.num * p.den : Int) : Rat) := by
    rw [← e]
    have := Rat.mul_lt_mul_of_pos_right h1 hdq
    have h2 := num_den P
    have e2 : P * ((p.den * P.den : Int) : Rat) = ((P.num * p.den : Int) : Rat) := by simp only [Rat.intCast_mul, Rat.intCast_add, Rat.intCast_sub, Rat.intCast_one]; rw [← h2]; grind
    rw [← e2]; exact this
  have d0 := Rat.intCast_nonneg.mp c0
  have d1 := Rat.intCast_lt_intCast.mp c1
  have := (Nat.add_comm m n) ▸ k.a.mul b.b
  exact this.le (by omega)
end EP
namespace EP
open PySem PySem.Spec PyProof.Rows L2
/-! ### data without lists -/
mutual
def noL : PyData → Bool
  | .list _ => false
  | .tuple xs => noLs xs
  | _ => true
def noLs : List PyData → Bool
  | [] => true
  | x :: xs => noL x && noLs xs
end
theorem noLs_all : ∀ {ds : List PyData}, (∀ d ∈ ds, noL d = true) → noLs ds = true
  | [], _ => by simp [noLs]
  | x :: xs, h => by simp only [noLs, Bool.and_eq_true]; exact ⟨h x (by simp), noLs_all fun d hd => h d (by simp [hd])⟩
mutual
theorem Dp_mo {K : PySem.W.Frag} {H H' : Hp} {r : Addr} (m : Mo r H H') : ∀ {v : V} {d : PyData}, Dp K H v d → noL d = true → Dp K H' v d
  | _, _, .non, _ => .non
  | _, _, .bl b, _ => .bl b
  | _, _, .int i, _ => .int i
  | _, _, .str x, _ => .str x
  | _, _, .lst h a, e => by simp [noL] at e
  | _, _, .tup h a, e => .tup (sqt_mo m h) (DpAll_mo m a (by simpa only [noL] using e))
theorem DpAll_mo {K : PySem.W.Frag} {H H' : Hp} {r : Addr} (m : Mo r H H') : ∀ {v : List V} {d : List PyData}, DpAll K H v d → noLs d = true → DpAll K H' v d
  | _, _, .nil, _ => .nil
  | _, _, .cons h a, e => by
    simp only [noLs, Bool.and_eq_true] at e
    exact .cons (Dp_mo m h e.1) (DpAll_mo m a e.2)
end
mutual
theorem Dp_mut {K : PySem.W.Frag} {H : Hp} {D : Addr} {o : HO} {ys : List V} (hD : H D = some (.lst ys)) : ∀ {v : V} {d : PyData}, Dp K H v d → noL d = true → Dp K (upd H D o) v d
  | _, _, .non, _ => .non
  | _, _, .bl b, _ => .bl b
  | _, _, .int i, _ => .int i
  | _, _, .str x, _ => .str x
  | _, _, .lst h a, e => by simp [noL] at e
  | _, _, .tup h a, e => .tup (sqt_mut hD h) (DpAll_mut hD a (by simpa only [noL] using e))
theorem DpAll_mut {K : PySem.W.Frag} {H : Hp} {D : Addr} {o : HO} {ys : List V} (hD : H D = some (.lst ys)) : ∀ {v : List V} {d : List PyData}, DpAll K H v d → noLs d = true → DpAll K (upd H D o) v d
  | _, _, .nil, _ => .nil
  | _, _, .cons h a, e => by
    simp only [noLs, Bool.and_eq_true] at e
    exact .cons (Dp_mut hD h e.1) (DpAll_mut hD a e.2)
end
theorem DpAll_snoc {K : PySem.W.Frag} {H : Hp} {v : V} {d : PyData} (h : Dp K H v d) : ∀ {vs : List V} {ds : List PyData}, DpAll K H vs ds → DpAll K H (vs ++ [v]) (ds ++ [d])
  | _, _, .nil => .cons h .nil
  | _, _, .cons x a => .cons x (DpAll_snoc h a)
theorem DpAll_append {K : PySem.W.Frag} {H : Hp} {us : List V} {es : List PyData} (h : DpAll K H us es) : ∀ {vs : List V} {ds : List PyData}, DpAll K H vs ds → DpAll K H (vs ++ us) (ds ++ es)
  | _, _, .nil => h
  | _, _, .cons x a => .cons x (DpAll_append h a)
theorem DpAll_take {K : PySem.W.Frag} {H : Hp} (n : Nat) : ∀ {vs : List V} {ds : List PyData}, DpAll K H vs ds → DpAll K H (vs.take n) (ds.take n) := by
  induction n with
  | zero => intro vs ds h; simp only [List.take_zero]; exact .nil
  | succ n ih =>
    intro vs ds h
    cases h with
    | nil => exact .nil
    | cons x a => exact .cons x (ih a)
theorem DpAll_drop {K : PySem.W.Frag} {H : Hp} (n : Nat) : ∀ {vs : List V} {ds : List PyData}, DpAll K H vs ds → DpAll K H (vs.drop n) (ds.drop n) := by
  induction n with
  | zero => intro vs ds h; exact h
  | succ n ih =>
    intro vs ds h
    cases h with
    | nil => exact .nil
    | cons x a => exact ih a
theorem DpAll_bl {K : PySem.W.Frag} {H : Hp} : ∀ {vs : List V} {bs : List Bool}, DpAll K H vs (bs.map PyData.bool) → vs = bs.map V.bl
  | _, [], .nil => rfl
  | _, b :: bs, .cons x a => by cases x; rw [List.map_cons, DpAll_bl a]
/-! ### fractions and spans as data -/
def dq (q : Rat) : PyData := .tuple [.int q.num, .int q.den]
def dsp (x : Rat × Rat) : PyData := .tuple [dq x.1, dq x.2]
def dG (pl P : Rat) (xs : List (Rat × Rat)) : PyData := .tuple [dq pl, dq P, .tuple (xs.map dsp)]
theorem noL_dq (q : Rat) : noL (dq q) = true := by simp [dq, noL, noLs]
theorem noL_dsp (x : Rat × Rat) : noL (dsp x) = true := by simp [dsp, noL, noLs, noL_dq]
theorem noLs_dsp (xs : List (Rat × Rat)) : noLs (xs.map dsp) = true := noLs_all fun d h => by
  obtain ⟨x, _, rfl⟩ := List.mem_map.mp h; exact noL_dsp x
theorem noL_dG (pl P : Rat) (xs : List (Rat × Rat)) : noL (dG pl P xs) = true := by simp [dG, noL, noLs, noL_dq, noLs_dsp]
theorem dq_inj {p q : Rat} (h : dq p = dq q) : p = q := by
  unfold dq at h
  injection h with h; injection h with h1 h2; injection h1 with h1; injection h2 with h2 _; injection h2 with h2
  exact Rat.ext h1 (by omega)
theorem dsp_inj {x y : Rat × Rat} (h : dsp x = dsp y) : x = y := by
  unfold dsp at h
  injection h with h; injection h with h1 h2; injection h2 with h2 _
  exact Prod.ext (dq_inj h1) (dq_inj h2)
section
variable {K : PySem.W.Frag} {H H' : Hp} {v : V}
theorem dq_fr {q : Rat} (h : Dp K H v (dq q)) : Fr K H v q.num q.den := by
  unfold dq at h
  cases h with
  | tup h a =>
    cases a with | cons x a => cases x; cases a with | cons x a => cases x; cases a; exact ⟨_, rfl, h⟩
theorem fr_dq {q : Rat} (h : Fr K H v q.num q.den) : Dp K H v (dq q) := by
  obtain ⟨p, rfl, h⟩ := h
  exact .tup h (.cons (.int _) (.cons (.int _) .nil))
theorem dp_two {d e : PyData} (h : Dp K H v (.tuple [d, e])) : ∃ p x y, v = .ref p ∧ SqT K H p [x, y] ∧ Dp K H x d ∧ Dp K H y e := by
  cases h with
  | tup h a =>
    cases a with | cons x a => cases a with | cons y a => cases a; exact ⟨_, _, _, rfl, h, x, y⟩
theorem dp_three {d e f : PyData} (h : Dp K H v (.tuple [d, e, f])) : ∃ p x y z, v = .ref p ∧ SqT K H p [x, y, z] ∧ Dp K H x d ∧ Dp K H y e ∧ Dp K H z f := by
  cases h with
  | tup h a =>
    cases a with | cons x a => cases a with | cons y a => cases a with | cons z a => cases a; exact ⟨_, _, _, _, rfl, h, x, y, z⟩
theorem dp_tup {ds : List PyData} (h : Dp K H v (.tuple ds)) : ∃ p vs, v = .ref p ∧ SqT K H p vs ∧ DpAll K H vs ds := by
  cases h with
  | tup h a => exact ⟨_, _, rfl, h, a⟩
theorem dp_lst {ds : List PyData} (h : Dp K H v (.list ds)) : ∃ p vs, v = .ref p ∧ SqL K H p vs ∧ DpAll K H vs ds := by
  cases h with
  | lst h a => exact ⟨_, _, rfl, h, a⟩
theorem dp_new {p : Addr} {vs : List V} {ds : List PyData} (n : H p = none) (a : DpAll K H vs ds) : Dp K (upd H p (.tup vs)) (.ref p) (.tuple ds) :=
  .tup (.inl (.inl upd_same)) (DpAll_same (same_upd n) a)
theorem dp_newL {p : Addr} {vs : List V} {ds : List PyData} (n : H p = none) (a : DpAll K H vs ds) : Dp K (upd H p (.lst vs)) (.ref p) (.list ds) :=
  .lst (.inl (.inl upd_same)) (DpAll_same (same_upd n) a)
theorem dq_lit {p : Addr} {a b : Int} {q : Rat} (n : H p = none) (ha : a = q.num) (hb : b = q.den) : Dp K (upd H p (.tup [.int a, .int b])) (.ref p) (dq q) := by
  subst ha hb
  exact dp_new n (.cons (.int _) (.cons (.int _) .nil))
/-! ### the promises of the fractions, by rational numbers -/
end
section
variable {K : PySem.W.Frag} {H : Hp} {x y : V} {p q : Rat} {Q : V → Hp → Prop}
theorem u_add (hx : Dp K H x (dq p)) (hy : Dp K H y (dq q)) (bp : Bq 2000 p) (bq : Bq 2000 q) (k : ∀ v H', Same H H' → Dp K H' v (dq (p + q)) → Q v H') :
    spFF K (fun a b c d => (rn (a * d + c * b) (b * d), rd (a * d + c * b) (b * d))) [x, y] H Q E0 := by
  obtain ⟨e1, e2⟩ := rat_of (Int.mul_ne_zero (den_ne p) (den_ne q)) (q_add p q)
  refine ⟨x, y, _, _, _, _, rfl, dq_fr hx, dq_fr hy, den_ne p, den_ne q, bp.a, bp.b, bq.a, bq.b, fun v H' s f => k v H' s (fr_dq ?_)⟩
  rw [← e1, ← e2]; exact f
theorem u_sub (hx : Dp K H x (dq p)) (hy : Dp K H y (dq q)) (bp : Bq 2000 p) (bq : Bq 2000 q) (k : ∀ v H', Same H H' → Dp K H' v (dq (p - q)) → Q v H') :
    spFF K (fun a b c d => (rn (a * d - c * b) (b * d), rd (a * d - c * b) (b * d))) [x, y] H Q E0 := by
  obtain ⟨e1, e2⟩ := rat_of (Int.mul_ne_zero (den_ne p) (den_ne q)) (q_sub p q)
  refine ⟨x, y, _, _, _, _, rfl, dq_fr hx, dq_fr hy, den_ne p, den_ne q, bp.a, bp.b, bq.a, bq.b, fun v H' s f => k v H' s (fr_dq ?_)⟩
  rw [← e1, ← e2]; exact f
theorem u_mul (hx : Dp K H x (dq p)) (hy : Dp K H y (dq q)) (bp : Bq 2000 p) (bq : Bq 2000 q) (k : ∀ v H', Same H H' → Dp K H' v (dq (p * q)) → Q v H') :
    spFF K (fun a b c d => (rn (a * c) (b * d), rd (a * c) (b * d))) [x, y] H Q E0 := by
  obtain ⟨e1, e2⟩ := rat_of (Int.mul_ne_zero (den_ne p) (den_ne q)) (q_mul p q)
  refine ⟨x, y, _, _, _, _, rfl, dq_fr hx, dq_fr hy, den_ne p, den_ne q, bp.a, bp.b, bq.a, bq.b, fun v H' s f => k v H' s (fr_dq ?_)⟩
  rw [← e1, ← e2]; exact f
theorem u_div (hx : Dp K H x (dq p)) (hy : Dp K H y (dq q)) (z : q ≠ 0) (bp : Bq 2000 p) (bq : Bq 2000 q) (k : ∀ v H', Same H H' → Dp K H' v (dq (p / q)) → Q v H') :
    spFD K (fun a b c d => (rn (a * d) (b * c), rd (a * d) (b * c))) [x, y] H Q E0 := by
  obtain ⟨e1, e2⟩ := rat_of (Int.mul_ne_zero (den_ne p) (num_ne z)) (q_div p z)
  refine ⟨x, y, _, _, _, _, rfl, dq_fr hx, dq_fr hy, den_ne p, num_ne z, bp.a, bp.b, bq.a, bq.b, fun v H' s f => k v H' s (fr_dq ?_)⟩
  rw [← e1, ← e2]; exact f
theorem u_times {n : Int} (hx : Dp K H x (dq p)) (bn : B 2000 n) (bp : Bq 2000 p) (k : ∀ v H', Same H H' → Dp K H' v (dq ((n : Rat) * p)) → Q v H') :
    spTimes K [.int n, x] H Q E0 := by
  obtain ⟨e1, e2⟩ := rat_of (den_ne p) (q_times n p)
  refine ⟨n, x, _, _, rfl, dq_fr hx, den_ne p, bn, bp.a, bp.b, fun v H' s f => k v H' s (fr_dq ?_)⟩
  rw [← e1, ← e2]; exact f
theorem u_red {n d : Int} (hd : d ≠ 0) (bn : B 8000 n) (bd : B 8000 d) (k : ∀ v H', Same H H' → Dp K H' v (dq ((n : Rat) / (d : Rat))) → Q v H') :
    spRed K [.int n, .int d] H Q E0 := by
  have hd' : (d : Rat) ≠ 0 := fun e => hd (Rat.intCast_eq_zero_iff.mp e)
  obtain ⟨e1, e2⟩ := rat_of hd (Rat.div_mul_cancel (a := (n : Rat)) hd')
  refine ⟨n, d, rfl, hd, bn, bd, fun v H' s f => k v H' s (fr_dq ?_)⟩
  rw [← e1, ← e2]; exact f
theorem u_less (hx : Dp K H x (dq p)) (hy : Dp K H y (dq q)) (bp : Bq 2000 p) (bq : Bq 2000 q) (k : ∀ v H', v = .bl (decide (p < q)) → H' = H → Q v H') : spLess K [x, y] H Q E0 := by
  refine ⟨x, y, _, _, _, _, rfl, dq_fr hx, dq_fr hy, bp.a, bp.b, bq.a, bq.b, ?_⟩
  have : decide (p.num * (q.den : Int) < q.num * (p.den : Int)) = decide (p < q) := decide_eq_decide.mpr (Rat.lt_iff p q).symm
  rw [this]; exact k _ _ rfl rfl
theorem u_floor (hx : Dp K H x (dq p)) (bp : Bq 4000 p) (k : ∀ v H', v = .int p.floor → H' = H → Q v H') : spFloor K [x] H Q E0 := by
  refine ⟨x, _, _, rfl, dq_fr hx, den_pos p, bp.b, ?_⟩
  rw [← Rat.floor_def]; exact k _ _ rfl rfl
end
/-- a slice of a tuple: the whole of it is the tuple itself -/
def rSlQ (K : PySem.W.Frag) : V → Option Int → Option Int → Hp → VK → Prop := fun x lo hi H Q => ∃ a xs, x = .ref a ∧ SqT K H a xs ∧ ∀ p H', Same H H' → SqT K H' p (cutV xs lo hi) → Q (.ref p) H'
theorem sl_tupB {X : Cx} : SlR X (rSlQ X.K) := fun pins s σ H x v vl vu lo hi sl Q I rx hs pl pu h => by
  obtain ⟨a, xs, rfl, ha, q⟩ := h
  refine sl_tupA pins s σ H _ v vl vu lo hi sl Q I rx hs pl pu ⟨a, xs, rfl, ha, fun e => q a H (Same.refl _) ?_, fun _ p np => q p _ (same_upd np) (.inl (.inl upd_same))⟩
  have : cutV xs lo hi = xs := by
    unfold cutV; rw [e.1, e.2, List.drop_zero, Nat.sub_zero, List.take_length]
  rw [this]; exact ha
theorem nilI {σ : L2.St} {H : Hp} {k : List V → Hp → Prop} (h : k [] H) : tNil σ H k := h
def spLessQ (K : PySem.W.Frag) : Sp := fun vs H Q _ => ∃ (x y : V) (p q : Rat), vs = [x, y] ∧ Dp K H x (dq p) ∧ Dp K H y (dq q) ∧ Bq 2000 p ∧ Bq 2000 q ∧ ∀ v H', v = .bl (decide (p < q)) → H' = H → Q v H'
def spFloorQ (K : PySem.W.Frag) : Sp := fun vs H Q _ => ∃ (x : V) (p : Rat), vs = [x] ∧ Dp K H x (dq p) ∧ Bq 4000 p ∧ ∀ v H', v = .int p.floor → H' = H → Q v H'
/-- one minus the floor of one / period times the period -/
def spRemQ (K : PySem.W.Frag) : Sp := fun vs H Q _ => ∃ (x y : V) (p P : Rat), vs = [x, y] ∧ Dp K H x (dq p) ∧ Dp K H y (dq P) ∧ 0 < P ∧ Bq 1300 p ∧ Bq 300 P ∧ ∀ v H', Same H H' → Dp K H' v (dq (remQ p P)) → Q v H'
/-! ### comprehensions: one value for each item -/
theorem lc_map {K : PySem.W.Frag} {J : It} {n : Nat} {G : Hp → Prop} {Y : Nat → Hp → V → Hp → Prop} (w : Walk J n G Y) {g : TG} {te : TE} {vs : List Nat} {σ : L2.St} {H : Hp} {D : Addr} {Qd : Hp → Prop} (ds : List PyData) (nD : H D = none) (hn : ds.length = n) (hl : n < 1000)
    (hno : noLs ds = true) (hG : ∀ H', Same H H' → G H')
    (hs : ∀ i x d H' H2, i < n → ds[i]? = some d → Same H H' → Y i H' x H2 → ∀ R : V → Hp → Prop, (∀ y H4, Same H' H4 → Dp K H4 y d → R y H4) → g x (wipe σ vs) H2 fun σ2 H3 => wipe σ2 vs = wipe σ vs ∧ te σ2 H3 R)
    (q : ∀ H' us, Same H H' → H' D = some (.lst us) → DpAll K H' us ds → Qd H') :
    ∃ W : Nat → Nat → Hp → Prop, (∃ m, W 0 m (upd H D (.lst []))) ∧ ∀ i m H, W i m H →
      (J.stop i H ∧ Qd H) ∨ (J.go i H ∧ ∃ Nx : Hp → Prop, (∀ H', Nx H' → ∃ m', m' < m ∧ W (i + 1) m' H') ∧ ∀ x H', J.yld i H x H' → g x (wipe σ vs) H' fun σ2 H2 => wipe σ2 vs = wipe σ vs ∧ tYes σ2 H2 fun b H3 =>
        if b = true then te σ2 H3 fun y H4 => ∃ acc, H4 D = some (.lst acc) ∧ acc.length < sizeLine ∧ Nx (upd H4 D (.lst (acc ++ [y]))) else Nx H3) := by
  refine lc_it w (fun i H' => Same H H' ∧ ∃ us, H' D = some (.lst us) ∧ DpAll K H' us (ds.take i)) ⟨same_upd nD, [], upd_same, .nil⟩ (fun i H' _ h => hG H' h.1) ?_ ?_
  · rintro i x H1 H2 hi ⟨sH, us, hD, hu⟩ hy
    have hi' : i < ds.length := by omega
    refine hs i x ds[i] H1 H2 hi (List.getElem?_eq_getElem hi') sH hy _ (fun y H4 s4 dy => ?_)
    have hD4 := s4 _ _ hD
    have hlen := DpAll_len hu
    rw [List.length_take] at hlen
    refine ⟨us, hD4, Nat.lt_of_lt_of_le (show us.length < 1000 by omega) (by decide), ?_, us ++ [y], upd_same, ?_⟩
    · intro b o e; rw [upd_ne (ne_of_none e nD)]; exact s4 _ _ (sH _ _ e)
    · have e : ds.take (i + 1) = ds.take i ++ [ds[i]] := by rw [List.take_add_one, List.getElem?_eq_getElem hi']; rfl
      rw [e]
      refine DpAll_mut hD4 (DpAll_snoc dy (DpAll_same s4 hu)) ?_
      rw [← e]
      have : ∀ (n : Nat) (l : List PyData), noLs l = true → noLs (l.take n) = true := by
        intro n; induction n with
        | zero => intro l _; simp [noLs]
        | succ n ih => intro l h; cases l with
          | nil => simp [noLs]
          | cons a l => simp only [noLs, Bool.and_eq_true, List.take_succ_cons] at h ⊢; exact ⟨h.1, ih l h.2⟩
      exact this _ _ hno
  · rintro H1 ⟨sH, us, hD, hu⟩
    rw [← hn, List.take_length] at hu
    exact q H1 us sH hD hu
theorem eqv_dq (p q : Rat) : PyData.eqv (dq p) (dq q) = decide (p = q) := by
  have : PyData.eqv (dq p) (dq q) = (decide (p.num = q.num) && decide ((p.den : Int) = q.den)) := by
    simp [dq, PyData.eqv, PyData.eqvAll]; rfl
  rw [this]
  by_cases h : p = q
  · subst h; simp
  · rw [decide_eq_false h]
    by_cases h1 : p.num = q.num
    · by_cases h2 : (p.den : Int) = q.den
      · exact absurd (Rat.ext h1 (by omega)) h
      · rw [decide_eq_false h2, Bool.and_false]
    · rw [decide_eq_false h1, Bool.false_and]
theorem eqv_dsp (x y : Rat × Rat) : PyData.eqv (dsp x) (dsp y) = decide (x = y) := by
  have : PyData.eqv (dsp x) (dsp y) = (PyData.eqv (dq x.1) (dq y.1) && PyData.eqv (dq x.2) (dq y.2)) := by
    simp [dsp, PyData.eqv, PyData.eqvAll]
  rw [this, eqv_dq, eqv_dq]
  by_cases h : x = y
  · subst h; simp
  · rw [decide_eq_false h]
    by_cases h1 : x.1 = y.1
    · by_cases h2 : x.2 = y.2
      · exact absurd (Prod.ext h1 h2) h
      · rw [decide_eq_false h2, Bool.and_false]
    · rw [decide_eq_false h1, Bool.false_and]
theorem eqvAll_dsp : ∀ xs ys : List (Rat × Rat), PyData.eqvAll (xs.map dsp) (ys.map dsp) = decide (xs = ys)
  | [], [] => by simp [PyData.eqvAll]
  | [], y :: ys => by simp [PyData.eqvAll]
  | x :: xs, [] => by simp [PyData.eqvAll]
  | x :: xs, y :: ys => by
    simp only [List.map_cons, PyData.eqvAll, eqv_dsp, eqvAll_dsp xs ys]
    by_cases h : x = y <;> by_cases h2 : xs = ys <;> simp [h, h2]
theorem lay_dq (q : Rat) : PyData.canLay0 (dq q) = true := by simp [dq, PyData.canLay0, PyData.canLayAll0]
theorem lay_dsp (x : Rat × Rat) : PyData.canLay0 (dsp x) = true := by simp [dsp, PyData.canLay0, PyData.canLayAll0, lay_dq]
theorem lays_of : ∀ {ds : List PyData}, (∀ d ∈ ds, PyData.canLay0 d = true) → PyData.canLayAll0 ds = true
  | [], _ => by simp [PyData.canLayAll0]
  | x :: xs, h => by simp only [PyData.canLayAll0, Bool.and_eq_true]; exact ⟨h x (by simp), lays_of fun d hd => h d (by simp [hd])⟩
theorem lays_dsp (xs : List (Rat × Rat)) : PyData.canLayAll0 (xs.map dsp) = true := lays_of fun d h => by
  obtain ⟨x, _, rfl⟩ := List.mem_map.mp h; exact lay_dsp x
theorem dep_dq (q : Rat) : PyData.depth (dq q) ≤ 3 := by simp [dq, PyData.depth, PyData.depthAll]
theorem dep_dsp (x : Rat × Rat) : PyData.depth (dsp x) ≤ 5 := by
  have h1 := dep_dq x.1; have h2 := dep_dq x.2
  simp only [dsp, PyData.depth, PyData.depthAll]; omega
theorem deps_of {n : Nat} : ∀ {ds : List PyData}, (∀ d ∈ ds, PyData.depth d ≤ n) → PyData.depthAll ds ≤ n
  | [], _ => by simp [PyData.depthAll]
  | x :: xs, h => by
    have h1 := h x (by simp)
    have h2 := deps_of (n := n) (ds := xs) fun d hd => h d (by simp [hd])
    simp only [PyData.depthAll]; omega
theorem deps_dsp (xs : List (Rat × Rat)) : PyData.depthAll (xs.map dsp) ≤ 5 := deps_of fun d h => by
  obtain ⟨x, _, rfl⟩ := List.mem_map.mp h; exact dep_dsp x
theorem shaped_of {d : PyData} (h : PyData.canLay0 d = true) (k : PyData.depth d ≤ 64) : SeqAt.shaped d = true := by
  unfold SeqAt.shaped
  rw [Bool.and_eq_true]
  exact ⟨h, decide_eq_true k⟩
theorem sh_dq (q : Rat) : SeqAt.shaped (dq q) = true := shaped_of (lay_dq q) (by have := dep_dq q; omega)
theorem sh_dsp (x : Rat × Rat) : SeqAt.shaped (dsp x) = true := shaped_of (lay_dsp x) (by have := dep_dsp x; omega)
theorem sh_Ldsp (xs : List (Rat × Rat)) : SeqAt.shaped (.list (xs.map dsp)) = true :=
  shaped_of (by simp only [PyData.canLay0]; exact lays_dsp xs) (by have := deps_dsp xs; simp only [PyData.depth]; omega)
theorem eqv_Ldsp (xs ys : List (Rat × Rat)) : PyData.eqv (.list (xs.map dsp)) (.list (ys.map dsp)) = decide (xs = ys) := by
  simp only [PyData.eqv]; exact eqvAll_dsp xs ys
end EP
namespace EP
abbrev Sps := List (Rat × Rat)
def ends (xs : Sps) : List Rat := xs.map fun x => x.1 + x.2
def begs (xs : Sps) : List Rat := xs.map (·.1)
def nexts (P : Rat) (xs : Sps) : List Rat := (begs xs).drop 1 ++ ((begs xs).take 1).map (· + P)
def fitsB (P : Rat) (x : Rat × Rat) : Bool := if x.1 < 0 then false else if x.1 < P then (if 0 < x.2 then !decide (P < x.2) else false) else false
def lapB (P : Rat) (xs : Sps) : List Bool := List.zipWith (fun e a => decide (a < e)) (ends xs) (nexts P xs)
def gateB (P : Rat) (xs : Sps) : Bool := if 0 < P then (if xs.length ≤ 6 then (if (xs.map (fitsB P)).all id = true then !(lapB P xs).any id else false) else false) else false
/-- one span and a later one -/
def Rl (P : Rat) (x y : Rat × Rat) : Prop := x.1 + x.2 ≤ y.1 ∧ y.1 + y.2 ≤ x.1 + P
structure GV (P : Rat) (xs : Sps) : Prop where
  pos : 0 < P
  len : xs.length ≤ 6
  fit : ∀ x ∈ xs, 0 ≤ x.1 ∧ x.1 < P ∧ 0 < x.2 ∧ x.2 ≤ P
  pw : xs.Pairwise (Rl P)
theorem lap_ok (b : Rat) : ∀ xs : Sps, xs.Pairwise (fun x y => x.1 + x.2 ≤ y.1) → (∀ x ∈ xs, x.1 + x.2 ≤ b) → (List.zipWith (fun e a => decide (a < e)) (ends xs) ((begs xs).drop 1 ++ [b])).any id = false
  | [], _, _ => rfl
  | [x], _, h => by
    have := h x (by simp)
    simp only [ends, begs, List.map_cons, List.map_nil, List.drop_succ_cons, List.drop_nil, List.nil_append, List.zipWith_cons_cons, List.zipWith_nil_left, List.any_cons, List.any_nil, id, Bool.or_false]
    exact decide_eq_false (by grind)
  | x :: y :: r, p, h => by
    have ih := lap_ok b (y :: r) (List.pairwise_cons.mp p).2 (fun z hz => h z (by simp [hz]))
    have h1 := (List.pairwise_cons.mp p).1 y (by simp)
    simp only [ends, begs, List.map_cons, List.drop_succ_cons, List.drop_zero, List.cons_append, List.zipWith_cons_cons, List.any_cons, id] at ih ⊢
    rw [ih, Bool.or_false]
    exact decide_eq_false (by grind)
theorem GV.ok {P : Rat} {xs : Sps} (h : GV P xs) : gateB P xs = true := by
  unfold gateB
  rw [if_pos h.pos, if_pos h.len, if_pos]
  · have : (lapB P xs).any id = false := by
      cases xs with
      | nil => rfl
      | cons x r =>
        unfold lapB nexts
        refine lap_ok (x.1 + P) (x :: r) (h.pw.imp fun h => h.1) (fun z hz => ?_)
        rcases List.mem_cons.mp hz with e | e
        · subst e; have := h.fit z (by simp); grind
        · exact ((List.pairwise_cons.mp h.pw).1 z e).2
    rw [this]; rfl
  · rw [List.all_map, List.all_eq_true]
    intro x hx
    obtain ⟨a, b, c, d⟩ := h.fit x hx
    show fitsB P x = true
    unfold fitsB
    rw [if_neg (by grind), if_pos b, if_pos c]
    simp; grind
/-! ### which span shuts a moment -/
def lateB (P m : Rat) (x : Rat × Rat) : Bool := decide (remQ (m - x.1) P ≠ 0) && decide (remQ (m - x.1) P < x.2)
def till (P m : Rat) (x : Rat × Rat) : Rat := m + (x.2 - remQ (m - x.1) P)
def shutQ (P : Rat) (xs : Sps) (m : Rat) : Option Rat := (xs.find? (lateB P m)).map (till P m)
theorem late_iff {P m : Rat} {x : Rat × Rat} (h : 0 < P) : lateB P m x = true ↔ 0 < remQ (m - x.1) P ∧ remQ (m - x.1) P < x.2 := by
  have := remQ_nn (p := m - x.1) h
  unfold lateB
  simp only [Bool.and_eq_true, decide_eq_true_eq]
  constructor
  · rintro ⟨a, b⟩; exact ⟨by grind, b⟩
  · rintro ⟨a, b⟩; exact ⟨by grind, b⟩
/-- what lateness says, without remainders -/
def LateBy (P m : Rat) (x : Rat × Rat) (t : Rat) : Prop := ∃ k : Int, m - x.1 = (k : Rat) * P + t ∧ 0 < t ∧ t < x.2
theorem late_of {P m t : Rat} {x : Rat × Rat} (h : 0 < P) (l : x.2 ≤ P) (a : LateBy P m x t) : lateB P m x = true ∧ till P m x = m + (x.2 - t) := by
  obtain ⟨k, e, h0, h1⟩ := a
  have := remQ_of h k e (by grind) (by grind)
  refine ⟨(late_iff h).mpr ?_, ?_⟩
  · rw [this]; exact ⟨h0, h1⟩
  · unfold till; rw [this]
theorem late_by {P m : Rat} {x : Rat × Rat} (h : 0 < P) (a : lateB P m x = true) : LateBy P m x (remQ (m - x.1) P) := by
  obtain ⟨h0, h1⟩ := (late_iff h).mp a
  exact ⟨_, remQ_eq _ _, h0, h1⟩
theorem step_pos {P : Rat} (h : 0 < P) {k : Int} (e : 0 < (k : Rat) * P) : 1 ≤ k := by
  have := (Rat.mul_pos_iff_of_pos_right h).mp e
  have := Rat.intCast_pos.mp this
  omega
theorem step_ge {P : Rat} (h : 0 < P) {k : Int} (e : 1 ≤ k) : P ≤ (k : Rat) * P := by
  have h1 : ((1 : Int) : Rat) ≤ (k : Rat) := Rat.intCast_le_intCast.mpr e
  have := Rat.mul_le_mul_of_nonneg_right h1 (Rat.le_of_lt h)
  rw [Rat.intCast_one, Rat.one_mul] at this; exact this
theorem late_rl {P m t u : Rat} {x y : Rat × Rat} (h : 0 < P) (r : Rl P x y) (a : LateBy P m x t) (b : LateBy P m y u) : False := by
  obtain ⟨k, e, h0, h1⟩ := a
  obtain ⟨j, f, g0, g1⟩ := b
  obtain ⟨r1, r2⟩ := r
  have e2 : ((k - j : Int) : Rat) * P = y.1 - x.1 - t + u := by
    rw [Rat.intCast_sub]; grind
  have p1 : 1 ≤ k - j := step_pos h (by rw [e2]; grind)
  have p2 := step_ge h p1
  rw [e2] at p2; grind
theorem pw_get {α : Type} {R : α → α → Prop} {xs : List α} (h : xs.Pairwise R) {x y : α} (hx : x ∈ xs) (hy : y ∈ xs) : x = y ∨ R x y ∨ R y x := by
  induction xs with
  | nil => cases hx
  | cons z r ih =>
    obtain ⟨h1, h2⟩ := List.pairwise_cons.mp h
    rcases List.mem_cons.mp hx with e | e <;> rcases List.mem_cons.mp hy with f | f
    · left; rw [e, f]
    · subst e; right; left; exact h1 y f
    · subst f; right; right; exact h1 x e
    · exact ih h2 e f
theorem GV.uniq {P m t u : Rat} {xs : Sps} {x y : Rat × Rat} (g : GV P xs) (hx : x ∈ xs) (hy : y ∈ xs) (a : LateBy P m x t) (b : LateBy P m y u) : x = y := by
  rcases pw_get g.pw hx hy with e | e | e
  · exact e
  · exact (late_rl g.pos e a b).elim
  · exact (late_rl g.pos e b a).elim
theorem GV.shut {P m t : Rat} {xs : Sps} {x : Rat × Rat} (g : GV P xs) (hx : x ∈ xs) (a : LateBy P m x t) : shutQ P xs m = some (m + (x.2 - t)) := by
  obtain ⟨l1, l2⟩ := late_of g.pos (g.fit x hx).2.2.2 a
  unfold shutQ
  cases h : xs.find? (lateB P m) with
  | none => exact absurd l1 (List.find?_eq_none.mp h x hx)
  | some y =>
    have hy := List.find?_some h
    have e := g.uniq hx (List.mem_of_find?_eq_some h) a (late_by g.pos hy)
    subst e
    show some (till P m x) = _
    rw [l2]
theorem GV.open {P m : Rat} {xs : Sps} (g : GV P xs) (h : ∀ x ∈ xs, ∀ t, ¬ LateBy P m x t) : shutQ P xs m = none := by
  unfold shutQ
  rw [List.find?_eq_none.mpr]; · rfl
  intro x hx a
  exact h x hx _ (late_by g.pos a)
theorem GV.shut_iff {P m e : Rat} {xs : Sps} (g : GV P xs) : shutQ P xs m = some e ↔ ∃ x ∈ xs, ∃ t, LateBy P m x t ∧ e = m + (x.2 - t) := by
  constructor
  · intro h
    unfold shutQ at h
    cases hf : xs.find? (lateB P m) with
    | none => rw [hf] at h; cases h
    | some y =>
      rw [hf] at h
      refine ⟨y, List.mem_of_find?_eq_some hf, _, late_by g.pos (List.find?_some hf), ?_⟩
      exact (Option.some.inj h).symm
  · rintro ⟨x, hx, t, a, rfl⟩
    exact g.shut hx a
/-- two gates at which the same times shut the same moments -/
theorem shut_eq {P P' m : Rat} {xs ys : Sps} (g : GV P xs) (g' : GV P' ys) (h1 : ∀ x ∈ xs, ∀ t, LateBy P m x t → ∃ y ∈ ys, LateBy P' m y t ∧ y.2 = x.2) (h2 : ∀ y ∈ ys, ∀ t, LateBy P' m y t → ∃ x ∈ xs, LateBy P m x t ∧ x.2 = y.2) : shutQ P' ys m = shutQ P xs m := by
  cases h : shutQ P xs m with
  | some e =>
    obtain ⟨x, hx, t, a, rfl⟩ := g.shut_iff.mp h
    obtain ⟨y, hy, b, e⟩ := h1 x hx t a
    rw [g'.shut hy b, e]
  | none =>
    refine g'.open fun y hy t a => ?_
    obtain ⟨x, hx, b, _⟩ := h2 y hy t a
    rw [g.shut hx b] at h; cases h
/-! ### the normal form -/
def repB (xs : Sps) (d : Nat) (p : Rat) : Bool := decide ((xs.take (xs.length - d)).map (fun x => (x.1 + p, x.2)) = xs.drop d)
def partQ (P : Rat) (xs : Sps) (d : Nat) : Rat := P * (((d : Int) : Rat) / ((xs.length : Int) : Rat))
def hitB (P : Rat) (xs : Sps) (d : Nat) : Bool := decide (xs.length % d = 0) && repB xs d (partQ P xs d)
def lfQ (P : Rat) (xs : Sps) : Rat × Sps :=
  if xs.length = 0 then (1, []) else
  match (List.range' 1 (xs.length - 1)).find? (hitB P xs) with
  | some d => (partQ P xs d, xs.take d)
  | none => (P, xs)
def at0 (xs : Sps) (i : Nat) : Rat × Rat := xs.getD i (0, 0)
theorem at0_mem {xs : Sps} {i : Nat} (h : i < xs.length) : at0 xs i ∈ xs := by
  unfold at0; rw [List.getD_eq_getElem?_getD, List.getElem?_eq_getElem h]; exact List.getElem_mem h
theorem mem_at0 {xs : Sps} {x : Rat × Rat} (h : x ∈ xs) : ∃ i, i < xs.length ∧ x = at0 xs i := by
  obtain ⟨i, hi, e⟩ := List.getElem_of_mem h
  refine ⟨i, hi, ?_⟩
  unfold at0; rw [List.getD_eq_getElem?_getD, List.getElem?_eq_getElem hi]; exact e.symm
theorem pw_at0 {R : Rat × Rat → Rat × Rat → Prop} {xs : Sps} (h : xs.Pairwise R) {i j : Nat} (hij : i < j) (hj : j < xs.length) : R (at0 xs i) (at0 xs j) := by
  have := List.pairwise_iff_getElem.mp h i j (by omega) hj hij
  unfold at0; rw [List.getD_eq_getElem?_getD, List.getD_eq_getElem?_getD, List.getElem?_eq_getElem hj, List.getElem?_eq_getElem (by omega)]; exact this
/-- the spans repeat, d places further, a part later -/
structure Rep (P : Rat) (xs : Sps) (d c : Nat) (p : Rat) : Prop where
  hd : 0 < d
  hc : 2 ≤ c
  len : xs.length = d * c
  per : P = (c : Rat) * p
  pos : 0 < p
  nxt : ∀ i, i + d < xs.length → at0 xs (i + d) = ((at0 xs i).1 + p, (at0 xs i).2)
theorem Rep.far {P p : Rat} {xs : Sps} {d c : Nat} (R : Rep P xs d c p) (i : Nat) : ∀ j, i + d * j < xs.length → at0 xs (i + d * j) = ((at0 xs i).1 + (j : Rat) * p, (at0 xs i).2)
  | 0, _ => by
    rw [Nat.mul_zero, Nat.add_zero]
    refine Prod.ext ?_ rfl
    show _ = _ + ((0 : Nat) : Rat) * p
    have : ((0 : Nat) : Rat) = 0 := rfl
    rw [this]; grind
  | j + 1, h => by
    have e : i + d * (j + 1) = (i + d * j) + d := by rw [Nat.mul_succ]; omega
    rw [e] at h ⊢
    rw [R.nxt _ h, R.far i j (by omega)]
    refine Prod.ext ?_ rfl
    show (at0 xs i).1 + (j : Rat) * p + p = (at0 xs i).1 + ((j + 1 : Nat) : Rat) * p
    have : ((j + 1 : Nat) : Rat) = (j : Rat) + 1 := by rw [Rat.natCast_add]; rfl
    rw [this]; grind
theorem rep_of {P : Rat} {xs : Sps} {d : Nat} (hP : 0 < P) (h1 : 1 ≤ d) (h2 : d < xs.length) (h : hitB P xs d = true) : Rep P xs d (xs.length / d) (partQ P xs d) := by
  unfold hitB at h
  simp only [Bool.and_eq_true, decide_eq_true_eq] at h
  obtain ⟨m, r⟩ := h
  unfold repB at r
  have r := of_decide_eq_true r
  have hl : xs.length = d * (xs.length / d) := by have := Nat.div_add_mod xs.length d; rw [m, Nat.add_zero] at this; exact this.symm
  have hc : 2 ≤ xs.length / d := by
    rcases Nat.lt_or_ge (xs.length / d) 2 with q | q
    · have : xs.length / d = 0 ∨ xs.length / d = 1 := (show ∀ c : Nat, c < 2 → c = 0 ∨ c = 1 by omega) _ q
      rcases this with e | e
      · rw [e, Nat.mul_zero] at hl; omega
      · rw [e, Nat.mul_one] at hl; omega
    · exact q
  have hn : ((xs.length : Int) : Rat) ≠ 0 := fun e => by have := Rat.intCast_eq_zero_iff.mp e; omega
  have hn0 : (0 : Rat) < ((xs.length : Int) : Rat) := Rat.intCast_pos.mpr (by omega)
  have hd0 : (0 : Rat) < ((d : Int) : Rat) := Rat.intCast_pos.mpr (by omega)
  refine ⟨by omega, hc, hl, ?_, ?_, fun i hi => ?_⟩
  · unfold partQ
    have e1 : ((xs.length : Int) : Rat) = ((d : Int) : Rat) * ((xs.length / d : Nat) : Rat) := by
      have : ((xs.length : Nat) : Rat) = ((d * (xs.length / d) : Nat) : Rat) := congrArg _ hl
      rw [Rat.natCast_mul] at this; exact this
    have e2 := Rat.div_mul_cancel (a := ((d : Int) : Rat)) hn
    generalize ((d : Int) : Rat) / ((xs.length : Int) : Rat) = z at e2 ⊢
    generalize ((xs.length / d : Nat) : Rat) = c at e1 ⊢
    generalize ((xs.length : Int) : Rat) = n at *
    generalize ((d : Int) : Rat) = e at *
    subst e1
    have : e * (z * c) = e * 1 := by grind
    have h3 : z * c = 1 := by
      have hne : e ≠ 0 := by grind
      have := congrArg (e⁻¹ * ·) this
      simp only [← Rat.mul_assoc, Rat.inv_mul_cancel e hne, Rat.one_mul] at this
      exact this
    grind
  · unfold partQ
    refine Rat.mul_pos hP ?_
    rw [Rat.div_def]; exact Rat.mul_pos hd0 (Rat.inv_pos.mpr hn0)
  · have := congrArg (fun l : Sps => l[i]?) r
    simp only [List.getElem?_map, List.getElem?_drop] at this
    rw [List.getElem?_take_of_lt (by omega), List.getElem?_eq_getElem (by omega), List.getElem?_eq_getElem (by omega)] at this
    simp only [Option.map_some, Option.some.injEq] at this
    unfold at0
    rw [List.getD_eq_getElem?_getD, List.getD_eq_getElem?_getD, List.getElem?_eq_getElem hi, List.getElem?_eq_getElem (show i < xs.length by omega)]
    simp only [Option.getD_some]
    have e : d + i = i + d := Nat.add_comm ..
    simp only [e] at this
    exact this.symm
end EP
namespace EP
theorem take_at0 {xs : Sps} {d : Nat} {x : Rat × Rat} (hd : d ≤ xs.length) (h : x ∈ xs.take d) : ∃ i, i < d ∧ x = at0 xs i := by
  obtain ⟨i, hi, e⟩ := List.getElem_of_mem h
  rw [List.length_take] at hi
  refine ⟨i, by omega, ?_⟩
  rw [List.getElem_take] at e
  unfold at0; rw [List.getD_eq_getElem?_getD, List.getElem?_eq_getElem (show i < xs.length by omega)]; exact e.symm
theorem at0_take {xs : Sps} {d i : Nat} (hd : d ≤ xs.length) (h : i < d) : at0 xs i ∈ xs.take d := by
  have h1 : i < (xs.take d).length := by rw [List.length_take]; omega
  have : at0 xs i = (xs.take d)[i] := by
    unfold at0; rw [List.getD_eq_getElem?_getD, List.getElem?_eq_getElem (show i < xs.length by omega), List.getElem_take]; rfl
  rw [this]; exact List.getElem_mem h1
theorem Rep.dn {P p : Rat} {xs : Sps} {d c : Nat} (R : Rep P xs d c p) : d + d ≤ xs.length := by
  have := Nat.mul_le_mul_left d R.hc
  rw [R.len]; omega
theorem Rep.gv {P p : Rat} {xs : Sps} {d c : Nat} (g : GV P xs) (R : Rep P xs d c p) : GV p (xs.take d) := by
  have hn := R.dn
  have hd := R.hd
  refine ⟨R.pos, ?_, fun x hx => ?_, ?_⟩
  · have := g.len; rw [List.length_take]; omega
  · obtain ⟨i, hi, rfl⟩ := take_at0 (by omega) hx
    obtain ⟨f1, f2, f3, f4⟩ := g.fit _ (at0_mem (xs := xs) (i := i) (by omega))
    refine ⟨f1, ?_, f3, ?_⟩
    · have hc := R.hc
      have hlt : i + d * (c - 1) < xs.length := by
        rw [R.len]
        have : d * c = d * (c - 1) + d := by
          obtain ⟨e, rfl⟩ : ∃ e, c = e + 1 := ⟨c - 1, by omega⟩
          rw [Nat.add_sub_cancel, Nat.mul_succ]
        omega
      have e := R.far i (c - 1) hlt
      have f := (g.fit _ (at0_mem hlt)).2.1
      rw [e] at f
      have e2 : ((c - 1 : Nat) : Rat) + 1 = (c : Rat) := by
        have : ((c - 1 + 1 : Nat) : Rat) = ((c - 1 : Nat) : Rat) + 1 := by rw [Rat.natCast_add]; rfl
        rw [← this, show c - 1 + 1 = c by omega]
      have e3 := R.per
      rw [← e2] at e3
      simp only at f
      grind
    · have r := pw_at0 g.pw (i := i) (j := i + d) (by omega) (by omega)
      have e := R.nxt i (by omega)
      have := r.1
      rw [e] at this
      simp only at this
      grind
  · refine List.pairwise_iff_getElem.mpr fun i j hi hj hij => ?_
    rw [List.length_take] at hi hj
    have e1 : (xs.take d)[i] = at0 xs i := by
      unfold at0; rw [List.getD_eq_getElem?_getD, List.getElem?_eq_getElem (show i < xs.length by omega), List.getElem_take]; rfl
    have e2 : (xs.take d)[j] = at0 xs j := by
      unfold at0; rw [List.getD_eq_getElem?_getD, List.getElem?_eq_getElem (show j < xs.length by omega), List.getElem_take]; rfl
    rw [e1, e2]
    refine ⟨(pw_at0 g.pw hij (by omega)).1, ?_⟩
    have r := (pw_at0 g.pw (i := j) (j := i + d) (by omega) (by omega)).1
    rw [R.nxt i (by omega)] at r
    exact r
theorem Rep.shut {P p : Rat} {xs : Sps} {d c : Nat} (g : GV P xs) (R : Rep P xs d c p) (m : Rat) : shutQ p (xs.take d) m = shutQ P xs m := by
  have hn := R.dn
  have hd := R.hd
  have hc := R.hc
  have hper := R.per
  have cc : ((c : Int) : Rat) = (c : Rat) := rfl
  refine shut_eq g (R.gv g) (fun x hx t a => ?_) (fun y hy t a => ?_)
  · obtain ⟨i, hi, rfl⟩ := mem_at0 hx
    obtain ⟨k, e, h0, h1⟩ := a
    have hi2 : i % d + d * (i / d) = i := Nat.mod_add_div i d
    have hr : i % d < d := Nat.mod_lt _ hd
    have f := R.far (i % d) (i / d) (by rw [hi2]; exact hi)
    rw [hi2] at f
    refine ⟨at0 xs (i % d), at0_take (by omega) hr, ⟨k * c + (i / d : Nat), ?_, h0, ?_⟩, ?_⟩
    · rw [f] at e
      simp only at e
      rw [Rat.intCast_add, Rat.intCast_mul, cc]
      have : (((i / d : Nat) : Int) : Rat) = ((i / d : Nat) : Rat) := rfl
      rw [this]
      grind
    · rw [f] at h1; exact h1
    · rw [f]
  · obtain ⟨r, hr, rfl⟩ := take_at0 (by omega) hy
    obtain ⟨k, e, h0, h1⟩ := a
    have c0 : (0 : Int) < c := by omega
    have q1 := Int.emod_nonneg k (show (c : Int) ≠ 0 by omega)
    have q2 := Int.emod_lt_of_pos k c0
    obtain ⟨j, hj⟩ := Int.eq_ofNat_of_zero_le q1
    have hjc : j < c := by omega
    have hlt : r + d * j < xs.length := by
      rw [R.len]
      have := Nat.mul_le_mul_left d (show j + 1 ≤ c by omega)
      rw [Nat.mul_succ] at this; omega
    have f := R.far r j hlt
    refine ⟨at0 xs (r + d * j), at0_mem hlt, ⟨k / c, ?_, h0, ?_⟩, ?_⟩
    · rw [f]
      simp only
      have hk : (k : Rat) = (c : Rat) * ((k / c : Int) : Rat) + (j : Rat) := by
        have := Int.mul_ediv_add_emod k c
        rw [hj] at this
        have h2 : ((c * (k / c) + (j : Nat) : Int) : Rat) = (k : Rat) := congrArg _ this
        rw [Rat.intCast_add, Rat.intCast_mul, cc] at h2
        exact h2.symm
      rw [hk] at e
      grind
    · rw [f]; exact h1
    · rw [f]
theorem lf_ok {P : Rat} {xs : Sps} (g : GV P xs) : GV (lfQ P xs).1 (lfQ P xs).2 ∧ ∀ m, shutQ (lfQ P xs).1 (lfQ P xs).2 m = shutQ P xs m := by
  unfold lfQ
  by_cases h : xs.length = 0
  · rw [if_pos h]
    have : xs = [] := List.length_eq_zero_iff.mp h
    subst this
    exact ⟨⟨by decide, by simp, (fun x hx => by cases hx), List.Pairwise.nil⟩, fun m => rfl⟩
  · rw [if_neg h]
    cases hf : (List.range' 1 (xs.length - 1)).find? (hitB P xs) with
    | none => exact ⟨g, fun m => rfl⟩
    | some d =>
      have h1 := List.find?_some hf
      have h2 := List.mem_range'_1.mp (List.mem_of_find?_eq_some hf)
      have R := rep_of g.pos h2.1 (by omega) h1
      exact ⟨R.gv g, R.shut g⟩
/-! ### drawn gates: whole numbers -/
def RlI (P : Int) (x y : Int × Int) : Prop := x.1 + x.2 ≤ y.1 ∧ y.1 + y.2 ≤ x.1 + P
structure GI (P : Int) (xs : List (Int × Int)) : Prop where
  pos : 0 < P
  len : xs.length ≤ 6
  fit : ∀ x ∈ xs, 0 ≤ x.1 ∧ x.1 < P ∧ 0 < x.2 ∧ x.2 ≤ P
  pw : xs.Pairwise (RlI P)
def qsp (by_ : Int) (x : Int × Int) : Rat × Rat := ((x.1 : Rat) / (by_ : Rat), (x.2 : Rat) / (by_ : Rat))
theorem div_le {a b c : Rat} (h : 0 < c) : a / c ≤ b / c ↔ a ≤ b := by
  rw [← Rat.not_lt, ← Rat.not_lt, Rat.div_lt_iff h, Rat.div_mul_cancel (by grind)]
theorem div_lt {a b c : Rat} (h : 0 < c) : a / c < b / c ↔ a < b := by
  rw [Rat.div_lt_iff h, Rat.div_mul_cancel (by grind)]
theorem div_add {a b c : Rat} : a / c + b / c = (a + b) / c := by
  rw [Rat.div_def, Rat.div_def, Rat.div_def, Rat.add_mul]
theorem GI.gv {P by_ : Int} {xs : List (Int × Int)} (g : GI P xs) (h : 0 < by_) : GV ((P : Rat) / (by_ : Rat)) (xs.map (qsp by_)) := by
  have hb : (0 : Rat) < (by_ : Rat) := Rat.intCast_pos.mpr h
  have z : (0 : Rat) = ((0 : Int) : Rat) / (by_ : Rat) := by rw [Rat.intCast_zero, Rat.div_def, Rat.zero_mul]
  refine ⟨?_, by rw [List.length_map]; exact g.len, fun x hx => ?_, ?_⟩
  · rw [z, div_lt hb]; exact Rat.intCast_lt_intCast.mpr g.pos
  · obtain ⟨y, hy, rfl⟩ := List.mem_map.mp hx
    obtain ⟨a, b, c, d⟩ := g.fit y hy
    unfold qsp
    refine ⟨?_, ?_, ?_, ?_⟩
    · rw [z, div_le hb]; exact Rat.intCast_le_intCast.mpr a
    · rw [div_lt hb]; exact Rat.intCast_lt_intCast.mpr b
    · rw [z, div_lt hb]; exact Rat.intCast_lt_intCast.mpr c
    · rw [div_le hb]; exact Rat.intCast_le_intCast.mpr d
  · refine List.pairwise_map.mpr (g.pw.imp fun {x y} r => ?_)
    unfold qsp Rl
    simp only [div_add, div_le hb, ← Rat.intCast_add]
    exact ⟨Rat.intCast_le_intCast.mpr r.1, Rat.intCast_le_intCast.mpr r.2⟩
def RlC (P : Int) (x y : Int × Int) : Prop := RlI P x y ∨ RlI P y x
theorem turn_rl {P dl : Int} (hP : 0 < P) {x y : Int × Int} (r : RlI P x y) (hx : 0 < x.2) (hy : 0 < y.2) : RlC P ((x.1 + dl) % P, x.2) ((y.1 + dl) % P, y.2) := by
  obtain ⟨r1, r2⟩ := r
  have a := Int.mul_ediv_add_emod (x.1 + dl) P
  have b := Int.mul_ediv_add_emod (y.1 + dl) P
  have a1 := Int.emod_nonneg (x.1 + dl) (show P ≠ 0 by omega)
  have a2 := Int.emod_lt_of_pos (x.1 + dl) hP
  have b1 := Int.emod_nonneg (y.1 + dl) (show P ≠ 0 by omega)
  have b2 := Int.emod_lt_of_pos (y.1 + dl) hP
  generalize (x.1 + dl) % P = u at *
  generalize (y.1 + dl) % P = v at *
  generalize (x.1 + dl) / P = i at *
  generalize (y.1 + dl) / P = j at *
  have e : v - u = y.1 - x.1 - P * (j - i) := by rw [Int.mul_sub]; omega
  have h0 : 0 ≤ j - i := by
    rcases (show j - i < 0 ∨ 0 ≤ j - i by omega) with q | q
    · have : P * (j - i) ≤ P * (-1) := Int.mul_le_mul_of_nonneg_left (by omega) (by omega)
      omega
    · exact q
  have h1 : j - i ≤ 1 := by
    rcases (show 1 < j - i ∨ j - i ≤ 1 by omega) with q | q
    · have : P * 2 ≤ P * (j - i) := Int.mul_le_mul_of_nonneg_left (by omega) (by omega)
      omega
    · exact q
  have : j - i = 0 ∨ j - i = 1 := by omega
  rcases this with q | q
  · rw [q, Int.mul_zero] at e
    left; constructor
    · show u + x.2 ≤ v; omega
    · show v + y.2 ≤ u + P; omega
  · rw [q, Int.mul_one] at e
    right; constructor
    · show v + y.2 ≤ u; omega
    · show u + x.2 ≤ v + P; omega
theorem GI.turn {P dl : Int} {xs ys : List (Int × Int)} (g : GI P xs) (h : ys.Perm (xs.map fun x => ((x.1 + dl) % P, x.2))) (s : ys.Pairwise fun x y => x.1 ≤ y.1) : GI P ys := by
  have hP := g.pos
  have f : ∀ x ∈ ys, 0 ≤ x.1 ∧ x.1 < P ∧ 0 < x.2 ∧ x.2 ≤ P := fun x hx => by
    obtain ⟨y, hy, rfl⟩ := List.mem_map.mp (h.mem_iff.mp hx)
    obtain ⟨_, _, c, d⟩ := g.fit y hy
    exact ⟨Int.emod_nonneg _ (by omega), Int.emod_lt_of_pos _ hP, c, d⟩
  refine ⟨hP, by rw [h.length_eq, List.length_map]; exact g.len, f, ?_⟩
  have c : ys.Pairwise (RlC P) := by
    refine (List.Perm.pairwise_iff (fun {a b} (r : RlC P a b) => Or.symm r) h).mpr ?_
    refine List.pairwise_map.mpr ?_
    refine List.Pairwise.imp_of_mem (fun {x y} hx hy r => ?_) g.pw
    exact turn_rl hP r (g.fit x hx).2.2.1 (g.fit y hy).2.2.1
  refine List.Pairwise.imp_of_mem (fun {x y} hx hy r => ?_) (c.and s)
  rcases r with ⟨r | r, s⟩
  · exact r
  · have := (f y hy).2.2.1
    have := r.1
    omega
/-! ### copies -/
def cpQ (P : Rat) (xs : Sps) : Nat → Sps
  | 0 => []
  | k + 1 => cpQ P xs k ++ xs.map fun x => (x.1 + ((k : Int) : Rat) * P, x.2)
theorem cp_mem {P : Rat} {xs : Sps} {z : Rat × Rat} : ∀ {k : Nat}, z ∈ cpQ P xs k → ∃ x ∈ xs, ∃ j : Nat, j < k ∧ z = (x.1 + ((j : Int) : Rat) * P, x.2)
  | 0, h => by cases h
  | k + 1, h => by
    rcases List.mem_append.mp h with h | h
    · obtain ⟨x, hx, j, hj, e⟩ := cp_mem h
      exact ⟨x, hx, j, by omega, e⟩
    · obtain ⟨x, hx, e⟩ := List.mem_map.mp h
      exact ⟨x, hx, k, by omega, e.symm⟩
theorem cp_len {P : Rat} {xs : Sps} : ∀ k : Nat, (cpQ P xs k).length = k * xs.length
  | 0 => by simp [cpQ]
  | k + 1 => by
    rw [cpQ, List.length_append, List.length_map, cp_len k, Nat.succ_mul]
theorem cast_le {P : Rat} (h : 0 ≤ P) {i j : Int} (l : i ≤ j) : (i : Rat) * P ≤ (j : Rat) * P := Rat.mul_le_mul_of_nonneg_right (Rat.intCast_le_intCast.mpr l) h
theorem GV.any2 {P : Rat} {xs : Sps} (g : GV P xs) {x y : Rat × Rat} (hx : x ∈ xs) (hy : y ∈ xs) : x.1 + x.2 ≤ y.1 + P := by
  have := g.pos
  rcases pw_get g.pw hx hy with e | e | e
  · subst e; have := g.fit x hx; grind
  · have := e.1; grind
  · exact e.2
theorem GV.copies {P : Rat} {xs : Sps} (g : GV P xs) {c : Nat} (hc : 0 < c) (hl : c * xs.length ≤ 6) : GV (((c : Int) : Rat) * P) (cpQ P xs c) := by
  have hP := g.pos
  have hP0 := Rat.le_of_lt hP
  have c1 : P ≤ ((c : Int) : Rat) * P := step_ge hP (by omega)
  refine ⟨by grind, by rw [cp_len]; exact hl, fun z hz => ?_, ?_⟩
  · obtain ⟨x, hx, j, hj, rfl⟩ := cp_mem hz
    obtain ⟨f1, f2, f3, f4⟩ := g.fit x hx
    have q0 : (0 : Rat) ≤ ((j : Int) : Rat) * P := Rat.mul_nonneg (Rat.intCast_nonneg.mpr (by omega)) hP0
    have q1 := cast_le hP0 (show ((j : Int) + 1) ≤ c by omega)
    rw [Rat.intCast_add, Rat.intCast_one] at q1
    refine ⟨?_, ?_, f3, ?_⟩
    · show 0 ≤ x.1 + _; grind
    · show x.1 + _ < _; grind
    · show x.2 ≤ _; grind
  · have main : ∀ k : Nat, k ≤ c → (cpQ P xs k).Pairwise (Rl (((c : Int) : Rat) * P)) := by
      intro k
      induction k with
      | zero => intro _; exact List.Pairwise.nil
      | succ k ih =>
        intro hk
        refine List.pairwise_append.mpr ⟨ih (by omega), ?_, fun u hu v hv => ?_⟩
        · refine List.pairwise_map.mpr (g.pw.imp fun {x y} r => ?_)
          obtain ⟨r1, r2⟩ := r
          constructor
          · show x.1 + _ + x.2 ≤ y.1 + _; grind
          · show y.1 + _ + y.2 ≤ x.1 + _ + _; grind
        · obtain ⟨x, hx, j, hj, rfl⟩ := cp_mem hu
          obtain ⟨y, hy, rfl⟩ := List.mem_map.mp hv
          have a1 := g.any2 hx hy
          have a2 := g.any2 hy hx
          have q1 := cast_le hP0 (show ((j : Int) + 1) ≤ k by omega)
          have q2 := cast_le hP0 (show ((k : Int) + 1) ≤ (j : Int) + c by omega)
          rw [Rat.intCast_add, Rat.intCast_one] at q1
          rw [Rat.intCast_add, Rat.intCast_one, Rat.intCast_add] at q2
          constructor
          · show x.1 + _ + x.2 ≤ y.1 + _; grind
          · show y.1 + _ + y.2 ≤ x.1 + _ + _; grind
    exact main c (Nat.le_refl _)
end EP
namespace EP
open PySem PySem.Spec PyProof.Rows L2
/-! ### pairs of whole numbers -/
def IsP (H : Hp) (u : V) (x : Int × Int) : Prop := ∃ t, u = .ref t ∧ H t = some (.tup [.int x.1, .int x.2])
def pk (H : Hp) : V → Int × Int
  | .ref t => match H t with
    | some (.tup [.int a, .int b]) => (a, b)
    | _ => (0, 0)
  | _ => (0, 0)
theorem IsP.pk {H : Hp} {u : V} {x : Int × Int} (h : IsP H u x) : pk H u = x := by
  obtain ⟨t, rfl, e⟩ := h
  unfold EP.pk; simp only; rw [e]
inductive Prs (H : Hp) : List V → List (Int × Int) → Prop
  | nil : Prs H [] []
  | cons {u : V} {x : Int × Int} {us : List V} {xs : List (Int × Int)} : IsP H u x → Prs H us xs → Prs H (u :: us) (x :: xs)
theorem Prs.app {H : Hp} {u : V} {x : Int × Int} (p : IsP H u x) : ∀ {us : List V} {xs : List (Int × Int)}, Prs H us xs → Prs H (us ++ [u]) (xs ++ [x])
  | _, _, .nil => .cons p .nil
  | _, _, .cons a r => .cons a (r.app p)
theorem Prs.imp {H H' : Hp} (f : ∀ u x, IsP H u x → IsP H' u x) : ∀ {us : List V} {xs : List (Int × Int)}, Prs H us xs → Prs H' us xs
  | _, _, .nil => .nil
  | _, _, .cons a r => .cons (f _ _ a) (r.imp f)
theorem IsP.mo {H H' : Hp} {r : Addr} (m : Mo r H H') {u : V} {x : Int × Int} (h : IsP H u x) : IsP H' u x := by
  obtain ⟨t, rfl, e⟩ := h
  refine ⟨t, rfl, m.g _ _ (fun z => ?_) e⟩
  obtain ⟨L, ns, i, c, sd, h1, _⟩ := m.a
  subst z; rw [h1] at e; cases e
theorem IsP.same {H H' : Hp} (m : Same H H') {u : V} {x : Int × Int} (h : IsP H u x) : IsP H' u x := by
  obtain ⟨t, rfl, e⟩ := h
  exact ⟨t, rfl, m _ _ e⟩
theorem IsP.mut {H : Hp} {D : Addr} {o : HO} {ys : List V} (hD : H D = some (.lst ys)) {u : V} {x : Int × Int} (h : IsP H u x) : IsP (upd H D o) u x := by
  obtain ⟨t, rfl, e⟩ := h
  refine ⟨t, rfl, ?_⟩
  rw [upd_ne (fun z => by subst z; rw [hD] at e; cases e)]; exact e
theorem Prs.len {H : Hp} : ∀ {us : List V} {xs : List (Int × Int)}, Prs H us xs → us.length = xs.length
  | _, _, .nil => rfl
  | _, _, .cons a r => congrArg Nat.succ r.len
theorem Prs.keys {H : Hp} : ∀ {us : List V} {xs : List (Int × Int)}, Prs H us xs → us.map (pk H) = xs ∧ ∀ u ∈ us, IsP H u (pk H u)
  | _, _, .nil => ⟨rfl, fun u h => by cases h⟩
  | _, _, .cons a r => by
    obtain ⟨e, f⟩ := r.keys
    refine ⟨by rw [List.map_cons, e, a.pk], fun u h => ?_⟩
    rcases List.mem_cons.mp h with z | z
    · subst z; rw [a.pk]; exact a
    · exact f u z
theorem Prs.of {H : Hp} : ∀ {us : List V}, (∀ u ∈ us, IsP H u (pk H u)) → Prs H us (us.map (pk H))
  | [], _ => .nil
  | u :: us, h => .cons (h u (by simp)) (Prs.of fun v hv => h v (by simp [hv]))
theorem Prs.get {H : Hp} : ∀ {us : List V} {xs : List (Int × Int)} {i : Nat} {u : V}, Prs H us xs → us[i]? = some u → ∃ x, xs[i]? = some x ∧ IsP H u x
  | _, _, _, _, .nil, e => by simp at e
  | _, _, 0, _, .cons a r, e => ⟨_, rfl, by cases Option.some.inj e; exact a⟩
  | _, _, i + 1, _, .cons a r, e => Prs.get (i := i) r e
/-! ### drawn fractions -/
theorem Fq.q {K : PySem.W.Frag} {H : Hp} {n : Nat} {v : V} {a b : Int} (h : Fq K H n v a b) : ∃ q : Rat, Dp K H v (dq q) ∧ Bq n q ∧ (0 < a → 0 < q) := by
  have hb := h.p
  have e2 : ((b.toNat : Nat) : Int) = b := by omega
  have cop : a.natAbs.Coprime b.toNat := by
    have := h.g
    unfold Int.gcd at this
    rw [show b.natAbs = b.toNat by omega] at this; exact this
  refine ⟨⟨a, b.toNat, by omega, cop⟩, fr_dq ?_, ⟨h.ba, ?_⟩, fun z => ?_⟩
  · show Fr K H v a (b.toNat : Int)
    rw [e2]; exact h.f
  · show B n ((b.toNat : Nat) : Int)
    rw [e2]; exact h.bb
  · rw [Rat.lt_iff]
    show (0 : Int) * _ < a * _
    rw [Int.zero_mul]; simpa using z
def spDrawnQ (K : PySem.W.Frag) (n : Nat) : Sp := fun vs H Q _ => ∃ (r : Addr), vs = [.ref r] ∧ Rng H r ∧ ∀ v q H', Mo r H H' → Dp K H' v (dq q) → Bq n q → Q v H'
theorem Gd_mono : True := trivial
theorem b_qsp {n k : Nat} {by_ : Int} {x : Int} (h : by_ ≠ 0) (b : B n x) (c : B k by_) (hn : 0 < n) (hk : 0 < k) : Bq (n + k) ((x : Rat) / (by_ : Rat)) := by
  have hb : (by_ : Rat) ≠ 0 := fun e => h (Rat.intCast_eq_zero_iff.mp e)
  exact Bq.div hb (Bq.int b hn) (Bq.int c hk)
end EP
namespace EP
theorem step_neg {P : Rat} (h : 0 < P) {k : Int} (e : (k : Rat) * P < 0) : (k : Rat) * P ≤ - P := by
  have h1 : 1 ≤ -k := step_pos h (by rw [Rat.intCast_neg]; grind)
  have h2 := step_ge h h1
  rw [Rat.intCast_neg] at h2; grind
theorem step_up {P : Rat} (h : 0 < P) {k : Int} (e : 0 < (k : Rat) * P) : P ≤ (k : Rat) * P := step_ge h (step_pos h e)
theorem GV.at_begin {P : Rat} {xs : Sps} (g : GV P xs) {x : Rat × Rat} (hx : x ∈ xs) : shutQ P xs x.1 = none := by
  have hP := g.pos
  refine g.open fun y hy t a => ?_
  obtain ⟨k, e, h0, h1⟩ := a
  obtain ⟨_, _, fx, fx2⟩ := g.fit x hx
  obtain ⟨_, _, fy, fy2⟩ := g.fit y hy
  rcases pw_get g.pw hx hy with z | ⟨r1, r2⟩ | ⟨r1, r2⟩
  · subst z
    have := step_neg hP (k := k) (by grind); grind
  · have := step_neg hP (k := k) (by grind); grind
  · have := step_up hP (k := k) (by grind); grind
theorem GV.at_end {P : Rat} {xs : Sps} (g : GV P xs) {x : Rat × Rat} (hx : x ∈ xs) : shutQ P xs (x.1 + x.2) = none := by
  have hP := g.pos
  refine g.open fun y hy t a => ?_
  obtain ⟨k, e, h0, h1⟩ := a
  obtain ⟨_, _, fx, fx2⟩ := g.fit x hx
  obtain ⟨_, _, fy, fy2⟩ := g.fit y hy
  rcases pw_get g.pw hx hy with z | ⟨r1, r2⟩ | ⟨r1, r2⟩
  · subst z
    have := step_up hP (k := k) (by grind); grind
  · have := step_neg hP (k := k) (by grind); grind
  · have := step_up hP (k := k) (by grind); grind
theorem GV.within {P s : Rat} {xs : Sps} (g : GV P xs) {x : Rat × Rat} (hx : x ∈ xs) (h0 : 0 < s) (h1 : s < x.2) : shutQ P xs (x.1 + s) = some (x.1 + x.2) := by
  rw [g.shut hx (t := s) ⟨0, by rw [Rat.intCast_zero]; grind, h0, h1⟩]
  congr 1; grind
/-- the end of the span that shuts a moment is open -/
theorem GV.till_open {P m : Rat} {xs : Sps} (g : GV P xs) {x : Rat × Rat} (hx : x ∈ xs) (h : lateB P m x = true) : shutQ P xs (till P m x) = none := by
  obtain ⟨k, e, h0, h1⟩ := late_by g.pos h
  have e2 : till P m x = (x.1 + x.2) + (k : Rat) * P := by unfold till; grind
  rw [e2]
  have : ∀ (p : Rat), shutQ P xs (p + (k : Rat) * P) = none ↔ shutQ P xs p = none := fun p => by
    have hl : ∀ y, lateB P (p + (k : Rat) * P) y = lateB P p y := fun y => by
      unfold lateB
      have : p + (k : Rat) * P - y.1 = (p - y.1) + (k : Rat) * P := by grind
      rw [this, remQ_mul g.pos]
    unfold shutQ
    rw [funext hl]
    cases xs.find? (lateB P p) <;> simp
  rw [this]; exact g.at_end hx
/-- whole periods later -/
theorem GV.later {P m : Rat} {xs : Sps} (g : GV P xs) (k : Int) : shutQ P xs (m + (k : Rat) * P) = (shutQ P xs m).map (· + (k : Rat) * P) := by
  have hr : ∀ y : Rat × Rat, remQ (m + (k : Rat) * P - y.1) P = remQ (m - y.1) P := fun y => by
    have : m + (k : Rat) * P - y.1 = (m - y.1) + (k : Rat) * P := by grind
    rw [this, remQ_mul g.pos]
  have hl : ∀ y, lateB P (m + (k : Rat) * P) y = lateB P m y := fun y => by unfold lateB; rw [hr]
  unfold shutQ
  rw [funext hl]
  cases h : xs.find? (lateB P m) with
  | none => rfl
  | some y =>
    show some (till P (m + (k : Rat) * P) y) = some (till P m y + (k : Rat) * P)
    unfold till; rw [hr]; congr 1; grind
end EP
namespace EP
/-! ### the law's own way to a part: each span stands again, a part later, wherever -/
def laterQ (P p : Rat) (xs : Sps) : Sps := xs.map fun x => (remQ (x.1 + p) P, x.2)
def allIn (xs ys : Sps) : Bool := xs.all fun x => decide (x ∈ ys)
abbrev Inc (x y : Rat × Rat) : Prop := x.1 < y.1
theorem GV.inc {P : Rat} {xs : Sps} (g : GV P xs) : xs.Pairwise Inc := by
  refine List.Pairwise.imp_of_mem (fun {x y} hx hy r => ?_) g.pw
  have := (g.fit x hx).2.2.1
  have := r.1
  show x.1 < y.1
  grind
/-- two ascending rows with the same spans are one -/
theorem inc_ext : ∀ {xs ys : Sps}, xs.Pairwise Inc → ys.Pairwise Inc → (∀ x, x ∈ xs ↔ x ∈ ys) → xs = ys
  | [], [], _, _, _ => rfl
  | [], y :: ys, _, _, h => by have := (h y).mpr (by simp); cases this
  | x :: xs, [], _, _, h => by have := (h x).mp (by simp); cases this
  | x :: xs, y :: ys, hx, hy, h => by
    obtain ⟨a1, a2⟩ := List.pairwise_cons.mp hx
    obtain ⟨b1, b2⟩ := List.pairwise_cons.mp hy
    have e : x = y := by
      rcases List.mem_cons.mp ((h x).mp (by simp)) with e | e
      · exact e
      · rcases List.mem_cons.mp ((h y).mpr (by simp)) with f | f
        · exact f.symm
        · have := b1 x e; have := a1 y f; unfold Inc at *; grind
    subst e
    rw [inc_ext a2 b2 fun z => ?_]
    constructor
    · intro hz
      rcases List.mem_cons.mp ((h z).mp (by simp [hz])) with e | e
      · subst e; have := a1 z hz; unfold Inc at this; grind
      · exact e
    · intro hz
      rcases List.mem_cons.mp ((h z).mpr (by simp [hz])) with e | e
      · subst e; have := b1 z hz; unfold Inc at this; grind
      · exact e
theorem inc_sub : ∀ {xs ys : Sps}, xs.Pairwise Inc → ys.Pairwise Inc → (∀ x ∈ xs, x ∈ ys) → xs.Sublist ys
  | [], ys, _, _, _ => List.nil_sublist _
  | x :: xs, [], _, _, h => by have := h x (by simp); cases this
  | x :: xs, y :: ys, hx, hy, h => by
    obtain ⟨a1, a2⟩ := List.pairwise_cons.mp hx
    obtain ⟨b1, b2⟩ := List.pairwise_cons.mp hy
    rcases List.mem_cons.mp (h x (by simp)) with e | e
    · subst e
      refine List.Sublist.cons₂ _ (inc_sub a2 b2 fun z hz => ?_)
      rcases List.mem_cons.mp (h z (by simp [hz])) with f | f
      · subst f; have := a1 z hz; unfold Inc at this; grind
      · exact f
    · refine List.Sublist.cons _ (inc_sub hx b2 fun z hz => ?_)
      rcases List.mem_cons.mp (h z hz) with f | f
      · subst f
        have h1 := b1 x e
        rcases List.mem_cons.mp hz with k | k
        · subst k; unfold Inc at h1; grind
        · have h2 := a1 z k; unfold Inc at h1 h2; grind
      · exact f
/-- below a border, in an ascending row: the first ones -/
theorem inc_cut (t : Rat) : ∀ {xs : Sps}, xs.Pairwise Inc → ∃ a, a ≤ xs.length ∧ xs.filter (fun x => decide (x.1 < t)) = xs.take a ∧ xs.filter (fun x => decide (t ≤ x.1)) = xs.drop a
  | [], _ => ⟨0, by simp, rfl, rfl⟩
  | x :: xs, h => by
    obtain ⟨h1, h2⟩ := List.pairwise_cons.mp h
    by_cases c : x.1 < t
    · obtain ⟨a, l, e1, e2⟩ := inc_cut t h2
      refine ⟨a + 1, by simp; exact l, ?_, ?_⟩
      · rw [List.filter_cons_of_pos (by simpa using c), e1]; rfl
      · rw [List.filter_cons_of_neg (by simp; grind), e2]; rfl
    · refine ⟨0, by simp, ?_, ?_⟩
      · rw [List.take_zero, List.filter_eq_nil_iff]
        intro y hy
        rcases List.mem_cons.mp hy with e | e
        · subst e; simpa using c
        · have := h1 y e; unfold Inc at this; simp; grind
      · rw [List.drop_zero, List.filter_eq_self]
        intro y hy
        rcases List.mem_cons.mp hy with e | e
        · subst e; simp; grind
        · have := h1 y e; unfold Inc at this; simp; grind
theorem inc_map {xs : Sps} (h : xs.Pairwise Inc) (p : Rat) : (xs.map fun x => (x.1 + p, x.2)).Pairwise Inc :=
  List.pairwise_map.mpr (h.imp fun {x y} r => by show x.1 + p < y.1 + p; unfold Inc at r; grind)
theorem rem_add {P p b : Rat} (hP : 0 < P) (h0 : 0 ≤ b) (h1 : b < P) (p0 : 0 ≤ p) (p1 : p ≤ P) : remQ (b + p) P = if b + p < P then b + p else b + p - P := by
  by_cases c : b + p < P
  · rw [if_pos c]; exact remQ_of hP 0 (by rw [Rat.intCast_zero]; grind) (by grind) c
  · rw [if_neg c]; exact remQ_of hP 1 (by rw [Rat.intCast_one]; grind) (by grind) (by grind)
/-- the spans repeat, however many places further -/
structure Rp (P p : Rat) (xs : Sps) (a : Nat) : Prop where
  le : a ≤ xs.length
  low : xs.filter (fun x => decide (x.1 < p)) = xs.take a
  high : xs.filter (fun x => decide (p ≤ x.1)) = xs.drop a
  eq : (xs.take (xs.length - a)).map (fun x => (x.1 + p, x.2)) = xs.drop a
  wrap : ∀ x ∈ xs, x.1 < p → (x.1 + (P - p), x.2) ∈ xs
theorem rp_of {P p : Rat} {xs : Sps} (g : GV P xs) (p0 : 0 < p) (p1 : p ≤ P) (h : allIn xs (laterQ P p xs) = true) : ∃ a, Rp P p xs a := by
  have hP := g.pos
  have hi := g.inc
  have back : ∀ x ∈ xs, (p ≤ x.1 → (x.1 - p, x.2) ∈ xs) ∧ (x.1 < p → (x.1 + (P - p), x.2) ∈ xs) := fun x hx => by
    have h1 := List.all_eq_true.mp h x hx
    have h1 := of_decide_eq_true h1
    obtain ⟨y, hy, e⟩ := List.mem_map.mp h1
    obtain ⟨f1, f2, _, _⟩ := g.fit y hy
    obtain ⟨k1, k2, _, _⟩ := g.fit x hx
    rw [rem_add hP f1 f2 (Rat.le_of_lt p0) p1] at e
    have e1 := congrArg Prod.fst e
    have e2 := congrArg Prod.snd e
    simp only at e1 e2
    by_cases c : y.1 + p < P
    · rw [if_pos c] at e1
      have : (x.1 - p, x.2) = y := Prod.ext (by show x.1 - p = y.1; grind) e2.symm
      exact ⟨fun _ => this ▸ hy, fun z => by grind⟩
    · rw [if_neg c] at e1
      have : (x.1 + (P - p), x.2) = y := Prod.ext (by show x.1 + (P - p) = y.1; grind) e2.symm
      exact ⟨fun z => by grind, fun _ => this ▸ hy⟩
  obtain ⟨a, la, low, high⟩ := inc_cut p hi
  obtain ⟨b, lb, low2, high2⟩ := inc_cut (P - p) hi
  -- what lies beyond p, a part earlier, lies below P - p
  have inj : ∀ {l : Sps} (q : Rat), l.Pairwise Inc → (l.map fun x => (x.1 + q, x.2)).Pairwise Inc := fun q h => inc_map h q
  have sub1 : ∀ x ∈ (xs.drop a).map (fun x => (x.1 + (-p), x.2)), x ∈ xs.take b := fun x hx => by
    obtain ⟨y, hy, rfl⟩ := List.mem_map.mp hx
    rw [← high] at hy
    obtain ⟨hy, c⟩ := List.mem_filter.mp hy
    have c := of_decide_eq_true c
    rw [← low2]
    refine List.mem_filter.mpr ⟨?_, decide_eq_true ?_⟩
    · have := (back y hy).1 c
      have e : (y.1 + -p, y.2) = (y.1 - p, y.2) := Prod.ext (by show y.1 + -p = y.1 - p; grind) rfl
      rw [e]; exact this
    · have := (g.fit y hy).2.1; show y.1 + -p < P - p; grind
  have sub2 : ∀ x ∈ (xs.take a).map (fun x => (x.1 + (P - p), x.2)), x ∈ xs.drop b := fun x hx => by
    obtain ⟨y, hy, rfl⟩ := List.mem_map.mp hx
    rw [← low] at hy
    obtain ⟨hy, c⟩ := List.mem_filter.mp hy
    have c := of_decide_eq_true c
    rw [← high2]
    refine List.mem_filter.mpr ⟨(back y hy).2 c, decide_eq_true ?_⟩
    have := (g.fit y hy).1; show P - p ≤ y.1 + (P - p); grind
  have i1 := inc_sub (inj (-p) (hi.sublist (List.drop_sublist a xs))) (hi.sublist (List.take_sublist b xs)) sub1
  have i2 := inc_sub (inj (P - p) (hi.sublist (List.take_sublist a xs))) (hi.sublist (List.drop_sublist b xs)) sub2
  have c1 : xs.length - a ≤ b := by
    have := i1.length_le
    rw [List.length_map, List.length_drop, List.length_take] at this; omega
  have c2 : a ≤ xs.length - b := by
    have := i2.length_le
    rw [List.length_map, List.length_take, List.length_drop] at this; omega
  have cb : b = xs.length - a := by omega
  subst cb
  have e1 := i1.eq_of_length_le (by rw [List.length_map, List.length_drop, List.length_take]; omega)
  refine ⟨a, la, low, high, ?_, fun x hx c => (back x hx).2 c⟩
  rw [← e1, List.map_map]
  have : ((fun x : Rat × Rat => (x.1 + p, x.2)) ∘ fun x => (x.1 + (-p), x.2)) = id := funext fun x => Prod.ext (by show x.1 + -p + p = x.1; grind) rfl
  rw [this, List.map_id]
theorem at0_get {xs : Sps} {i : Nat} (h : i < xs.length) : at0 xs i = xs[i] := by
  unfold at0; rw [List.getD_eq_getElem?_getD, List.getElem?_eq_getElem h]; rfl
theorem at0_tk {xs : Sps} {d i : Nat} (h : i < d) (hd : d ≤ xs.length) : at0 (xs.take d) i = at0 xs i := by
  rw [at0_get (by rw [List.length_take]; omega), at0_get (by omega), List.getElem_take]
theorem nxt_of {xs : Sps} {a : Nat} {p : Rat} (e : (xs.take (xs.length - a)).map (fun x => (x.1 + p, x.2)) = xs.drop a) (i : Nat) (hi : i + a < xs.length) : at0 xs (i + a) = ((at0 xs i).1 + p, (at0 xs i).2) := by
  have := congrArg (fun l : Sps => l[i]?) e
  simp only [List.getElem?_map, List.getElem?_drop] at this
  rw [List.getElem?_take_of_lt (by omega), List.getElem?_eq_getElem (by omega), List.getElem?_eq_getElem (by omega)] at this
  simp only [Option.map_some, Option.some.injEq] at this
  rw [at0_get hi, at0_get (by omega)]
  have e : a + i = i + a := Nat.add_comm ..
  simp only [e] at this
  exact this.symm
theorem rep_nxt {xs : Sps} {a : Nat} {p : Rat} (ha : a ≤ xs.length) (h : ∀ i, i + a < xs.length → at0 xs (i + a) = ((at0 xs i).1 + p, (at0 xs i).2)) : repB xs a p = true := by
  unfold repB
  refine decide_eq_true (List.ext_getElem ?_ fun i h1 h2 => ?_)
  · rw [List.length_map, List.length_take, List.length_drop]; omega
  · rw [List.length_drop] at h2
    have := h i (by omega)
    rw [at0_get (by omega), at0_get (by omega)] at this
    rw [List.getElem_map, List.getElem_take, List.getElem_drop]
    have e : a + i = i + a := Nat.add_comm ..
    simp only [e]
    exact this.symm
theorem Rp.one {P p : Rat} {xs : Sps} {a : Nat} (R : Rp P p xs a) (p0 : 0 < p) (h : 0 < xs.length) : 0 < a := by
  rcases Nat.eq_zero_or_pos a with e | e
  · subst e
    have := nxt_of R.eq 0 h
    rw [Nat.add_zero] at this
    have := congrArg Prod.fst this
    simp only at this
    grind
  · exact e
theorem Rp.win {P p : Rat} {xs : Sps} {a : Nat} (g : GV P xs) (R : Rp P p xs a) (ha : 0 < a) : ∀ i, i < xs.length → ((i / a : Nat) : Rat) * p ≤ (at0 xs i).1 ∧ (at0 xs i).1 < ((i / a : Nat) : Rat) * p + p := by
  intro i
  induction i using Nat.strongRecOn with
  | _ i ih =>
    intro hi
    by_cases c : i < a
    · rw [Nat.div_eq_of_lt c]
      have hm : at0 xs i ∈ xs.filter (fun x => decide (x.1 < p)) := by rw [R.low]; exact at0_take R.le c
      have := of_decide_eq_true (List.mem_filter.mp hm).2
      have f := (g.fit _ (at0_mem hi)).1
      have z : ((0 : Nat) : Rat) = 0 := rfl
      rw [z]; constructor <;> grind
    · obtain ⟨k, rfl⟩ : ∃ k, i = k + a := ⟨i - a, by omega⟩
      obtain ⟨h1, h2⟩ := ih k (by omega) (by omega)
      rw [nxt_of R.eq k hi, Nat.add_div_right k ha]
      have e : ((k / a + 1 : Nat) : Rat) = ((k / a : Nat) : Rat) + 1 := by rw [Rat.natCast_add]; rfl
      rw [e]
      simp only
      constructor <;> grind
theorem Rp.all {P p : Rat} {xs : Sps} {a c : Nat} (g : GV P xs) (R : Rp P p xs a) (p0 : 0 < p) (hn : 0 < xs.length) (hc : 0 < c) (hP : P = (c : Rat) * p) : xs.length = c * a := by
  have ha := R.one p0 hn
  have cast_mono : ∀ {i j : Nat}, i ≤ j → (i : Rat) * p ≤ (j : Rat) * p := fun {i j} h => Rat.mul_le_mul_of_nonneg_right (Rat.natCast_le_natCast.mpr h) (Rat.le_of_lt p0)
  have up : xs.length ≤ c * a := by
    rcases Nat.lt_or_ge (c * a) xs.length with q | q
    · have h1 := (R.win g ha (c * a) q).1
      rw [Nat.mul_div_cancel _ ha, ← hP] at h1
      have := (g.fit _ (at0_mem q)).2.1
      grind
    · exact q
  have down : c * a ≤ xs.length := by
    have sub : ∀ x ∈ (xs.take a).map (fun x => (x.1 + (P - p), x.2)), x ∈ xs.drop ((c - 1) * a) := fun x hx => by
      obtain ⟨y, hy, rfl⟩ := List.mem_map.mp hx
      rw [← R.low] at hy
      obtain ⟨hy, cy⟩ := List.mem_filter.mp hy
      have cy := of_decide_eq_true cy
      have w := R.wrap y hy cy
      obtain ⟨i, hi, e⟩ := mem_at0 w
      have hic : (c - 1) * a ≤ i := by
        rcases Nat.lt_or_ge i ((c - 1) * a) with q | q
        · have h2 := (R.win g ha i hi).2
          rw [← e] at h2
          have h3 : i / a + 1 ≤ c - 1 := by
            have := (Nat.div_lt_iff_lt_mul ha).mpr q; omega
          have h4 := cast_mono h3
          have e1 : ((i / a + 1 : Nat) : Rat) = ((i / a : Nat) : Rat) + 1 := by rw [Rat.natCast_add]; rfl
          have e2 : ((c - 1 : Nat) : Rat) + 1 = (c : Rat) := by
            have : ((c - 1 + 1 : Nat) : Rat) = ((c - 1 : Nat) : Rat) + 1 := by rw [Rat.natCast_add]; rfl
            rw [← this, show c - 1 + 1 = c by omega]
          rw [e1] at h4
          rw [← e2] at hP
          have := (g.fit y hy).1
          simp only at h2
          grind
        · exact q
      rw [e, at0_get hi]
      have hk : i - (c - 1) * a < (xs.drop ((c - 1) * a)).length := by rw [List.length_drop]; omega
      have : xs[i] = (xs.drop ((c - 1) * a))[i - (c - 1) * a] := by
        rw [List.getElem_drop]
        have : (c - 1) * a + (i - (c - 1) * a) = i := by omega
        simp only [this]
      rw [this]; exact List.getElem_mem hk
    have := (inc_sub (inc_map (g.inc.sublist (List.take_sublist a xs)) (P - p)) (g.inc.sublist (List.drop_sublist _ xs)) sub).length_le
    rw [List.length_map, List.length_take, List.length_drop] at this
    have hle := R.le
    have : c * a = (c - 1) * a + a := by
      obtain ⟨e, rfl⟩ : ∃ e, c = e + 1 := ⟨c - 1, by omega⟩
      rw [Nat.add_sub_cancel, Nat.succ_mul]
    omega
  omega
theorem part_per {P : Rat} {xs : Sps} {d : Nat} (h1 : 1 ≤ d) (h2 : d < xs.length) (m : xs.length % d = 0) : P = ((xs.length / d : Nat) : Rat) * partQ P xs d ∧ xs.length = d * (xs.length / d) := by
  have hl : xs.length = d * (xs.length / d) := by have := Nat.div_add_mod xs.length d; rw [m, Nat.add_zero] at this; exact this.symm
  refine ⟨?_, hl⟩
  have hn : ((xs.length : Int) : Rat) ≠ 0 := fun e => by have := Rat.intCast_eq_zero_iff.mp e; omega
  have hd0 : (0 : Rat) < ((d : Int) : Rat) := Rat.intCast_pos.mpr (by omega)
  unfold partQ
  have e1 : ((xs.length : Int) : Rat) = ((d : Int) : Rat) * ((xs.length / d : Nat) : Rat) := by
    have : ((xs.length : Nat) : Rat) = ((d * (xs.length / d) : Nat) : Rat) := congrArg _ hl
    rw [Rat.natCast_mul] at this; exact this
  have e2 := Rat.div_mul_cancel (a := ((d : Int) : Rat)) hn
  generalize ((d : Int) : Rat) / ((xs.length : Int) : Rat) = z at e2 ⊢
  generalize ((xs.length / d : Nat) : Rat) = c at e1 ⊢
  generalize ((xs.length : Int) : Rat) = n at *
  generalize ((d : Int) : Rat) = e at *
  subst e1
  have : e * (z * c) = e * 1 := by grind
  have h3 : z * c = 1 := by
    have hne : e ≠ 0 := by grind
    have := congrArg (e⁻¹ * ·) this
    simp only [← Rat.mul_assoc, Rat.inv_mul_cancel e hne, Rat.one_mul] at this
    exact this
  grind
theorem part_pos {P : Rat} {xs : Sps} {d : Nat} (hP : 0 < P) (h1 : 1 ≤ d) (h2 : d < xs.length) : 0 < partQ P xs d := by
  have hn0 : (0 : Rat) < ((xs.length : Int) : Rat) := Rat.intCast_pos.mpr (by omega)
  have hd0 : (0 : Rat) < ((d : Int) : Rat) := Rat.intCast_pos.mpr (by omega)
  unfold partQ
  refine Rat.mul_pos hP ?_
  rw [Rat.div_def]; exact Rat.mul_pos hd0 (Rat.inv_pos.mpr hn0)
/-- both ways to a part agree -/
theorem law_part {P : Rat} {xs : Sps} {d : Nat} (g : GV P xs) (h1 : 1 ≤ d) (h2 : d < xs.length) (m : xs.length % d = 0) : allIn xs (laterQ P (partQ P xs d) xs) = repB xs d (partQ P xs d) := by
  obtain ⟨hper, hl⟩ := part_per (P := P) h1 h2 m
  have hp := part_pos g.pos h1 h2
  have hc : 2 ≤ xs.length / d := by
    rcases Nat.lt_or_ge (xs.length / d) 2 with q | q
    · rcases (show ∀ c : Nat, c < 2 → c = 0 ∨ c = 1 by omega) _ q with e | e
      · rw [e, Nat.mul_zero] at hl; omega
      · rw [e, Nat.mul_one] at hl; omega
    · exact q
  have hle : partQ P xs d ≤ P := by
    have := step_ge hp (k := ((xs.length / d : Nat) : Int)) (by omega)
    have e : (((xs.length / d : Nat) : Int) : Rat) = ((xs.length / d : Nat) : Rat) := rfl
    rw [e, ← hper] at this; exact this
  cases hr : repB xs d (partQ P xs d) with
  | true =>
    have hit : hitB P xs d = true := by unfold hitB; rw [hr, decide_eq_true m]; rfl
    have R := rep_of g.pos h1 h2 hit
    refine List.all_eq_true.mpr fun x hx => decide_eq_true ?_
    obtain ⟨j, hj, rfl⟩ := mem_at0 hx
    have fj := g.fit _ (at0_mem hj)
    by_cases c : d ≤ j
    · obtain ⟨k, rfl⟩ : ∃ k, j = k + d := ⟨j - d, by omega⟩
      have e := R.nxt k hj
      have fk := g.fit _ (at0_mem (xs := xs) (i := k) (by omega))
      refine List.mem_map.mpr ⟨at0 xs k, at0_mem (by omega), ?_⟩
      rw [e] at fj ⊢
      simp only at fj
      rw [rem_add g.pos fk.1 fk.2.1 (Rat.le_of_lt hp) hle, if_pos fj.2.1]
    · have hj2 : j + d * (xs.length / d - 1) < xs.length := by
        have : d * (xs.length / d) = d * (xs.length / d - 1) + d := by
          obtain ⟨e, he⟩ : ∃ e, xs.length / d = e + 1 := ⟨xs.length / d - 1, by omega⟩
          rw [he, Nat.add_sub_cancel, Nat.mul_succ]
        omega
      have e := R.far j (xs.length / d - 1) hj2
      have fk := g.fit _ (at0_mem hj2)
      refine List.mem_map.mpr ⟨at0 xs (j + d * (xs.length / d - 1)), at0_mem hj2, ?_⟩
      rw [rem_add g.pos fk.1 fk.2.1 (Rat.le_of_lt hp) hle]
      have e2 : ((xs.length / d - 1 : Nat) : Rat) + 1 = ((xs.length / d : Nat) : Rat) := by
        have : ((xs.length / d - 1 + 1 : Nat) : Rat) = ((xs.length / d - 1 : Nat) : Rat) + 1 := by rw [Rat.natCast_add]; rfl
        rw [← this, show xs.length / d - 1 + 1 = xs.length / d by omega]
      have e3 : (at0 xs (j + d * (xs.length / d - 1))).1 + partQ P xs d = (at0 xs j).1 + P := by
        rw [e]
        show (at0 xs j).1 + _ * _ + _ = _
        have h4 := hper
        rw [← e2] at h4
        grind
      rw [e3, if_neg (by grind)]
      refine Prod.ext ?_ ?_
      · show (at0 xs j).1 + P - P = _; grind
      · show (at0 xs (j + d * (xs.length / d - 1))).2 = _; rw [e]
  | false =>
    cases ha : allIn xs (laterQ P (partQ P xs d) xs) with
    | false => rfl
    | true =>
      obtain ⟨a, R⟩ := rp_of g hp hle ha
      have e := R.all g hp (by omega) (show 0 < xs.length / d by omega) hper
      have had : a = d := by
        have h3 : (xs.length / d) * a = (xs.length / d) * d := by rw [← e, Nat.mul_comm]; exact hl
        exact Nat.eq_of_mul_eq_mul_left (by omega) h3
      subst had
      have : repB xs a (partQ P xs a) = true := decide_eq_true R.eq
      rw [this] at hr; cases hr
end EP
namespace EP
theorem part_div {P : Rat} {xs : Sps} {d : Nat} (h1 : 1 ≤ d) (h2 : d < xs.length) (m : xs.length % d = 0) : partQ P xs d = P / (((xs.length / d : Nat) : Int) : Rat) := by
  obtain ⟨e, hl⟩ := part_per (P := P) h1 h2 m
  have hc : xs.length / d ≠ 0 := fun z => by rw [z, Nat.mul_zero] at hl; omega
  have hc' : ((((xs.length / d : Nat) : Int)) : Rat) ≠ 0 := fun z => by have := Rat.intCast_eq_zero_iff.mp z; omega
  have : P = partQ P xs d * (((xs.length / d : Nat) : Int) : Rat) := by
    have : (((xs.length / d : Nat) : Int) : Rat) = ((xs.length / d : Nat) : Rat) := rfl
    rw [this, Rat.mul_comm]; exact e
  generalize partQ P xs d = p at *
  rw [this, Rat.mul_div_cancel hc']
theorem lf_bits {n : Nat} {P : Rat} {xs : Sps} (hl : xs.length ≤ 6) (b : Bq n P) (hn : 0 < n) : Bq (n + 3) (lfQ P xs).1 := by
  unfold lfQ
  by_cases h : xs.length = 0
  · rw [if_pos h]; exact Bq.mono (n := 1) ⟨B.of (by decide), B.of (by decide)⟩ (by omega)
  · rw [if_neg h]
    cases hf : (List.range' 1 (xs.length - 1)).find? (hitB P xs) with
    | none => exact b.mono (by omega)
    | some d =>
      have h1 := List.find?_some hf
      have h2 := List.mem_range'_1.mp (List.mem_of_find?_eq_some hf)
      unfold hitB at h1
      simp only [Bool.and_eq_true, decide_eq_true_eq] at h1
      show Bq (n + 3) (partQ P xs d)
      rw [part_div h2.1 (by omega) h1.1]
      have hd : xs.length / d ≤ 6 := Nat.le_trans (Nat.div_le_self _ _) hl
      have hc : xs.length / d ≠ 0 := fun z => by
        have := Nat.div_add_mod xs.length d
        rw [z, Nat.mul_zero] at this; omega
      have hc' : ((((xs.length / d : Nat) : Int)) : Rat) ≠ 0 := fun z => by have := Rat.intCast_eq_zero_iff.mp z; omega
      generalize xs.length / d = c at *
      exact Bq.div hc' b (Bq.int (B.of (by omega)))
theorem hit_of {P : Rat} {xs : Sps} {d : Nat} (m : xs.length % d = 0) (r : repB xs d (partQ P xs d) = true) : hitB P xs d = true := by
  unfold hitB; rw [r, decide_eq_true m]; rfl
/-- a part of a part is a part -/
theorem hit_part {P : Rat} {xs : Sps} {d e : Nat} (g : GV P xs) (h1 : 1 ≤ d) (h2 : d < xs.length) (h : hitB P xs d = true) (e1 : 1 ≤ e) (e2 : e < d) (k : hitB (partQ P xs d) (xs.take d) e = true) : hitB P xs e = true := by
  have R := rep_of g.pos h1 h2 h
  have tl : (xs.take d).length = d := by rw [List.length_take]; omega
  have R' := rep_of (P := partQ P xs d) (xs := xs.take d) R.pos e1 (by rw [tl]; exact e2) k
  have m1 : xs.length % d = 0 := by unfold hitB at h; simp only [Bool.and_eq_true, decide_eq_true_eq] at h; exact h.1
  have m2 : d % e = 0 := by unfold hitB at k; simp only [Bool.and_eq_true, decide_eq_true_eq] at k; rw [tl] at k; exact k.1
  have m3 : xs.length % e = 0 := Nat.mod_eq_zero_of_dvd (Nat.dvd_trans (Nat.dvd_of_mod_eq_zero m2) (Nat.dvd_of_mod_eq_zero m1))
  have pe : partQ (partQ P xs d) (xs.take d) e = partQ P xs e := by
    have hn : ((xs.length : Int) : Rat) ≠ 0 := fun z => by have := Rat.intCast_eq_zero_iff.mp z; omega
    have hd : ((d : Int) : Rat) ≠ 0 := fun z => by have := Rat.intCast_eq_zero_iff.mp z; omega
    unfold partQ
    rw [tl]
    have q1 := Rat.div_mul_cancel (a := ((d : Int) : Rat)) hn
    have q2 := Rat.div_mul_cancel (a := ((e : Int) : Rat)) hd
    have q3 := Rat.div_mul_cancel (a := ((e : Int) : Rat)) hn
    generalize ((d : Int) : Rat) / ((xs.length : Int) : Rat) = u at *
    generalize ((e : Int) : Rat) / ((d : Int) : Rat) = v at *
    generalize ((e : Int) : Rat) / ((xs.length : Int) : Rat) = w at *
    generalize ((xs.length : Int) : Rat) = n at *
    have : (u * v) * n = w * n := by grind
    have := congrArg (· * n⁻¹) this
    simp only [Rat.mul_assoc, Rat.mul_inv_cancel n hn, Rat.mul_one] at this
    grind
  rw [pe] at R'
  have c2 := R'.hc
  have tl2 := R'.len
  rw [tl] at tl2 R' c2
  have per := R'.per
  generalize hc : d / e = c at *
  refine hit_of m3 (rep_nxt (by omega) fun i hi => ?_)
  have hi2 : i % d + d * (i / d) = i := Nat.mod_add_div i d
  have hq : i % d < d := Nat.mod_lt _ (by omega)
  have f1 := R.far (i % d) (i / d) (by rw [hi2]; omega)
  rw [hi2] at f1
  by_cases cs : i % d + e < d
  · have f2 := R.far (i % d + e) (i / d) (by omega)
    have f3 := R'.nxt (i % d) (by rw [tl]; exact cs)
    rw [at0_tk cs (by omega), at0_tk hq (by omega)] at f3
    rw [show i % d + e + d * (i / d) = i + e by omega] at f2
    rw [f2, f3, f1]
    refine Prod.ext ?_ rfl
    show (at0 xs (i % d)).1 + partQ P xs e + _ = (at0 xs (i % d)).1 + _ + partQ P xs e
    grind
  · obtain ⟨q0, hq0⟩ : ∃ q0, i % d + e = q0 + d := ⟨i % d + e - d, by omega⟩
    have ec : d = e * (c - 1) + e := by
      obtain ⟨z, rfl⟩ : ∃ z, c = z + 1 := ⟨c - 1, by omega⟩
      rw [Nat.add_sub_cancel, ← Nat.mul_succ]; exact tl2
    have hmul : d * (i / d + 1) = d * (i / d) + d := Nat.mul_succ ..
    have f2 := R.far q0 (i / d + 1) (by omega)
    have f3 := R'.far q0 (c - 1) (by rw [tl]; omega)
    rw [show q0 + e * (c - 1) = i % d by omega, at0_tk hq (by omega), at0_tk (show q0 < d by omega) (by omega)] at f3
    rw [show q0 + d * (i / d + 1) = i + e by omega] at f2
    rw [f2, f1, f3]
    refine Prod.ext ?_ rfl
    show (at0 xs q0).1 + ((i / d + 1 : Nat) : Rat) * partQ P xs d = (at0 xs q0).1 + ((c - 1 : Nat) : Rat) * partQ P xs e + _ + partQ P xs e
    have z1 : ((i / d + 1 : Nat) : Rat) = ((i / d : Nat) : Rat) + 1 := by rw [Rat.natCast_add]; rfl
    have z2 : ((c - 1 : Nat) : Rat) + 1 = (c : Rat) := by
      have : ((c - 1 + 1 : Nat) : Rat) = ((c - 1 : Nat) : Rat) + 1 := by rw [Rat.natCast_add]; rfl
      rw [← this, show c - 1 + 1 = c by omega]
    rw [z1]
    rw [← z2] at per
    grind
theorem lf_idem {P : Rat} {xs : Sps} (g : GV P xs) : lfQ (lfQ P xs).1 (lfQ P xs).2 = lfQ P xs := by
  by_cases h : xs.length = 0
  · have : lfQ P xs = (1, []) := by unfold lfQ; rw [if_pos h]
    rw [this]; rfl
  · cases hf : (List.range' 1 (xs.length - 1)).find? (hitB P xs) with
    | none =>
      have : lfQ P xs = (P, xs) := by unfold lfQ; rw [if_neg h, hf]
      rw [this]; exact this
    | some d =>
      have e : lfQ P xs = (partQ P xs d, xs.take d) := by unfold lfQ; rw [if_neg h, hf]
      rw [e]
      have h1 := List.find?_some hf
      have h2 := List.mem_range'_1.mp (List.mem_of_find?_eq_some hf)
      obtain ⟨_, as, bs, hl, has⟩ := List.find?_eq_some_iff_append.mp hf
      have tl : (xs.take d).length = d := by rw [List.length_take]; omega
      unfold lfQ
      rw [if_neg (by rw [tl]; omega)]
      have no : (List.range' 1 ((xs.take d).length - 1)).find? (hitB (partQ P xs d) (xs.take d)) = none := by
        refine List.find?_eq_none.mpr fun k hk hh => ?_
        have hk := List.mem_range'_1.mp hk
        rw [tl] at hk
        have hit := hit_part g h2.1 (by omega) h1 hk.1 (by omega) hh
        have mem : k ∈ as := by
          have hm : k ∈ List.range' 1 (xs.length - 1) := List.mem_range'_1.mpr ⟨hk.1, by omega⟩
          rw [hl] at hm
          rcases List.mem_append.mp hm with z | z
          · exact z
          · have pw : (List.range' 1 (xs.length - 1)).Pairwise (· < ·) := List.pairwise_lt_range'
            rw [hl] at pw
            have := (List.pairwise_append.mp pw).2.1
            rcases List.mem_cons.mp z with y | y
            · omega
            · have := (List.pairwise_cons.mp this).1 k y; omega
        have := has k mem
        rw [hit] at this; cases this
      rw [no]
end EP
namespace EP
open PySem PySem.Spec PyProof.Rows L2
theorem u65 {k : Nat} {A : Around} (r : Room k A) : A.units + 65 < cLine := by have := r.un; omega
theorem any_dsp (ys : Sps) (x : Rat × Rat) : ((ys.map dsp).any fun z => PyData.eqv z (dsp x)) = decide (x ∈ ys) := by
  induction ys with
  | nil => simp
  | cons y ys ih =>
    rw [List.map_cons, List.any_cons, ih, eqv_dsp]
    by_cases h : y = x
    · subst h; simp
    · rw [decide_eq_false h, Bool.false_or]
      refine decide_eq_decide.mpr ?_
      rw [List.mem_cons]
      exact ⟨fun z => .inr z, fun z => z.elim (fun e => absurd e.symm h) id⟩
end EP
namespace EP
/-! ### windows of a gate with spans -/
/-- where window k begins and ends, within the first period -/
def wB (xs : Sps) (k : Nat) : Rat := (at0 xs k).1 + (at0 xs k).2
def wE (P : Rat) (xs : Sps) (k : Nat) : Rat := if k + 1 < xs.length then (at0 xs (k + 1)).1 else (at0 xs 0).1 + P
/-- window k of period j has the moment m -/
structure Win (P : Rat) (xs : Sps) (m : Rat) (k : Nat) (j : Int) : Prop where
  lt : k < xs.length
  lo : wB xs k + (j : Rat) * P ≤ m
  hi : m ≤ wE P xs k + (j : Rat) * P
theorem GV.at {P : Rat} {xs : Sps} (g : GV P xs) {k : Nat} (h : k < xs.length) : 0 ≤ (at0 xs k).1 ∧ (at0 xs k).1 < P ∧ 0 < (at0 xs k).2 ∧ (at0 xs k).2 ≤ P := g.fit _ (at0_mem h)
theorem GV.up {P : Rat} {xs : Sps} (g : GV P xs) {i k : Nat} (h : i < k) (hk : k < xs.length) : wB xs i ≤ (at0 xs k).1 ∧ wB xs k ≤ (at0 xs i).1 + P := pw_at0 g.pw h hk
/-- the end of a window lies ahead of the spans that follow, and of the first one a period later -/
theorem GV.we {P : Rat} {xs : Sps} (g : GV P xs) {k : Nat} (hk : k < xs.length) : wB xs k ≤ wE P xs k ∧ wE P xs k ≤ (at0 xs 0).1 + P ∧ ∀ i, k < i → i < xs.length → wE P xs k ≤ (at0 xs i).1 := by
  have h0 := g.at (k := 0) (by omega)
  unfold wE
  by_cases c : k + 1 < xs.length
  · rw [if_pos c]
    refine ⟨(g.up (Nat.lt_succ_self k) c).1, ?_, fun i h1 h2 => ?_⟩
    · have := g.at c; grind
    · rcases Nat.lt_or_ge (k + 1) i with q | q
      · have := (g.up q h2).1; have := g.at c; unfold wB at *; grind
      · have : i = k + 1 := by omega
        subst this; exact Rat.le_refl
  · rw [if_neg c]
    refine ⟨?_, Rat.le_refl, fun i h1 h2 => by omega⟩
    rcases Nat.eq_zero_or_pos k with q | q
    · subst q; unfold wB; grind
    · exact (g.up q hk).2
theorem GV.bb {P : Rat} {xs : Sps} (g : GV P xs) {i k : Nat} (h : i ≤ k) (hk : k < xs.length) : (at0 xs i).1 ≤ (at0 xs k).1 ∧ wB xs i ≤ wB xs k := by
  rcases Nat.lt_or_ge i k with q | q
  · have := (g.up q hk).1; have a := g.at (k := i) (by omega); have b := g.at hk; unfold wB at *; constructor <;> grind
  · have : i = k := by omega
    subst this; exact ⟨Rat.le_refl, Rat.le_refl⟩
theorem Win.uniq0 {P m : Rat} {xs : Sps} (g : GV P xs) {i k : Nat} {a b : Int} (h : i < k) (x : Win P xs m i a) (y : Win P xs m k b) : False := by
  have hP := g.pos
  have h1 := (g.we x.lt).2.2 k h y.lt
  have h2 := (g.we y.lt).2.1
  have h3 := g.at y.lt
  have h4 := g.at x.lt
  have h5 := (g.bb (Nat.zero_le i) x.lt).1
  have x1 := x.lo; have x2 := x.hi; have y1 := y.lo; have y2 := y.hi
  have e : ((a - b : Int) : Rat) * P = (a : Rat) * P - (b : Rat) * P := by rw [Rat.intCast_sub]; grind
  have p1 : 0 < ((a - b : Int) : Rat) * P := by rw [e]; unfold wB at *; grind
  have p2 := step_up hP p1
  rw [e] at p2
  unfold wB at *
  grind
theorem Win.uniq {P m : Rat} {xs : Sps} (g : GV P xs) {i k : Nat} {a b : Int} (x : Win P xs m i a) (y : Win P xs m k b) : i = k ∧ a = b := by
  have hP := g.pos
  rcases Nat.lt_trichotomy i k with h | h | h
  · exact (Win.uniq0 g h x y).elim
  · subst h
    refine ⟨rfl, ?_⟩
    have hw := (g.we x.lt).2.1
    have h4 := g.at x.lt
    have h5 := (g.bb (Nat.zero_le i) x.lt).1
    have x1 := x.lo; have x2 := x.hi; have y1 := y.lo; have y2 := y.hi
    rcases (show a < b ∨ a = b ∨ b < a by omega) with c | c | c
    · have := step_ge hP (k := b - a) (by omega)
      rw [Rat.intCast_sub] at this
      unfold wB at *; grind
    · exact c
    · have := step_ge hP (k := a - b) (by omega)
      rw [Rat.intCast_sub] at this
      unfold wB at *; grind
  · exact (Win.uniq0 g h y x).elim
/-- a gate is open at the moments of its windows -/
theorem Win.open {P m : Rat} {xs : Sps} (g : GV P xs) {k : Nat} {j : Int} (w : Win P xs m k j) : shutQ P xs m = none := by
  have hP := g.pos
  refine g.open fun y hy t a => ?_
  obtain ⟨i, hi, rfl⟩ := mem_at0 hy
  obtain ⟨q, e, t0, t1⟩ := a
  have fi := g.at hi
  have w1 := w.lo; have w2 := w.hi
  have ee : ((q - j : Int) : Rat) * P = m - (j : Rat) * P - (at0 xs i).1 - t := by rw [Rat.intCast_sub]; grind
  have h5 := (g.bb (Nat.zero_le i) hi).1
  have h6 := (g.bb (Nat.zero_le k) w.lt).1
  have fk := g.at w.lt
  have we := g.we w.lt
  rcases Nat.lt_or_ge k i with c | c
  · have z := we.2.2 i c hi
    have n1 : ((q - j : Int) : Rat) * P < 0 := by rw [ee]; grind
    have n2 := step_neg hP n1
    have u := (g.up (show 0 < i by omega) hi).2
    rw [ee] at n2
    unfold wB at *; grind
  · have z := (g.bb c w.lt).2
    have n1 : 0 < ((q - j : Int) : Rat) * P := by rw [ee]; unfold wB at *; grind
    have n2 := step_up hP n1
    rw [ee] at n2
    unfold wB at *; grind
/-- an open moment has a window -/
theorem GV.win {P m : Rat} {xs : Sps} (g : GV P xs) (h0 : 0 < xs.length) (o : shutQ P xs m = none) : ∃ k j, Win P xs m k j := by
  have hP := g.pos
  have r0 := remQ_nn (p := m - (at0 xs 0).1) hP
  have r1 := remQ_lt (p := m - (at0 xs 0).1) hP
  have re := remQ_eq (m - (at0 xs 0).1) P
  generalize remQ (m - (at0 xs 0).1) P = s at *
  generalize ((m - (at0 xs 0).1) / P).floor = j at *
  have no : ∀ i, i < xs.length → ∀ t, ¬ LateBy P m (at0 xs i) t := fun i hi t a => by
    rw [g.shut (at0_mem hi) a] at o; cases o
  -- the last span that has begun
  have last : ∀ n, n < xs.length → ∃ k, k ≤ n ∧ (at0 xs k).1 ≤ (at0 xs 0).1 + s ∧ ∀ i, k < i → i ≤ n → (at0 xs 0).1 + s < (at0 xs i).1 := by
    intro n
    induction n with
    | zero => intro _; exact ⟨0, Nat.le_refl _, by grind, fun i h1 h2 => by omega⟩
    | succ n ih =>
      intro hn
      by_cases c : (at0 xs (n + 1)).1 ≤ (at0 xs 0).1 + s
      · exact ⟨n + 1, Nat.le_refl _, c, fun i h1 h2 => by omega⟩
      · obtain ⟨k, hk, k1, k2⟩ := ih (by omega)
        refine ⟨k, by omega, k1, fun i h1 h2 => ?_⟩
        rcases Nat.lt_or_ge n i with q | q
        · have : i = n + 1 := by omega
          subst this; grind
        · exact k2 i h1 q
  obtain ⟨k, hk, k1, k2⟩ := last (xs.length - 1) (by omega)
  have hkl : k < xs.length := by omega
  have fk := g.at hkl
  by_cases c : (at0 xs k).1 = (at0 xs 0).1 + s
  · -- at the begin of span k: the window ahead of it
    rcases Nat.eq_zero_or_pos k with q | q
    · subst q
      refine ⟨xs.length - 1, j - 1, by omega, ?_, ?_⟩
      · have u := (g.we (k := xs.length - 1) (by omega)).1
        have u2 := (g.we (k := xs.length - 1) (by omega)).2.1
        rw [Rat.intCast_sub, Rat.intCast_one]; grind
      · unfold wE
        rw [if_neg (by omega), Rat.intCast_sub, Rat.intCast_one]; grind
    · refine ⟨k - 1, j, by omega, ?_, ?_⟩
      · have u := (g.up (show k - 1 < k by omega) hkl).1; grind
      · unfold wE
        rw [if_pos (by omega), show k - 1 + 1 = k by omega]; grind
  · refine ⟨k, j, hkl, ?_, ?_⟩
    · have := no k hkl ((at0 xs 0).1 + s - (at0 xs k).1)
      unfold wB
      rcases (show (at0 xs 0).1 + s < (at0 xs k).1 + (at0 xs k).2 ∨ (at0 xs k).1 + (at0 xs k).2 ≤ (at0 xs 0).1 + s by grind) with z | z
      · exact absurd ⟨j, by grind, by grind, by grind⟩ this
      · grind
    · unfold wE
      by_cases c2 : k + 1 < xs.length
      · rw [if_pos c2]
        have := k2 (k + 1) (by omega) (by omega)
        grind
      · rw [if_neg c2]; grind
end EP
namespace EP
/-! ### windows by number -/
def wins (P : Rat) (xs : Sps) : Sps := (ends xs).zip (nexts P xs)
theorem wins_len (P : Rat) (xs : Sps) : (wins P xs).length = xs.length := by
  unfold wins ends nexts begs
  rw [List.length_zip, List.length_append, List.length_map, List.length_map, List.length_drop, List.length_take, List.length_map]; omega
theorem wins_at {P : Rat} {xs : Sps} {k : Nat} (h : k < xs.length) : (wins P xs)[k]? = some (wB xs k, wE P xs k) := by
  have hk : at0 xs k = xs[k] := by unfold at0; rw [List.getD_eq_getElem?_getD, List.getElem?_eq_getElem h]; rfl
  have e1 : (ends xs)[k]? = some (wB xs k) := by
    unfold ends wB; rw [List.getElem?_map, List.getElem?_eq_getElem h, hk]; rfl
  have e2 : (nexts P xs)[k]? = some (wE P xs k) := by
    unfold nexts wE begs
    by_cases c : k + 1 < xs.length
    · rw [if_pos c, List.getElem?_append_left (by rw [List.length_drop, List.length_map]; omega), List.getElem?_drop, List.getElem?_map, List.getElem?_eq_getElem (show 1 + k < xs.length by omega)]
      have : at0 xs (k + 1) = xs[1 + k] := by
        unfold at0; rw [List.getD_eq_getElem?_getD, List.getElem?_eq_getElem c]
        simp only [Option.getD_some]; congr 1; omega
      rw [this]; rfl
    · rw [if_neg c, List.getElem?_append_right (by rw [List.length_drop, List.length_map]; omega), List.length_drop, List.length_map, show k - (xs.length - 1) = 0 by omega]
      cases xs with
      | nil => simp at h
      | cons x r => rfl
  unfold wins
  exact (List.getElem?_zip_eq_some (z := (wB xs k, wE P xs k))).mpr ⟨e1, e2⟩
def wNo (xs : Sps) (n : Int) : Nat := (n % (xs.length : Int)).toNat
def wPer (xs : Sps) (n : Int) : Int := n / (xs.length : Int)
def winQ (P : Rat) (xs : Sps) (n : Int) : Rat × Rat := (wB xs (wNo xs n) + (wPer xs n : Rat) * P, wE P xs (wNo xs n) + (wPer xs n : Rat) * P)
theorem wNo_lt {xs : Sps} (h0 : 0 < xs.length) (n : Int) : wNo xs n < xs.length := by
  unfold wNo
  have h1 := Int.emod_nonneg n (show (xs.length : Int) ≠ 0 by omega)
  have h2 := Int.emod_lt_of_pos n (show (0 : Int) < xs.length by omega)
  omega
theorem wNo_eq {xs : Sps} (h0 : 0 < xs.length) (n : Int) : (wNo xs n : Int) + wPer xs n * (xs.length : Int) = n := by
  unfold wNo wPer
  have h1 := Int.emod_nonneg n (show (xs.length : Int) ≠ 0 by omega)
  have h2 := Int.mul_ediv_add_emod n (xs.length : Int)
  rw [Int.mul_comm] at h2
  omega
/-- what window_at answers -/
def WAns (P : Rat) (xs : Sps) (m : Rat) (o : Option Int) : Prop := (∃ k j, Win P xs m k j ∧ o = some ((k : Int) + j * (xs.length : Int))) ∨ (o = none ∧ shutQ P xs m ≠ none)
theorem WAns.of {P m : Rat} {xs : Sps} {o : Option Int} (g : GV P xs) (h0 : 0 < xs.length) {n : Int} (a : WAns P xs m o) (w : Win P xs m (wNo xs n) (wPer xs n)) : o = some n := by
  rcases a with ⟨k, j, x, e⟩ | ⟨_, e⟩
  · obtain ⟨e1, e2⟩ := Win.uniq g x w
    rw [e, e1, e2, wNo_eq h0]
  · exact absurd (w.open g) e
theorem WAns.shut {P m : Rat} {xs : Sps} {o : Option Int} (g : GV P xs) (a : WAns P xs m o) (h : shutQ P xs m ≠ none) : o = none := by
  rcases a with ⟨k, j, x, e⟩ | ⟨e, _⟩
  · exact absurd (x.open g) h
  · exact e
theorem WAns.none_iff {P m : Rat} {xs : Sps} {o : Option Int} (g : GV P xs) (a : WAns P xs m o) : o.isNone = !(shutQ P xs m).isNone := by
  rcases a with ⟨k, j, x, e⟩ | ⟨e, h⟩
  · rw [e, x.open g]; rfl
  · rw [e]
    cases hs : shutQ P xs m with
    | none => exact absurd hs h
    | some _ => rfl
theorem GV.le {P : Rat} {xs : Sps} (g : GV P xs) (h0 : 0 < xs.length) (n : Int) : (winQ P xs n).1 ≤ (winQ P xs n).2 := by
  have := (g.we (wNo_lt h0 n)).1
  unfold winQ; grind
theorem win_mid {P m : Rat} {xs : Sps} (h0 : 0 < xs.length) {n : Int} (h1 : (winQ P xs n).1 ≤ m) (h2 : m ≤ (winQ P xs n).2) : Win P xs m (wNo xs n) (wPer xs n) := ⟨wNo_lt h0 n, h1, h2⟩
theorem Win.num {P m : Rat} {xs : Sps} {k : Nat} {j : Int} (w : Win P xs m k j) : wNo xs ((k : Int) + j * (xs.length : Int)) = k ∧ wPer xs ((k : Int) + j * (xs.length : Int)) = j := by
  have h := w.lt
  unfold wNo wPer
  have e1 : ((k : Int) + j * (xs.length : Int)) % (xs.length : Int) = k := by
    rw [Int.add_mul_emod_self_right]; exact Int.emod_eq_of_lt (by omega) (by omega)
  have e2 : ((k : Int) + j * (xs.length : Int)) / (xs.length : Int) = j := by
    rw [Int.add_mul_ediv_right _ _ (by omega), Int.ediv_eq_zero_of_lt (by omega) (by omega), Int.zero_add]
  rw [e1, e2]; exact ⟨by omega, rfl⟩
/-- the next window begins behind a span that begins at the end of this one -/
theorem win_next {P : Rat} {xs : Sps} (g : GV P xs) (h0 : 0 < xs.length) (n : Int) : ∃ x ∈ xs, ∃ j : Int, (winQ P xs n).2 = x.1 + (j : Rat) * P ∧ (winQ P xs (n + 1)).1 = x.1 + x.2 + (j : Rat) * P := by
  have hn := wNo_lt h0 n
  have e := wNo_eq h0 n
  have e' := wNo_eq h0 (n + 1)
  have hn' := wNo_lt h0 (n + 1)
  by_cases c : wNo xs n + 1 < xs.length
  · have z : wNo xs (n + 1) = wNo xs n + 1 ∧ wPer xs (n + 1) = wPer xs n := by
      have w : Win P xs (wB xs (wNo xs n + 1) + (wPer xs n : Rat) * P) (wNo xs n + 1) (wPer xs n) := ⟨c, Rat.le_refl, by have := (g.we c).1; grind⟩
      have := w.num
      rw [show ((wNo xs n + 1 : Nat) : Int) + wPer xs n * (xs.length : Int) = n + 1 by omega] at this
      exact this
    refine ⟨at0 xs (wNo xs n + 1), at0_mem c, wPer xs n, ?_, ?_⟩
    · unfold winQ wE; rw [if_pos c]
    · unfold winQ; rw [z.1, z.2]; rfl
  · have z : wNo xs (n + 1) = 0 ∧ wPer xs (n + 1) = wPer xs n + 1 := by
      have w : Win P xs (wB xs 0 + ((wPer xs n + 1 : Int) : Rat) * P) 0 (wPer xs n + 1) := ⟨h0, Rat.le_refl, by have := (g.we h0).1; grind⟩
      have := w.num
      have e3 : ((0 : Nat) : Int) + (wPer xs n + 1) * (xs.length : Int) = n + 1 := by
        rw [Int.add_mul, Int.one_mul]; omega
      rw [e3] at this
      exact this
    refine ⟨at0 xs 0, at0_mem h0, wPer xs n + 1, ?_, ?_⟩
    · unfold winQ wE; rw [if_neg c, Rat.intCast_add, Rat.intCast_one]; grind
    · unfold winQ; rw [z.1, z.2]; rfl
theorem win_gap {P : Rat} {xs : Sps} (g : GV P xs) (h0 : 0 < xs.length) (n : Int) : shutQ P xs (((winQ P xs n).2 + (winQ P xs (n + 1)).1) * (1 / 2)) ≠ none := by
  obtain ⟨x, hx, j, e1, e2⟩ := win_next g h0 n
  have f := g.fit x hx
  rw [e1, e2, g.shut hx (t := x.2 * (1 / 2)) ⟨j, by grind, by grind, by grind⟩]
  exact fun z => nomatch z
end EP
namespace EPZ
open PySem PySem.Spec PyProof.Rows
section
variable {prog : Program} {w : World} {A : Around} {E : Value → Shared → Prop} {s : Shared}
/-- a zip whose last tuple, at T, is still held by somebody -/
abbrev ZOut (h : Heap) (z TI TO T : Addr) (f : Bool) : Prop := h.get? z = some ⟨.type "zip", none, .fields #[rawInt T, .bool f, .bool false, .ref TI, .ref TO], #[]⟩
theorem out_free {z TI TO T : Addr} {f : Bool} {oT : Obj} {Q : Bool → Shared → Prop} (hz : ZOut s.heap z TI TO T f) (hT : s.heap.get? T = some oT) (nz : T ≠ z)
    (hQ : ∀ h', ZOut h' z TI TO T true → Heap.SameBut z s.heap h' → Q false { s with heap := h' }) :
    wpAny (model prog w) A (Builtin.SmallTypes.ownedTupleIsFree (.ref z)) Q E s := by
  unfold Builtin.SmallTypes.ownedTupleIsFree
  refine wpAny_bind (wpAny_field hz rfl (x := rawInt T) rfl ?_)
  show wpAny _ _ (loadIfAlive ((T : Int).toNat) >>= _) _ _ _
  rw [Int.toNat_natCast]
  refine wpAny_bind (PySem.W.kdx_alive hT ?_)
  simp only [Option.isNone_some, Bool.false_eq_true, if_false]
  refine wpAny_bind (wpAny_field hz rfl (x := .bool f) rfl ?_)
  cases f with
  | true =>
    rw [if_neg (show ¬ ((Value.bool true != Value.bool true) = true) from Bool.false_ne_true)]
    exact wpAny_pure (hQ _ hz (Heap.SameBut.refl _ _))
  | false =>
    rw [if_pos (show (Value.bool false != Value.bool true) = true from rfl)]
    refine wpAny_bind (wpAny_setField_rec hz (by simp) fun h1 e1 b1 => ?_)
    exact wpAny_pure (hQ h1 e1 b1)
theorem out_next {z TI TO T i1 i2 l1 l2 : Addr} {f : Bool} {oT : Obj} {k : Nat} {xs ys : Array Value} {x y : Value} {Q : Value → Shared → Prop} (D : ZipApart z TI TO i1 i2 l1 l2)
    (hz : ZOut s.heap z TI TO T f) (hT : s.heap.get? T = some oT) (nz : T ≠ z) (hTI : IsPair s.heap TI (.ref i1) (.ref i2))
    (h1 : s.heap.IsListIter i1 l1 k) (h2 : s.heap.IsListIter i2 l2 k) (hl1 : s.heap.IsList l1 xs) (hl2 : s.heap.IsList l2 ys) (hx : xs[k]? = some x) (hy : ys[k]? = some y)
    (hQ : ∀ h', ZOut h' z TI TO T true → h'.IsListIter i1 l1 (k + 1) → h'.IsListIter i2 l2 (k + 1) → IsPair h' s.heap.objs.size x y → h'.objs.size = s.heap.objs.size + 1 →
      (∀ c o, c ≠ z → c ≠ i1 → c ≠ i2 → s.heap.get? c = some o → h'.get? c = some o) → Q (.ref s.heap.objs.size) { s with heap := h' }) :
    wpAny (model prog w) A (Builtin.«zip.__next__» ⟨[.ref z], []⟩) (fun fin s' => ∃ v, fin = .done (.ret v) ∧ Q v s') E s := by
  show wpAny _ _ (field (.ref z) 2 >>= _) _ _ _
  refine wpAny_bind (wpAny_field hz rfl (x := .bool false) rfl ?_)
  show wpAny _ _ (field (.ref z) 3 >>= _) _ _ _
  refine wpAny_bind (wpAny_field hz rfl (x := .ref TI) rfl ?_)
  refine wpAny_bind (wpAny_seqItems hTI rfl ?_)
  show wpAny _ _ (Builtin.SmallTypes.ownedTupleIsFree (.ref z) >>= _) _ _ _
  refine wpAny_bind (out_free hz hT nz fun g z1 b1 => ?_)
  simp only [Bool.false_eq_true, if_false]
  rw [← Array.forIn_toList]
  simp only [List.forIn_cons, List.forIn_nil]
  refine wpAny_bind ?_
  refine wpAny_bind (wpAny_bind (wpAny_holding ?_))
  show wpAny _ _ (Builtin.SmallTypes.nextOf (.ref i1) >>= _) _ _ _
  refine wpAny_bind (wpAny_nextOf_list_item (h1.extBut b1.extBut D.i1z) (hl1.extBut b1.extBut D.l1z) hx fun g2 e2 b2 => wpAny_pure ?_)
  refine wpAny_pure ?_
  refine wpAny_bind (wpAny_bind (wpAny_holding ?_))
  show wpAny _ _ (Builtin.SmallTypes.nextOf (.ref i2) >>= _) _ _ _
  refine wpAny_bind (wpAny_nextOf_list_item ((h2.extBut b1.extBut D.i2z).extBut b2.extBut D.i12.symm) ((hl2.extBut b1.extBut D.l2z).extBut b2.extBut D.l2i1) hy fun g3 e3 b3 => wpAny_pure ?_)
  refine wpAny_pure (wpAny_pure ?_)
  show wpAny _ _ (newTuple [x, y] >>= _) _ _ _
  refine wpAny_bind (wpAny_newTuple ?_)
  have zs : g3.objs.size = s.heap.objs.size := by rw [b3.1, b2.1, b1.1]
  refine wpAny_pure ⟨_, rfl, ?_⟩
  have kp : ∀ c o, c ≠ z → c ≠ i1 → c ≠ i2 → s.heap.get? c = some o → g3.get? c = some o := fun c o a1 a2 a3 e => b3.extBut _ _ a3 (b2.extBut _ _ a2 (b1.extBut _ _ a1 e))
  have z3 : ZOut g3 z TI TO T true := b3.extBut _ _ D.i2z.symm (b2.extBut _ _ D.i1z.symm z1)
  have j1 : g3.IsListIter i1 l1 (k + 1) := e2.extBut b3.extBut D.i12
  have up : ∀ c o, g3.get? c = some o → (g3.push { cls := .type "tuple", data := .seq #[x, y] }).get? c = some o := fun c o e => Heap.get?_push_of_some _ e
  have tp : (g3.push { cls := .type "tuple", data := .seq #[x, y] }).get? s.heap.objs.size = some { cls := .type "tuple", data := .seq #[x, y] } := by rw [← zs]; exact Heap.get?_push_size _ rfl
  show Q (.ref g3.objs.size) _
  rw [zs]
  exact hQ _ (up _ _ z3) (j1.at fun o e => up _ o e) (e3.at fun o e => up _ o e) tp (by rw [Heap.size_push, zs]) fun c o a1 a2 a3 e => up _ _ (kp c o a1 a2 a3 e)
theorem out_end {z TI TO T i1 i2 l1 l2 : Addr} {f : Bool} {oT : Obj} {k : Nat} {xs ys : Array Value} {Q : Fin → Shared → Prop} (hh : A.handled = none) (D : ZipApart z TI TO i1 i2 l1 l2)
    (hz : ZOut s.heap z TI TO T f) (hT : s.heap.get? T = some oT) (nz : T ≠ z) (hTI : IsPair s.heap TI (.ref i1) (.ref i2))
    (h1 : s.heap.IsListIter i1 l1 k) (h2 : s.heap.IsListIter i2 l2 k) (hl1 : s.heap.IsList l1 xs) (hl2 : s.heap.IsList l2 ys) (hend : xs[k]? = none ∨ ys[k]? = none)
    (hE : ∀ h' e, (∀ c o, c ≠ z → c ≠ i1 → c ≠ i2 → s.heap.get? c = some o → h'.get? c = some o) → (∃ o, h'.get? e = some o ∧ o.cls = .type "StopIteration") → E (.ref e) { s with heap := h' }) :
    wpAny (model prog w) A (Builtin.«zip.__next__» ⟨[.ref z], []⟩) Q E s := by
  show wpAny _ _ (field (.ref z) 2 >>= _) _ _ _
  refine wpAny_bind (wpAny_field hz rfl (x := .bool false) rfl ?_)
  show wpAny _ _ (field (.ref z) 3 >>= _) _ _ _
  refine wpAny_bind (wpAny_field hz rfl (x := .ref TI) rfl ?_)
  refine wpAny_bind (wpAny_seqItems hTI rfl ?_)
  show wpAny _ _ (Builtin.SmallTypes.ownedTupleIsFree (.ref z) >>= _) _ _ _
  refine wpAny_bind (out_free hz hT nz fun g z1 b1 => ?_)
  simp only [Bool.false_eq_true, if_false]
  rw [← Array.forIn_toList]
  simp only [List.forIn_cons, List.forIn_nil]
  refine wpAny_bind ?_
  refine wpAny_bind (wpAny_bind (wpAny_holding ?_))
  show wpAny _ _ (Builtin.SmallTypes.nextOf (.ref i1) >>= _) _ _ _
  cases hx : xs[k]? with
  | none =>
    refine wpAny_bind (wpAny_nextOf_list_end hh (h1.extBut b1.extBut D.i1z) (hl1.extBut b1.extBut D.l1z) hx fun g2 e b2 he => ?_)
    exact hE g2 e (fun c o a1 a2 _ x => b2 _ _ a2 (b1.extBut _ _ a1 x)) he
  | some x =>
    have hy : ys[k]? = none := by
      rcases hend with h | h
      · rw [hx] at h; cases h
      · exact h
    refine wpAny_bind (wpAny_nextOf_list_item (h1.extBut b1.extBut D.i1z) (hl1.extBut b1.extBut D.l1z) hx fun g2 e2 b2 => wpAny_pure ?_)
    refine wpAny_pure ?_
    refine wpAny_bind (wpAny_bind (wpAny_holding ?_))
    show wpAny _ _ (Builtin.SmallTypes.nextOf (.ref i2) >>= _) _ _ _
    refine wpAny_bind (wpAny_nextOf_list_end hh ((h2.extBut b1.extBut D.i2z).extBut b2.extBut D.i12.symm) ((hl2.extBut b1.extBut D.l2z).extBut b2.extBut D.l2i1) hy fun g3 e b3 he => ?_)
    exact hE g3 e (fun c o a1 a2 a3 x => b3 _ _ a3 (b2.extBut _ _ a2 (b1.extBut _ _ a1 x))) he
/-- the zip at its turn i, while the list at S takes what it gives -/
def ZSt (S z TI TO i1 i2 l1 l2 : Addr) (i : Nat) (h : Heap) : Prop :=
  IsPair h TI (.ref i1) (.ref i2) ∧ (∃ a b, IsPair h TO a b) ∧ h.IsListIter i1 l1 i ∧ h.IsListIter i2 l2 i ∧ (IsZip h z TI TO .none ∨ ∃ T f oT, ZOut h z TI TO T f ∧ h.get? T = some oT ∧ T ≠ z ∧ T ≠ i1 ∧ T ≠ i2 ∧ T ≠ TO ∧ T ≠ S)
theorem ZSt.keep {S z TI TO i1 i2 l1 l2 : Addr} {i : Nat} {h h' : Heap} (x : ZSt S z TI TO i1 i2 l1 l2 i h) (nS : z ≠ S ∧ TI ≠ S ∧ TO ≠ S ∧ i1 ≠ S ∧ i2 ≠ S) (k : ∀ b o, b ≠ S → h.get? b = some o → h'.get? b = some o) : ZSt S z TI TO i1 i2 l1 l2 i h' := by
  obtain ⟨a1, ⟨p, q, a2⟩, a3, a4, a5⟩ := x
  refine ⟨k _ _ nS.2.1 a1, ⟨p, q, k _ _ nS.2.2.1 a2⟩, a3.at fun o e => k _ o nS.2.2.2.1 e, a4.at fun o e => k _ o nS.2.2.2.2 e, ?_⟩
  rcases a5 with z0 | ⟨T, f, oT, b1, b2, b3, b4, b5, b6, b7⟩
  · exact .inl (k _ _ nS.1 z0)
  · exact .inr ⟨T, f, oT, k _ _ nS.1 b1, k _ _ b7 b2, b3, b4, b5, b6, b7⟩
theorem zst_item {S z TI TO i1 i2 l1 l2 : Addr} {i : Nat} {xs ys : Array Value} {x y : Value} {Q : Option Value → Shared → Prop} (D : ZipApart z TI TO i1 i2 l1 l2) (st : ZSt S z TI TO i1 i2 l1 l2 i s.heap) (hS : S < s.heap.objs.size)
    (hl1 : s.heap.IsList l1 xs) (hl2 : s.heap.IsList l2 ys) (hx : xs[i]? = some x) (hy : ys[i]? = some y)
    (hQ : ∀ h', ZSt S z TI TO i1 i2 l1 l2 (i + 1) h' → IsPair h' s.heap.objs.size x y → h'.objs.size = s.heap.objs.size + 1 → (∀ c o, c ≠ z → c ≠ TO → c ≠ i1 → c ≠ i2 → s.heap.get? c = some o → h'.get? c = some o) → Q (some (.ref s.heap.objs.size)) { s with heap := h' }) :
    wpAny (model prog w) A (pyNext (.ref z)) Q E s := by
  obtain ⟨hTI, ⟨p, q, hTO⟩, h1, h2, hz⟩ := st
  have lt : ∀ {c : Addr} {o : Obj}, s.heap.get? c = some o → s.heap.objs.size ≠ c := fun e => Nat.ne_of_gt (Heap.lt_size e)
  rcases hz with hz | ⟨T, f, oT, hz, hT, n1, n2, n3, n4, n5⟩
  · refine wpAny_pyNext_zip_item D hz hTI hTO h1 h2 hl1 hl2 hx hy fun h' a1 a2 a3 a4 a5 a6 a7 => hQ h' ⟨a7 _ _ D.TIz D.TITO D.TIi1 D.TIi2 hTI, ⟨_, _, a2⟩, a3, a4, .inr ⟨s.heap.objs.size, false, _, a1, a5, lt hz, ?_, ?_, lt hTO, Nat.ne_of_gt hS⟩⟩ a5 a6 a7
    · obtain ⟨_, e, _⟩ := h1; exact lt e
    · obtain ⟨_, e, _⟩ := h2; exact lt e
  · have ty : s.TypeIs (.ref z) "zip" := ⟨_, hz, rfl⟩
    unfold pyNext
    refine wpAny_bind (wpAny_attempt (wpAny_callSpecial?_slot (name := Str.ofString "__next__") ty F.slot_zip_next (wpAny_call_entry F.slot_zip_next ty F.entry_zip_next
      (out_next D hz hT n1 hTI h1 h2 hl1 hl2 hx hy fun h' a1 a3 a4 a5 a6 a7 => wpAny_pure (hQ h' ⟨a7 _ _ D.TIz D.TIi1 D.TIi2 hTI, ⟨p, q, a7 _ _ D.TOz D.TOi1 D.TOi2 hTO⟩, a3, a4, .inr ⟨T, true, oT, a1, a7 _ _ n1 n2 n3 hT, n1, n2, n3, n4, n5⟩⟩ a5 a6 fun c o c1 _ c3 c4 e => a7 c o c1 c3 c4 e)) (F.args_zip_next_1 _))))
theorem zst_end {S z TI TO i1 i2 l1 l2 : Addr} {i : Nat} {xs ys : Array Value} {Q : Option Value → Shared → Prop} (hh : A.handled = none) (D : ZipApart z TI TO i1 i2 l1 l2) (st : ZSt S z TI TO i1 i2 l1 l2 i s.heap)
    (hl1 : s.heap.IsList l1 xs) (hl2 : s.heap.IsList l2 ys) (hend : xs[i]? = none ∨ ys[i]? = none)
    (hQ : ∀ h', (∀ c o, c ≠ z → c ≠ TO → c ≠ i1 → c ≠ i2 → s.heap.get? c = some o → h'.get? c = some o) → Q none { s with heap := h' }) :
    wpAny (model prog w) A (pyNext (.ref z)) Q E s := by
  obtain ⟨hTI, ⟨p, q, hTO⟩, h1, h2, hz⟩ := st
  rcases hz with hz | ⟨T, f, oT, hz, hT, n1, n2, n3, n4, n5⟩
  · exact wpAny_pyNext_zip_end hh D hz hTI hTO h1 h2 hl1 hl2 hend hQ
  · have ty : s.TypeIs (.ref z) "zip" := ⟨_, hz, rfl⟩
    unfold pyNext
    refine wpAny_bind (wpAny_attempt (wpAny_callSpecial?_slot (name := Str.ofString "__next__") ty F.slot_zip_next (wpAny_call_entry F.slot_zip_next ty F.entry_zip_next
      (out_end hh D hz hT n1 hTI h1 h2 hl1 hl2 hend fun h' e k he => ?_) (F.args_zip_next_1 _))))
    obtain ⟨o, ho, hc⟩ := he
    refine wpAny_bind (wpAny_isInstance (T := "StopIteration") (b := true) ⟨o, ho, hc⟩ isSubtype_stop ?_)
    exact wpAny_pure (hQ h' fun c o c1 _ c3 c4 e => k c o c1 c3 c4 e)
end
end EPZ
namespace EPZ
open PySem PySem.Spec PyProof.Rows PySem.W
/-- the tuples that were made so far: above lo, ascending, each with its two items -/
structure ZG (xs ys : Array Value) (lo : Addr) (h : Heap) (ts : List Addr) : Prop where
  up : ts.Pairwise (· < ·)
  lo : ∀ a ∈ ts, lo < a
  at_ : ∀ (j : Nat) (a : Addr), ts[j]? = some a → ∃ x y, xs[j]? = some x ∧ ys[j]? = some y ∧ IsPair h a x y
theorem ZG.lt {xs ys : Array Value} {lo : Addr} {h : Heap} {ts : List Addr} (g : ZG xs ys lo h ts) {a : Addr} (ha : a ∈ ts) : a < h.objs.size := by
  obtain ⟨j, hj⟩ := List.mem_iff_getElem?.mp ha
  obtain ⟨_, _, _, _, e⟩ := g.at_ j a hj
  exact Heap.lt_size e
theorem ZG.mono {xs ys : Array Value} {lo lo' : Addr} {h h' : Heap} {ts : List Addr} (g : ZG xs ys lo h ts) (l : lo' ≤ lo) (k : ∀ a o, lo < a → h.get? a = some o → h'.get? a = some o) : ZG xs ys lo' h' ts :=
  ⟨g.up, fun a ha => Nat.lt_of_le_of_lt l (g.lo a ha), fun j a hj => by
    obtain ⟨x, y, e1, e2, e3⟩ := g.at_ j a hj
    exact ⟨x, y, e1, e2, k a _ (g.lo a (List.mem_of_getElem? hj)) e3⟩⟩
theorem ab {c lo a : Addr} (k : c ≤ lo) (h : lo < a) : a ≠ c := Nat.ne_of_gt (Nat.lt_of_le_of_lt k h)
section
variable {prog : Program} {w : World} {A : Around} {s : Shared} {R : Result → Shared → Prop}
theorem zl_loop {S z TI TO i1 i2 l1 l2 : Addr} {xs ys : Array Value} {n : Nat} (hh : A.handled = none) (D : ZipApart z TI TO i1 i2 l1 l2) (hn : n = min xs.size ys.size) (hs : n ≤ sizeLine) (nS : z ≠ S ∧ TI ≠ S ∧ TO ≠ S ∧ i1 ≠ S ∧ i2 ≠ S) (nl : l1 ≠ S ∧ l2 ≠ S)
    (lo : Addr) (hlo : z ≤ lo ∧ TI ≤ lo ∧ TO ≤ lo ∧ i1 ≤ lo ∧ i2 ≤ lo ∧ S ≤ lo) (res : Value) {h0 : Heap}
    (hR : ∀ h' tk acc c ts, (∀ b o, b ≠ S → b ≠ z → b ≠ TO → b ≠ i1 → b ≠ i2 → h0.get? b = some o → h'.get? b = some o) → h'.get? S = some ⟨.type "list", none, .seq acc c, #[]⟩ → ts.length = n → ZG xs ys lo h' ts →
      acc.toList = ts.map Value.ref → R (.ok (.ret res)) { s with heap := h', toks := tk }) :
    ∀ (k i : Nat) (h : Heap) (tk c : Nat) (acc : Array Value) (ts : List Addr), n - i = k → i ≤ n → ZSt S z TI TO i1 i2 l1 l2 i h → h.IsList l1 xs → h.IsList l2 ys →
      (∀ b o, b ≠ S → b ≠ z → b ≠ TO → b ≠ i1 → b ≠ i2 → h0.get? b = some o → h.get? b = some o) →
      h.get? S = some ⟨.type "list", none, .seq acc c, #[]⟩ → acc.toList = ts.map Value.ref → ts.length = i → ZG xs ys lo h ts → lo < h.objs.size →
      codeAny (model prog w) A (.builtin "list.extend.loop" ⟨[.ref S, .ref z, res], []⟩) R { s with heap := h, toks := tk } := by
  intro k
  induction k with
  | zero =>
    intro i h tk c acc ts hk hi st q1 q2 kp hS ha hl g hlt
    have hin : i = n := by omega
    refine codeAny_builtin F.entry_extend_loop ?_
    rw [Around.under_plainId F.plain_extend_loop _]
    refine wpAny_bind (zst_end (s := { s with heap := h, toks := tk }) (A := A.in1) hh D st q1 q2 ?_ fun h' e => ?_)
    · rcases Nat.le_total xs.size ys.size with z | z
      · exact .inl (Array.getElem?_eq_none (by omega))
      · exact .inr (Array.getElem?_eq_none (by omega))
    · exact wpAny_pure (hR h' tk acc c ts (fun b o a1 a2 a3 a4 a5 x => e b o a2 a3 a4 a5 (kp b o a1 a2 a3 a4 a5 x)) (e S _ nS.1.symm nS.2.2.1.symm nS.2.2.2.1.symm nS.2.2.2.2.symm hS) (by omega) (g.mono (Nat.le_refl _) fun a o x y => e a o (ab hlo.1 x) (ab hlo.2.2.1 x) (ab hlo.2.2.2.1 x) (ab hlo.2.2.2.2.1 x) y) ha)
  | succ k ih =>
    intro i h tk c acc ts hk hi st q1 q2 kp hS ha hl g hlt
    have hlt1 : i < xs.size := by omega
    have hlt2 : i < ys.size := by omega
    have hsz : acc.size = i := by rw [← Array.length_toList, ha, List.length_map, hl]
    refine codeAny_builtin F.entry_extend_loop ?_
    rw [Around.under_plainId F.plain_extend_loop _]
    refine wpAny_bind (zst_item (s := { s with heap := h, toks := tk }) (A := A.in1) (S := S) D st (Heap.lt_size hS) q1 q2 (Array.getElem?_eq_getElem hlt1) (Array.getElem?_eq_getElem hlt2) fun h' st' ht hz e => ?_)
    dsimp only at ht hz e ⊢
    have eS := e S _ nS.1.symm nS.2.2.1.symm nS.2.2.2.1.symm nS.2.2.2.2.symm hS
    have up : ∀ b o, b ≠ S → h'.get? b = some o → (h'.update S (Obj.mapSeq (·.push (Value.ref h.objs.size)))).get? b = some o := fun b o hb x => (Heap.get?_update_other _ _ (Ne.symm hb)).trans x
    have hSl : S < h.objs.size := Heap.lt_size hS
    refine wpAny_bind ?_
    have e1 : ∀ o, h.get? l1 = some o → h'.get? l1 = some o := fun o x => e l1 o D.l1z D.l1TO D.l1i1 D.l1i2 x
    have e2 : ∀ o, h.get? l2 = some o → h'.get? l2 = some o := fun o x => e l2 o D.l2z D.l2TO D.l2i1 D.l2i2 x
    refine wpAny_updateSeq eS rfl (wpAny_pure ⟨plainId_quiet F.plain_extend_loop _, ih (i + 1) _ tk _ (acc.push (Value.ref h.objs.size)) (ts ++ [h.objs.size]) (by omega) (by omega) (st'.keep nS up) (q1.at fun o x => up l1 o nl.1 (e1 o x)) (q2.at fun o x => up l2 o nl.2 (e2 o x))
      (fun b o a1 a2 a3 a4 a5 x => up b o a1 (e b o a2 a3 a4 a5 (kp b o a1 a2 a3 a4 a5 x))) (Heap.get?_update_self _ eS rfl) (by rw [Array.toList_push, ha, List.map_append]; rfl) (by rw [List.length_append, hl]; rfl) ⟨?_, ?_, ?_⟩ ?_⟩) (by rw [hsz]; omega) (by show (acc.push (Value.ref h.objs.size)).size ≤ sizeLine + 1; rw [Array.size_push, hsz]; omega)
    · refine List.pairwise_append.mpr ⟨g.up, List.pairwise_singleton _ _, fun a x b y => ?_⟩
      rw [List.mem_singleton.mp y]; exact g.lt x
    · intro a x
      rcases List.mem_append.mp x with x | x
      · exact g.lo a x
      · rw [List.mem_singleton.mp x]; exact hlt
    · intro j b hj
      rcases Nat.lt_or_ge j ts.length with u | u
      · rw [List.getElem?_append_left u] at hj
        obtain ⟨x, y, f1, f2, f3⟩ := g.at_ j b hj
        have hb := g.lo b (List.mem_of_getElem? hj)
        exact ⟨x, y, f1, f2, up b _ (ab hlo.2.2.2.2.2 hb) (e b _ (ab hlo.1 hb) (ab hlo.2.2.1 hb) (ab hlo.2.2.2.1 hb) (ab hlo.2.2.2.2.1 hb) f3)⟩
      · rw [List.getElem?_append_right u] at hj
        rcases Nat.eq_zero_or_pos (j - ts.length) with v | v
        · rw [v] at hj
          have hj : h.objs.size = b := by simpa using hj
          subst hj
          have ej : j = i := by omega
          subst ej
          exact ⟨_, _, Array.getElem?_eq_getElem hlt1, Array.getElem?_eq_getElem hlt2, up _ _ (Nat.ne_of_gt hSl) ht⟩
        · obtain ⟨m, hm⟩ : ∃ m, j - ts.length = m + 1 := ⟨j - ts.length - 1, by omega⟩
          rw [hm] at hj; simp at hj
    · exact Nat.lt_trans hlt (Heap.lt_size (up _ _ (Nat.ne_of_gt hSl) ht))
theorem zip_noLen : typeLookup (.type "zip") "__len__" = pure none := by rw [typeLookup_type, builtinLookup_eq_fast]; kernel_rfl
theorem zip_noHint : typeLookup (.type "zip") "__length_hint__" = pure none := by rw [typeLookup_type, builtinLookup_eq_fast]; kernel_rfl
end
section
variable {prog : Program} {w : World} {A : Around} {E : Value → Shared → Prop} {s : Shared}
theorem zl_hint {z : Addr} (hT : s.TypeIs (.ref z) "zip") {Q : Bool → Shared → Prop} (h : Q true s) : wpAny (model prog w) A (Builtin.List.listLengthHint (.ref z)) Q E s := by
  unfold Builtin.List.listLengthHint
  refine wpAny_bind (wpAny_specialOf hT zip_noLen ?_)
  dsimp only
  refine wpAny_ite_split (fun hab => absurd hab (by decide)) (fun _ => ?_)
  refine wpAny_ite_split (fun hab => absurd hab (by decide)) (fun _ => ?_)
  refine wpAny_bind (wpAny_specialOf hT zip_noHint ?_)
  exact wpAny_pure h
theorem zl_extend {R : Result → Shared → Prop} {S z TI TO i1 i2 l1 l2 : Addr} {xs ys : Array Value} {n c0 : Nat} (hh : A.handled = none) (D : ZipApart z TI TO i1 i2 l1 l2) (hn : n = min xs.size ys.size) (hs : n ≤ sizeLine) (nS : z ≠ S ∧ TI ≠ S ∧ TO ≠ S ∧ i1 ≠ S ∧ i2 ≠ S) (nl : l1 ≠ S ∧ l2 ≠ S)
    (hlo : z ≤ S ∧ TI ≤ S ∧ TO ≤ S ∧ i1 ≤ S ∧ i2 ≤ S) (res : Value) (hz : IsZip s.heap z TI TO .none) (hTI : IsPair s.heap TI (.ref i1) (.ref i2)) (hTO : ∃ a b, IsPair s.heap TO a b) (h1 : s.heap.IsListIter i1 l1 0) (h2 : s.heap.IsListIter i2 l2 0) (q1 : s.heap.IsList l1 xs) (q2 : s.heap.IsList l2 ys)
    (hS : s.heap.get? S = some { cls := .type "list", data := .seq #[] c0 })
    (hR : ∀ h' tk acc c ts, (∀ b o, b ≠ S → b ≠ z → b ≠ TO → b ≠ i1 → b ≠ i2 → s.heap.get? b = some o → h'.get? b = some o) → h'.get? S = some ⟨.type "list", none, .seq acc c, #[]⟩ → ts.length = n → ZG xs ys S h' ts →
      acc.toList = ts.map Value.ref → R (.ok (.ret res)) { s with heap := h', toks := tk }) :
    wpAny (model prog w) A.in1 (Builtin.List.listExtendWith (.ref S) (.ref z) res)
      (fun fin s' => match fin with | .done f => R (.ok f) s' | .again c' => c'.quiet = true ∧ codeAny (model prog w) A c' R s') (fun e s' => R (.error e) s') s := by
  have ty : s.TypeIs (.ref z) "zip" := ⟨_, hz, rfl⟩
  have key : ∀ (h : Heap) (c1 tk : Nat), (∀ b o, b ≠ S → s.heap.get? b = some o → h.get? b = some o) → h.get? S = some { cls := .type "list", data := .seq #[] c1 } →
      codeAny (model prog w) A (.builtin "list.extend.loop" ⟨[.ref S, .ref z, res], []⟩) R { s with heap := h, toks := tk } := by
    intro h c1 tk k hS1
    obtain ⟨a, b, hTO⟩ := hTO
    exact zl_loop (s := s) (h0 := s.heap) hh D hn hs nS nl S ⟨hlo.1, hlo.2.1, hlo.2.2.1, hlo.2.2.2.1, hlo.2.2.2.2, Nat.le_refl _⟩ res hR n 0 h tk c1 #[] [] (Nat.sub_zero _) (Nat.zero_le _)
      ⟨k _ _ nS.2.1 hTI, ⟨a, b, k _ _ nS.2.2.1 hTO⟩, h1.at fun o e => k _ o nS.2.2.2.1 e, h2.at fun o e => k _ o nS.2.2.2.2 e, .inl (k _ _ nS.1 hz)⟩ (q1.at fun o e => k _ o nl.1 e) (q2.at fun o e => k _ o nl.2 e) (fun b o a1 _ _ _ _ e => k b o a1 e) hS1 rfl rfl
      ⟨List.Pairwise.nil, (fun _ x => nomatch x), (fun j a x => by simp at x)⟩ (Heap.lt_size hS1)
  unfold Builtin.List.listExtendWith
  refine wpAny_bind (wpAny_typeOf (T := "zip") ty ?_)
  have u1 : Builtin.List.listSameRef (.ref S) (.ref z) = false := by simp [Builtin.List.listSameRef, nS.1.symm]
  have u2 : (Value.type "zip" == Value.type "list") = false := by decide
  have u3 : (Value.type "zip" == Value.type "tuple") = false := by decide
  simp only [u1, u2, u3, Bool.or_false, Bool.false_eq_true, if_false]
  refine wpAny_bind (wpAny_pyIter_zip hz ?_)
  refine wpAny_bind (wpAny_holding (zl_hint ty ?_))
  refine wpAny_ite_split (fun _ => ?_) (fun hab => absurd (by simp) hab)
  refine wpAny_bind (wpAny_rule ?_)
  refine wpAny_bind ?_
  show wpAny _ _ (updateSeq S (·.push .none) >>= fun _ => updateSeq S (·.pop)) _ _ _
  refine wpAny_bind (wpAny_updateSeq hS rfl ?_)
  have e2 := Heap.get?_update_self (Obj.mapSeq (·.push Value.none)) hS rfl
  refine wpAny_updateSeq (hz := by seq_fits) e2 rfl ?_
  have e3 := Heap.get?_update_self (Obj.mapSeq (·.pop)) e2 rfl
  refine wpAny_pure ⟨plainId_quiet F.plain_extend_loop _, key _ _ _ (fun b o hb e => ?_) e3⟩
  exact (Heap.get?_update_other _ _ (Ne.symm hb)).trans ((Heap.get?_update_other _ _ (Ne.symm hb)).trans e)
theorem zl_call {Q : Value → Shared → Prop} {z TI TO i1 i2 l1 l2 : Addr} {xs ys : Array Value} {n : Nat} (hh : A.handled = none) (D : ZipApart z TI TO i1 i2 l1 l2) (hn : n = min xs.size ys.size) (hs : n ≤ sizeLine)
    (hz : IsZip s.heap z TI TO .none) (hTI : IsPair s.heap TI (.ref i1) (.ref i2)) (hTO : ∃ a b, IsPair s.heap TO a b) (h1 : s.heap.IsListIter i1 l1 0) (h2 : s.heap.IsListIter i2 l2 0) (q1 : s.heap.IsList l1 xs) (q2 : s.heap.IsList l2 ys)
    (hQ : ∀ h' tk acc c ts, (∀ b o, b ≠ z → b ≠ TO → b ≠ i1 → b ≠ i2 → s.heap.get? b = some o → h'.get? b = some o) → h'.get? s.heap.objs.size = some ⟨.type "list", none, .seq acc c, #[]⟩ → ts.length = n → ZG xs ys s.heap.objs.size h' ts →
      acc.toList = ts.map Value.ref → Q (.ref s.heap.objs.size) { s with heap := h', toks := tk }) :
    wpAny (model prog w) A (call (.type "list") [.ref z]) Q E s := by
  refine callType_codes (Q₁ := fun obj s₁ => obj = .ref s.heap.objs.size ∧ s₁ = { s with heap := s.heap.push { cls := .type "list", data := .seq #[] } }) F.called_list (F.typeCall_list_1 _) F.entry_list_init (code_list_new _ ⟨rfl, rfl⟩) fun obj sn hsn => ?_
  obtain ⟨rfl, rfl⟩ := hsn
  have hS : (s.heap.push { cls := .type "list", data := .seq #[] }).get? s.heap.objs.size = some { cls := .type "list", data := .seq #[] } := Heap.get?_push_size _ rfl
  refine ⟨⟨_, hS, rfl⟩, F.args_list_init_2 _ _, ?_⟩
  show wpAny _ _ (do let old ← Builtin.List.listItems (.ref s.heap.objs.size); Builtin.List.listUpdate (.ref s.heap.objs.size) (fun _ => #[]); letGo old.toList.reverse; Builtin.List.listExtendWith (.ref s.heap.objs.size) (.ref z) .none) _ _ _
  refine wpAny_bind ?_
  unfold Builtin.List.listItems
  refine wpAny_bind (wpAny_seqItems hS rfl (wpAny_pure ?_))
  refine wpAny_bind (wpAny_updateSeq hS rfl ?_)
  have e2 := Heap.get?_update_self (Obj.mapSeq (fun _ => (#[] : Array Value))) hS rfl
  have lt : ∀ {c : Addr} {o : Obj}, s.heap.get? c = some o → c < s.heap.objs.size := fun e => Heap.lt_size e
  have up : ∀ b o, s.heap.get? b = some o → ((s.heap.push { cls := .type "list", data := .seq #[] }).update s.heap.objs.size (Obj.mapSeq (fun _ => (#[] : Array Value)))).get? b = some o :=
    fun b o e => (Heap.get?_update_other _ _ (Nat.ne_of_gt (lt e))).trans (Heap.get?_push_of_some _ e)
  refine wpAny_bind (wpAny_letGo ?_)
  have lz := lt hz
  have lT := lt hTI
  obtain ⟨a, b, hTO⟩ := hTO
  have lO := lt hTO
  have li1 : i1 < s.heap.objs.size := by obtain ⟨_, e, _⟩ := h1; exact lt e
  have li2 : i2 < s.heap.objs.size := by obtain ⟨_, e, _⟩ := h2; exact lt e
  have ll1 : l1 < s.heap.objs.size := by obtain ⟨_, e, _⟩ := q1; exact lt e
  have ll2 : l2 < s.heap.objs.size := by obtain ⟨_, e, _⟩ := q2; exact lt e
  refine zl_extend (A := A.in1) hh D hn hs ⟨Nat.ne_of_lt lz, Nat.ne_of_lt lT, Nat.ne_of_lt lO, Nat.ne_of_lt li1, Nat.ne_of_lt li2⟩ ⟨Nat.ne_of_lt ll1, Nat.ne_of_lt ll2⟩ ⟨Nat.le_of_lt lz, Nat.le_of_lt lT, Nat.le_of_lt lO, Nat.le_of_lt li1, Nat.le_of_lt li2⟩ .none
    (up _ _ hz) (up _ _ hTI) ⟨a, b, up _ _ hTO⟩ (h1.at fun o e => up _ o e) (h2.at fun o e => up _ o e) (q1.at fun o e => up _ o e) (q2.at fun o e => up _ o e) e2 (fun h' tk acc c ts k hS' hl g ha => ?_)
  exact ⟨rfl, hQ h' tk acc c ts (fun b o a2 a3 a4 a5 e => k b o (Nat.ne_of_lt (lt e)) a2 a3 a4 a5 (up b o e)) hS' hl g ha⟩
end
end EPZ
namespace EPZ
open PySem PySem.Spec PyProof.Rows L2
/-- new things are told of: they lie behind the old end of the heap -/
theorem inv_more {X : Cx} {pins : List (Addr × Obj)} {σ : L2.St} {H Hn : Hp} {s : Shared} {h' : Heap} {tk : Nat} (I : Inv X pins σ H s) (k : ∀ b o, s.heap.get? b = some o → h'.get? b = some o)
    (up : ∀ b u, H b = some u → Hn b = some u) (old : ∀ b, b < s.heap.objs.size → Hn b = H b) (new : ∀ b u, s.heap.objs.size ≤ b → Hn b = some u → ObjOk X.prog X.w Hn h' b u) : Inv X pins σ Hn { s with heap := h', toks := tk } := by
  refine I.call' (ch := []) rfl ⟨fun b o q _ _ _ => k b o q, fun b o q _ _ _ => ⟨o.slots, k b o q⟩, fun b o q n _ => by rw [old b (Heap.lt_size q)]; exact n, fun b o q _ => ⟨o, k b o q⟩, fun b xs q => up b _ q, fun b o u q => up b _ q, fun b ps q => ⟨#[], by rw [up b _ q]; simp⟩⟩ (fun b u q => ?_) I.bare fun b z => by simp at z
  rcases Nat.lt_or_ge b s.heap.objs.size with z | z
  · rw [old b z] at q
    exact (I.hok b u q).stay (fun d v _ y => k d v y) (fun d y => up d _ y) fun d xs y => up d _ y
  · exact new b u z q
/-- the list at S and its tuples -/
def Zh (H : Hp) (S : Addr) (ts : List Addr) (ps : List (V × V)) : Hp := fun b => if b = S then some (.lst (ts.map V.ref)) else match (ts.zip ps).lookup b with | some p => some (.tup [p.1, p.2]) | none => H b
theorem look_none {b : Addr} : ∀ (ts : List Addr) (ps : List (V × V)), b ∉ ts → (ts.zip ps).lookup b = none
  | [], _, _ => by simp
  | _ :: _, [], _ => by simp
  | t :: ts, p :: ps, h => by
    simp only [List.mem_cons, not_or] at h
    rw [List.zip_cons_cons, List.lookup_cons, show (b == t) = false from beq_false_of_ne h.1]
    exact look_none ts ps h.2
theorem look_at : ∀ (ts : List Addr) (ps : List (V × V)), ts.Nodup → ∀ {i : Nat} {t : Addr} {p : V × V}, ts[i]? = some t → ps[i]? = some p → (ts.zip ps).lookup t = some p
  | [], _, _, i, t, p, h, _ => by simp at h
  | _ :: _, [], _, i, t, p, _, h => by simp at h
  | a :: ts, q :: ps, hn, 0, t, p, h1, h2 => by
    cases Option.some.inj h1; cases Option.some.inj h2
    rw [List.zip_cons_cons, List.lookup_cons, show (a == a) = true from beq_self_eq_true a]
  | a :: ts, q :: ps, hn, i + 1, t, p, h1, h2 => by
    have hn := List.nodup_cons.mp hn
    have e : t ≠ a := fun z => hn.1 (by rw [← z]; exact List.mem_of_getElem? (show ts[i]? = some t from h1))
    rw [List.zip_cons_cons, List.lookup_cons, show (t == a) = false from beq_false_of_ne e]
    exact look_at ts ps hn.2 (i := i) h1 h2
def tListZip (K : PySem.W.Frag) (ta : TA) : TE := fun σ H Q => ta σ H fun vs H1 => ∃ (a b : Addr) (xs ys : List V), vs = [.ref a, .ref b] ∧ SqL K H1 a xs ∧ SqL K H1 b ys ∧
  ∀ (H' : Hp) (p : Addr) (ts : List Addr), Same H1 H' → H' p = some (.lst (ts.map V.ref)) → ts.length = min xs.length ys.length → (∀ (i : Nat) (t : Addr) (x y : V), ts[i]? = some t → xs[i]? = some x → ys[i]? = some y → H' t = some (.tup [x, y])) → Q (.ref p) H'
theorem vals_ref : ∀ ts : List Addr, Vals (ts.map V.ref) (ts.map Value.ref)
  | [] => .nil
  | _ :: ts => .cons rfl (vals_ref ts)
/-- list(zip(a, b)) -/
theorem pe_listZip {X : Cx} {e e2 : Expr} {ta : TA} {p p2 pos q : Pos} (hc : X.calm = true) (hgl : Gl X "list") (hml : X.mg "list" = none) (hg : Gl X "zip") (hm : X.mg "zip" = none) (ha : PA X [e, e2] ta)
    (hs : starEach [e, e2] X.env = (false, eval e X.env) :: starEach [e2] X.env := by rfl) (hpl : (backTo q (starEach [e2] X.env)).any (·.1) = false := by rfl)
    (hs1 : starEach [.Call (.Name "zip" p2) [e, e2] [] q] X.env = (false, eval (.Call (.Name "zip" p2) [e, e2] [] q) X.env) :: starEach [] X.env := by rfl) :
    PE X (.Call (.Name "list" p) [.Call (.Name "zip" p2) [e, e2] [] q] [] pos) (tListZip X.K ta) := by
  refine ⟨fun pins s σ H Q I h => ?_⟩
  refine wpAny_Call_Name_kw (ld_blt I hgl hml (show bootBuiltins "list" = some (.type "list") by decide +kernel) ?_)
  refine callWith_type1 ?_ hs1 rfl
  rw [hs1]
  show wpAny _ _ (spliced ((false, eval (.Call (.Name "zip" p2) [e, e2] [] q) X.env) :: backTo pos (starEach [] X.env))) _ _ s
  refine Calls.spliced_cons ?_
  refine Call_ (ld_blt I hg hm boot_zip (callWith_type1 (thn (ha.run q pins s σ H _ I h) fun us s1 ⟨vs, H1, I1, r1, q1⟩ => ?_) hs hpl))
  obtain ⟨a, b, xs, ys, ex, hqx, hqy, q1⟩ := q1
  subst ex
  cases r1 with
  | cons r rr =>
    cases rr with
    | cons r' rr =>
      cases rr
      cases r
      cases r'
      obtain ⟨its, rv, pA, sA⟩ := I1.list hqx
      obtain ⟨its2, rv2, pB, sB⟩ := I1.list hqy
      have lx := rv.length
      have ly := rv2.length
      refine call_zip_2 pA.isList pB.isList fun h1 hz hTI hTO j1 j2 hsz hk => ?_
      refine Calls.spliced_nil ?_
      have lt : ∀ {c : Addr} {o : Obj}, s1.heap.get? c = some o → c < s1.heap.objs.size := fun e => Heap.lt_size e
      have D := PySem.W.ktu_apart s1.heap.objs.size a b pA.lt pB.lt
      have up1 : ∀ {l : Addr} {as : Array Value}, s1.heap.IsList l as → h1.IsList l as := fun x => x.at fun o y => hk _ o y
      refine zl_call (s := { s1 with heap := h1 }) (n := min its.length its2.length) (I1.ok.hd hc) D (by simp) (Nat.le_trans (Nat.min_le_left _ _) (by omega)) hz hTI ⟨_, _, hTO⟩ j1 j2 (up1 pA.isList) (up1 pB.isList) fun h' tk acc c ts k hS hl g hacc => ?_
      dsimp only at k hS g ⊢
      have lo : ∀ b : Addr, h1.objs.size ≤ b → s1.heap.objs.size ≤ b := fun b z => Nat.le_trans (by rw [hsz]; exact Nat.le_add_right _ _) z
      have kp : ∀ b o, s1.heap.get? b = some o → h'.get? b = some o := fun b o e => by
        have z := lt e
        exact k b o (Nat.ne_of_lt (Nat.lt_of_lt_of_le z (Nat.le_add_right _ _))) (Nat.ne_of_lt (Nat.lt_of_lt_of_le z (Nat.le_add_right _ _))) (Nat.ne_of_lt z) (Nat.ne_of_lt (Nat.lt_of_lt_of_le z (Nat.le_add_right _ _))) (hk b o e)
      have nd : ts.Nodup := g.up.imp fun {a b} h => Nat.ne_of_lt h
      have nSt : h1.objs.size ∉ ts := fun z => Nat.lt_irrefl _ (g.lo _ z)
      have fresh : ∀ b : Addr, s1.heap.objs.size ≤ b → H1 b = none := fun b z => I1.hok.fresh z
      have nt : ∀ b, b ∈ ts → s1.heap.objs.size ≤ b := fun b z => lo b (Nat.le_of_lt (g.lo b z))
      have hlen : ts.length = min xs.length ys.length := by rw [hl, lx, ly]
      have eS : Zh H1 h1.objs.size ts (xs.zip ys) h1.objs.size = some (.lst (ts.map V.ref)) := if_pos rfl
      have eT : ∀ {i : Nat} {t : Addr} {p : V × V}, ts[i]? = some t → (xs.zip ys)[i]? = some p → Zh H1 h1.objs.size ts (xs.zip ys) t = some (.tup [p.1, p.2]) := fun {i t p} e1 e2 => by
        unfold Zh
        rw [if_neg (fun z => nSt (by rw [← z]; exact List.mem_of_getElem? e1)), look_at ts _ nd e1 e2]
      have eO : ∀ b, b ≠ h1.objs.size → b ∉ ts → Zh H1 h1.objs.size ts (xs.zip ys) b = H1 b := fun b e1 e2 => by
        unfold Zh
        rw [if_neg e1, look_none ts _ e2]
      have upH : ∀ b u, H1 b = some u → Zh H1 h1.objs.size ts (xs.zip ys) b = some u := fun b u e => by
        rw [eO b (fun z => by rw [z, fresh _ (lo _ (Nat.le_refl _))] at e; cases e) (fun z => by rw [fresh b (nt b z)] at e; cases e)]; exact e
      have I2 : Inv X pins σ (Zh H1 h1.objs.size ts (xs.zip ys)) { s1 with heap := h', toks := tk } := by
        refine inv_more I1 kp upH (fun b z => eO b (fun y => ?_) (fun y => ?_)) (fun b u z e => ?_)
        · exact Nat.not_le.mpr z (by rw [y]; exact lo _ (Nat.le_refl _))
        · exact Nat.not_le.mpr z (nt b y)
        · by_cases hb : b = h1.objs.size
          · rw [hb, eS] at e
            cases Option.some.inj e
            refine ⟨by rw [List.length_map]; omega, acc.toList, c, by rw [hacc]; exact vals_ref ts, ?_⟩
            rw [Array.toArray_toList, hb]; exact hS
          · by_cases hb2 : b ∈ ts
            · obtain ⟨i, hi⟩ := List.mem_iff_getElem?.mp hb2
              have hil : i < ts.length := (List.getElem?_eq_some_iff.mp hi).1
              have h1i : i < xs.length := by omega
              have h2i : i < ys.length := by omega
              have ep : (xs.zip ys)[i]? = some (xs[i], ys[i]) := by rw [List.getElem?_eq_getElem (by rw [List.length_zip]; omega), List.getElem_zip]
              rw [eT hi ep] at e
              cases Option.some.inj e
              obtain ⟨x, y, g1, g2, g3⟩ := g.at_ i b hi
              obtain ⟨u1, w1, r1⟩ := rv.get (List.getElem?_eq_getElem h1i)
              obtain ⟨u2, w2, r2⟩ := rv2.get (List.getElem?_eq_getElem h2i)
              have c1 : x = u1 := by
                have : its[i]? = some x := by simpa using g1
                rw [w1] at this; exact (Option.some.inj this).symm
              have c2 : y = u2 := by
                have : its2[i]? = some y := by simpa using g2
                rw [w2] at this; exact (Option.some.inj this).symm
              subst c1 c2
              exact ⟨by show 2 ≤ sizeLine; decide, [x, y], .cons r1 (.cons r2 .nil), ⟨_, g3, rfl, _, rfl⟩⟩
            · rw [eO b hb hb2, fresh b z] at e; cases e
      refine ⟨.ref h1.objs.size, _, I2, rfl, q1 _ _ ts upH eS hlen fun i t x y a1 a2 a3 => ?_⟩
      exact eT (p := (x, y)) a1 (by
        have h1i := (List.getElem?_eq_some_iff.mp a2).1
        have h2i := (List.getElem?_eq_some_iff.mp a3).1
        rw [List.getElem?_eq_getElem (by rw [List.length_zip]; omega), List.getElem_zip]
        rw [List.getElem?_eq_getElem h1i] at a2; rw [List.getElem?_eq_getElem h2i] at a3
        rw [Option.some.inj a2, Option.some.inj a3])
end EPZ
namespace EP
open PySem PySem.Spec PyProof.Rows L2
def topS (i : Nat) : Stmt := PySem.Challenge.pw_evenpace_k11_windows.main.body.getD i (.Pass ⟨0, 0, 0, 0⟩)
abbrev s_gcd : Stmt := topS 8
abbrev N_gcd : List Str := ["one", "other"]
abbrev Ps_gcd : List Str := ["one", "other"]
theorem sc_gcd : FnScope N_gcd Ps_gcd (defScope s_gcd) := ⟨rfl, rfl, rfl, by decide +kernel, rfl, by decide +kernel, by decide +kernel⟩
abbrev s_fraction : Stmt := topS 9
abbrev N_fraction : List Str := ["num", "den", "divisor"]
abbrev Ps_fraction : List Str := ["num", "den"]
theorem sc_fraction : FnScope N_fraction Ps_fraction (defScope s_fraction) := ⟨rfl, rfl, rfl, by decide +kernel, rfl, by decide +kernel, by decide +kernel⟩
abbrev s_add : Stmt := topS 10
abbrev N_add : List Str := ["one", "other"]
abbrev Ps_add : List Str := ["one", "other"]
theorem sc_add : FnScope N_add Ps_add (defScope s_add) := ⟨rfl, rfl, rfl, by decide +kernel, rfl, by decide +kernel, by decide +kernel⟩
abbrev s_subtract : Stmt := topS 11
abbrev N_subtract : List Str := ["one", "other"]
abbrev Ps_subtract : List Str := ["one", "other"]
theorem sc_subtract : FnScope N_subtract Ps_subtract (defScope s_subtract) := ⟨rfl, rfl, rfl, by decide +kernel, rfl, by decide +kernel, by decide +kernel⟩
abbrev s_multiply : Stmt := topS 12
abbrev N_multiply : List Str := ["one", "other"]
abbrev Ps_multiply : List Str := ["one", "other"]
theorem sc_multiply : FnScope N_multiply Ps_multiply (defScope s_multiply) := ⟨rfl, rfl, rfl, by decide +kernel, rfl, by decide +kernel, by decide +kernel⟩
abbrev s_divide : Stmt := topS 13
abbrev N_divide : List Str := ["one", "other"]
abbrev Ps_divide : List Str := ["one", "other"]
theorem sc_divide : FnScope N_divide Ps_divide (defScope s_divide) := ⟨rfl, rfl, rfl, by decide +kernel, rfl, by decide +kernel, by decide +kernel⟩
abbrev s_is_less : Stmt := topS 14
abbrev N_is_less : List Str := ["one", "other"]
abbrev Ps_is_less : List Str := ["one", "other"]
theorem sc_is_less : FnScope N_is_less Ps_is_less (defScope s_is_less) := ⟨rfl, rfl, rfl, by decide +kernel, rfl, by decide +kernel, by decide +kernel⟩
abbrev s_floor_of : Stmt := topS 15
abbrev N_floor_of : List Str := ["one"]
abbrev Ps_floor_of : List Str := ["one"]
theorem sc_floor_of : FnScope N_floor_of Ps_floor_of (defScope s_floor_of) := ⟨rfl, rfl, rfl, by decide +kernel, rfl, by decide +kernel, by decide +kernel⟩
abbrev s_remainder : Stmt := topS 16
abbrev N_remainder : List Str := ["one", "period", "turns"]
abbrev Ps_remainder : List Str := ["one", "period"]
theorem sc_remainder : FnScope N_remainder Ps_remainder (defScope s_remainder) := ⟨rfl, rfl, rfl, by decide +kernel, rfl, by decide +kernel, by decide +kernel⟩
abbrev s_span_ends : Stmt := topS 19
abbrev N_span_ends : List Str := ["spans", "begin", "length"]
abbrev Ps_span_ends : List Str := ["spans"]
theorem sc_span_ends : FnScope N_span_ends Ps_span_ends (defScope s_span_ends) := ⟨rfl, rfl, rfl, by decide +kernel, rfl, by decide +kernel, by decide +kernel⟩
abbrev s_next_begins : Stmt := topS 20
abbrev N_next_begins : List Str := ["period", "spans", "begins", "begin", "length"]
abbrev Ps_next_begins : List Str := ["period", "spans"]
theorem sc_next_begins : FnScope N_next_begins Ps_next_begins (defScope s_next_begins) := ⟨rfl, rfl, rfl, by decide +kernel, rfl, by decide +kernel, by decide +kernel⟩
abbrev s_fits : Stmt := topS 21
abbrev N_fits : List Str := ["span", "period", "begin", "length"]
abbrev Ps_fits : List Str := ["span", "period"]
theorem sc_fits : FnScope N_fits Ps_fits (defScope s_fits) := ⟨rfl, rfl, rfl, by decide +kernel, rfl, by decide +kernel, by decide +kernel⟩
abbrev s_is_gate : Stmt := topS 22
abbrev N_is_gate : List Str := ["gate", "place", "period", "spans", "span", "end", "after"]
abbrev Ps_is_gate : List Str := ["gate"]
theorem sc_is_gate : FnScope N_is_gate Ps_is_gate (defScope s_is_gate) := ⟨rfl, rfl, rfl, by decide +kernel, rfl, by decide +kernel, by decide +kernel⟩
abbrev s_repeats : Stmt := topS 23
abbrev N_repeats : List Str := ["spans", "many", "period", "shifted", "begin", "length"]
abbrev Ps_repeats : List Str := ["spans", "many", "period"]
theorem sc_repeats : FnScope N_repeats Ps_repeats (defScope s_repeats) := ⟨rfl, rfl, rfl, by decide +kernel, rfl, by decide +kernel, by decide +kernel⟩
abbrev s_least_form : Stmt := topS 24
abbrev N_least_form : List Str := ["place", "period", "spans", "many", "part"]
abbrev Ps_least_form : List Str := ["place", "period", "spans"]
theorem sc_least_form : FnScope N_least_form Ps_least_form (defScope s_least_form) := ⟨rfl, rfl, rfl, by decide +kernel, rfl, by decide +kernel, by decide +kernel⟩
abbrev s_normal_gate : Stmt := topS 25
abbrev N_normal_gate : List Str := ["gate", "place", "period", "spans"]
abbrev Ps_normal_gate : List Str := ["gate"]
theorem sc_normal_gate : FnScope N_normal_gate Ps_normal_gate (defScope s_normal_gate) := ⟨rfl, rfl, rfl, by decide +kernel, rfl, by decide +kernel, by decide +kernel⟩
abbrev s_shut_until : Stmt := topS 26
abbrev N_shut_until : List Str := ["gate", "moment", "place", "period", "spans", "begin", "length", "since"]
abbrev Ps_shut_until : List Str := ["gate", "moment"]
theorem sc_shut_until : FnScope N_shut_until Ps_shut_until (defScope s_shut_until) := ⟨rfl, rfl, rfl, by decide +kernel, rfl, by decide +kernel, by decide +kernel⟩
abbrev s_is_open : Stmt := topS 27
abbrev N_is_open : List Str := ["gate", "moment"]
abbrev Ps_is_open : List Str := ["gate", "moment"]
theorem sc_is_open : FnScope N_is_open Ps_is_open (defScope s_is_open) := ⟨rfl, rfl, rfl, by decide +kernel, rfl, by decide +kernel, by decide +kernel⟩
abbrev s_first_windows : Stmt := topS 28
abbrev N_first_windows : List Str := ["gate", "place", "period", "spans"]
abbrev Ps_first_windows : List Str := ["gate"]
theorem sc_first_windows : FnScope N_first_windows Ps_first_windows (defScope s_first_windows) := ⟨rfl, rfl, rfl, by decide +kernel, rfl, by decide +kernel, by decide +kernel⟩
abbrev s_periods_later : Stmt := topS 29
abbrev N_periods_later : List Str := ["moment", "periods", "period"]
abbrev Ps_periods_later : List Str := ["moment", "periods", "period"]
theorem sc_periods_later : FnScope N_periods_later Ps_periods_later (defScope s_periods_later) := ⟨rfl, rfl, rfl, by decide +kernel, rfl, by decide +kernel, by decide +kernel⟩
abbrev s_window : Stmt := topS 30
abbrev N_window : List Str := ["gate", "number", "period", "windows", "periods", "at", "begin", "end"]
abbrev Ps_window : List Str := ["gate", "number"]
theorem sc_window : FnScope N_window Ps_window (defScope s_window) := ⟨rfl, rfl, rfl, by decide +kernel, rfl, by decide +kernel, by decide +kernel⟩
abbrev s_window_at : Stmt := topS 31
abbrev N_window_at : List Str := ["gate", "moment", "period", "windows", "at", "begin", "end", "periods"]
abbrev Ps_window_at : List Str := ["gate", "moment"]
theorem sc_window_at : FnScope N_window_at Ps_window_at (defScope s_window_at) := ⟨rfl, rfl, rfl, by decide +kernel, rfl, by decide +kernel, by decide +kernel⟩
abbrev s_l_source : Stmt := topS 33
abbrev N_l_source : List Str := ["_law_script", "_law_seed", "_law_cell"]
abbrev Ps_l_source : List Str := ["_law_script"]
theorem sc_l_source : FnScope N_l_source Ps_l_source (defScope s_l_source) := ⟨rfl, rfl, rfl, by decide +kernel, rfl, by decide +kernel, by decide +kernel⟩
abbrev s_l_draw : Stmt := topS 34
abbrev N_l_draw : List Str := ["_law_rng", "_law_many", "_law_cell", "_law_got", "_law_seed"]
abbrev Ps_l_draw : List Str := ["_law_rng", "_law_many"]
theorem sc_l_draw : FnScope N_l_draw Ps_l_draw (defScope s_l_draw) := ⟨rfl, rfl, rfl, by decide +kernel, rfl, by decide +kernel, by decide +kernel⟩
abbrev s_l_choice : Stmt := topS 35
abbrev N_l_choice : List Str := ["_law_rng", "_law_some"]
abbrev Ps_l_choice : List Str := ["_law_rng", "_law_some"]
theorem sc_l_choice : FnScope N_l_choice Ps_l_choice (defScope s_l_choice) := ⟨rfl, rfl, rfl, by decide +kernel, rfl, by decide +kernel, by decide +kernel⟩
abbrev s_l_equal : Stmt := topS 36
abbrev N_l_equal : List Str := ["_law_result", "_law_expected", "_law_a", "_law_b"]
abbrev Ps_l_equal : List Str := ["_law_result", "_law_expected"]
theorem sc_l_equal : FnScope N_l_equal Ps_l_equal (defScope s_l_equal) := ⟨rfl, rfl, rfl, by decide +kernel, rfl, by decide +kernel, by decide +kernel⟩
abbrev s_l_divisor : Stmt := topS 37
abbrev N_l_divisor : List Str := ["_law_one", "_law_other"]
abbrev Ps_l_divisor : List Str := ["_law_one", "_law_other"]
theorem sc_l_divisor : FnScope N_l_divisor Ps_l_divisor (defScope s_l_divisor) := ⟨rfl, rfl, rfl, by decide +kernel, rfl, by decide +kernel, by decide +kernel⟩
abbrev s_l_reduce : Stmt := topS 38
abbrev N_l_reduce : List Str := ["_law_num", "_law_den", "_law_by", "_law_sign"]
abbrev Ps_l_reduce : List Str := ["_law_num", "_law_den"]
theorem sc_l_reduce : FnScope N_l_reduce Ps_l_reduce (defScope s_l_reduce) := ⟨rfl, rfl, rfl, by decide +kernel, rfl, by decide +kernel, by decide +kernel⟩
abbrev s_l_add : Stmt := topS 39
abbrev N_l_add : List Str := ["_law_one", "_law_other"]
abbrev Ps_l_add : List Str := ["_law_one", "_law_other"]
theorem sc_l_add : FnScope N_l_add Ps_l_add (defScope s_l_add) := ⟨rfl, rfl, rfl, by decide +kernel, rfl, by decide +kernel, by decide +kernel⟩
abbrev s_l_subtract : Stmt := topS 40
abbrev N_l_subtract : List Str := ["_law_one", "_law_other"]
abbrev Ps_l_subtract : List Str := ["_law_one", "_law_other"]
theorem sc_l_subtract : FnScope N_l_subtract Ps_l_subtract (defScope s_l_subtract) := ⟨rfl, rfl, rfl, by decide +kernel, rfl, by decide +kernel, by decide +kernel⟩
abbrev s_l_multiply : Stmt := topS 41
abbrev N_l_multiply : List Str := ["_law_one", "_law_other"]
abbrev Ps_l_multiply : List Str := ["_law_one", "_law_other"]
theorem sc_l_multiply : FnScope N_l_multiply Ps_l_multiply (defScope s_l_multiply) := ⟨rfl, rfl, rfl, by decide +kernel, rfl, by decide +kernel, by decide +kernel⟩
abbrev s_l_divide : Stmt := topS 42
abbrev N_l_divide : List Str := ["_law_one", "_law_other"]
abbrev Ps_l_divide : List Str := ["_law_one", "_law_other"]
theorem sc_l_divide : FnScope N_l_divide Ps_l_divide (defScope s_l_divide) := ⟨rfl, rfl, rfl, by decide +kernel, rfl, by decide +kernel, by decide +kernel⟩
abbrev s_l_less : Stmt := topS 43
abbrev N_l_less : List Str := ["_law_one", "_law_other"]
abbrev Ps_l_less : List Str := ["_law_one", "_law_other"]
theorem sc_l_less : FnScope N_l_less Ps_l_less (defScope s_l_less) := ⟨rfl, rfl, rfl, by decide +kernel, rfl, by decide +kernel, by decide +kernel⟩
abbrev s_l_times : Stmt := topS 44
abbrev N_l_times : List Str := ["_law_number", "_law_one"]
abbrev Ps_l_times : List Str := ["_law_number", "_law_one"]
theorem sc_l_times : FnScope N_l_times Ps_l_times (defScope s_l_times) := ⟨rfl, rfl, rfl, by decide +kernel, rfl, by decide +kernel, by decide +kernel⟩
abbrev s_l_floor : Stmt := topS 45
abbrev N_l_floor : List Str := ["_law_one"]
abbrev Ps_l_floor : List Str := ["_law_one"]
theorem sc_l_floor : FnScope N_l_floor Ps_l_floor (defScope s_l_floor) := ⟨rfl, rfl, rfl, by decide +kernel, rfl, by decide +kernel, by decide +kernel⟩
abbrev s_l_rest : Stmt := topS 46
abbrev N_l_rest : List Str := ["_law_one", "_law_period"]
abbrev Ps_l_rest : List Str := ["_law_one", "_law_period"]
theorem sc_l_rest : FnScope N_l_rest Ps_l_rest (defScope s_l_rest) := ⟨rfl, rfl, rfl, by decide +kernel, rfl, by decide +kernel, by decide +kernel⟩
abbrev s_l_small : Stmt := topS 47
abbrev N_l_small : List Str := ["_law_rng"]
abbrev Ps_l_small : List Str := ["_law_rng"]
theorem sc_l_small : FnScope N_l_small Ps_l_small (defScope s_l_small) := ⟨rfl, rfl, rfl, by decide +kernel, rfl, by decide +kernel, by decide +kernel⟩
abbrev s_l_wide : Stmt := topS 48
abbrev N_l_wide : List Str := ["_law_rng", "_law_wide_here"]
abbrev Ps_l_wide : List Str := ["_law_rng"]
theorem sc_l_wide : FnScope N_l_wide Ps_l_wide (defScope s_l_wide) := ⟨rfl, rfl, rfl, by decide +kernel, rfl, by decide +kernel, by decide +kernel⟩
abbrev s_l_parts : Stmt := topS 49
abbrev N_l_parts : List Str := ["_law_rng", "_law_low", "_law_great"]
abbrev Ps_l_parts : List Str := ["_law_rng", "_law_low", "_law_great"]
theorem sc_l_parts : FnScope N_l_parts Ps_l_parts (defScope s_l_parts) := ⟨rfl, rfl, rfl, by decide +kernel, rfl, by decide +kernel, by decide +kernel⟩
abbrev s_l_gate : Stmt := topS 50
abbrev N_l_gate : List Str := ["_law_rng", "_law_place", "_law_most", "_law_many", "_law_by", "_law_spot", "_law_spans", "_law_k", "_law_length", "_law_period", "_law_delay", "_law_rows", "_law_begin"]
abbrev Ps_l_gate : List Str := ["_law_rng", "_law_place", "_law_most"]
theorem sc_l_gate : FnScope N_l_gate Ps_l_gate (defScope s_l_gate) := ⟨rfl, rfl, rfl, by decide +kernel, rfl, by decide +kernel, by decide +kernel⟩
abbrev s_l_copied_gate : Stmt := topS 51
abbrev N_l_copied_gate : List Str := ["_law_rng", "_law_gate_here", "_law_copies", "_law_place", "_law_period", "_law_spans", "_law_rows", "_law_k", "_law_begin", "_law_length"]
abbrev Ps_l_copied_gate : List Str := ["_law_rng", "_law_gate_here"]
theorem sc_l_copied_gate : FnScope N_l_copied_gate Ps_l_copied_gate (defScope s_l_copied_gate) := ⟨rfl, rfl, rfl, by decide +kernel, rfl, by decide +kernel, by decide +kernel⟩
abbrev s_l_shut_by : Stmt := topS 52
abbrev N_l_shut_by : List Str := ["_law_gate_here", "_law_moment", "_law_place", "_law_period", "_law_spans", "_law_k", "_law_begin", "_law_length", "_law_late"]
abbrev Ps_l_shut_by : List Str := ["_law_gate_here", "_law_moment"]
theorem sc_l_shut_by : FnScope N_l_shut_by Ps_l_shut_by (defScope s_l_shut_by) := ⟨rfl, rfl, rfl, by decide +kernel, rfl, by decide +kernel, by decide +kernel⟩
abbrev s_l_is_open : Stmt := topS 53
abbrev N_l_is_open : List Str := ["_law_gate_here", "_law_moment"]
abbrev Ps_l_is_open : List Str := ["_law_gate_here", "_law_moment"]
theorem sc_l_is_open : FnScope N_l_is_open Ps_l_is_open (defScope s_l_is_open) := ⟨rfl, rfl, rfl, by decide +kernel, rfl, by decide +kernel, by decide +kernel⟩
abbrev s_l_normal : Stmt := topS 54
abbrev N_l_normal : List Str := ["_law_gate_here", "_law_place", "_law_period", "_law_spans", "_law_part", "_law_shift", "_law_later", "_law_begin", "_law_length", "_law_span"]
abbrev Ps_l_normal : List Str := ["_law_gate_here"]
theorem sc_l_normal : FnScope N_l_normal Ps_l_normal (defScope s_l_normal) := ⟨rfl, rfl, rfl, by decide +kernel, rfl, by decide +kernel, by decide +kernel⟩
abbrev s_l_window : Stmt := topS 55
abbrev N_l_window : List Str := ["_law_gate_here", "_law_number", "_law_place", "_law_period", "_law_spans", "_law_turn", "_law_k", "_law_end", "_law_shift"]
abbrev Ps_l_window : List Str := ["_law_gate_here", "_law_number"]
theorem sc_l_window : FnScope N_l_window Ps_l_window (defScope s_l_window) := ⟨rfl, rfl, rfl, by decide +kernel, rfl, by decide +kernel, by decide +kernel⟩
abbrev s_l_near_moment : Stmt := topS 56
abbrev N_l_near_moment : List Str := ["_law_rng", "_law_gate_here", "_law_shift", "_law_begin", "_law_length", "_law_spot"]
abbrev Ps_l_near_moment : List Str := ["_law_rng", "_law_gate_here"]
theorem sc_l_near_moment : FnScope N_l_near_moment Ps_l_near_moment (defScope s_l_near_moment) := ⟨rfl, rfl, rfl, by decide +kernel, rfl, by decide +kernel, by decide +kernel⟩
abbrev s_law : Stmt := topS 57
abbrev N_law : List Str := ["_law_script", "_law_rng", "_law_turn", "_law_gate_here", "_law_normal_here", "_law_far", "_law_number", "_law_begin", "_law_end", "_law_later", "_law_middle", "_law_spots", "_law_shut", "_law_moment"]
abbrev Ps_law : List Str := ["_law_script"]
theorem sc_law : FnScope N_law Ps_law (defScope s_law) := ⟨rfl, rfl, rfl, by decide +kernel, rfl, by decide +kernel, by decide +kernel⟩
structure DefT (K : PySem.W.Frag) (mg : Str → Option Value) (n : Str) (s : Stmt) (ps : List Str) where
  f : Addr
  d : FuncData
  F : Fun K n n s f d
  b : Binds K d ps []
  g : mg n = some (.ref f)
set_option maxHeartbeats 8000000 in
structure Txt (K : PySem.W.Frag) (mg : Str → Option Value) where
  k_ZERO : Addr
  gk_ZERO : mg "ZERO" = some (.ref k_ZERO)
  sk_ZERO : ∀ H, SqT K H k_ZERO [.int 0, .int 1]
  k_ONE : Addr
  gk_ONE : mg "ONE" = some (.ref k_ONE)
  sk_ONE : ∀ H, SqT K H k_ONE [.int 1, .int 1]
  tk_MAX_SPANS : Tok
  gk_MAX_SPANS : mg "MAX_SPANS" = some (.int 6 tk_MAX_SPANS)
  D_gcd : DefT K mg "gcd" s_gcd Ps_gcd
  f_fraction : Addr
  d_fraction : FuncData
  F_fraction : FunD K "fraction" "fraction" (defArgs s_fraction) (defBody s_fraction) (defScope s_fraction) [.int 1] [] f_fraction d_fraction
  b_fraction : Binds K d_fraction ["num", "den"] []
  g_fraction : mg "fraction" = some (.ref f_fraction)
  D_add : DefT K mg "add" s_add Ps_add
  D_subtract : DefT K mg "subtract" s_subtract Ps_subtract
  D_multiply : DefT K mg "multiply" s_multiply Ps_multiply
  D_divide : DefT K mg "divide" s_divide Ps_divide
  D_is_less : DefT K mg "is_less" s_is_less Ps_is_less
  D_floor_of : DefT K mg "floor_of" s_floor_of Ps_floor_of
  D_remainder : DefT K mg "remainder" s_remainder Ps_remainder
  D_span_ends : DefT K mg "span_ends" s_span_ends Ps_span_ends
  D_next_begins : DefT K mg "next_begins" s_next_begins Ps_next_begins
  D_fits : DefT K mg "fits" s_fits Ps_fits
  D_is_gate : DefT K mg "is_gate" s_is_gate Ps_is_gate
  D_repeats : DefT K mg "repeats" s_repeats Ps_repeats
  D_least_form : DefT K mg "least_form" s_least_form Ps_least_form
  D_normal_gate : DefT K mg "normal_gate" s_normal_gate Ps_normal_gate
  D_shut_until : DefT K mg "shut_until" s_shut_until Ps_shut_until
  D_is_open : DefT K mg "is_open" s_is_open Ps_is_open
  D_first_windows : DefT K mg "first_windows" s_first_windows Ps_first_windows
  D_periods_later : DefT K mg "periods_later" s_periods_later Ps_periods_later
  D_window : DefT K mg "window" s_window Ps_window
  D_window_at : DefT K mg "window_at" s_window_at Ps_window_at
  D_l_source : DefT K mg "_law_source" s_l_source Ps_l_source
  D_l_draw : DefT K mg "_law_draw" s_l_draw Ps_l_draw
  D_l_choice : DefT K mg "_law_choice" s_l_choice Ps_l_choice
  D_l_equal : DefT K mg "_law_equal" s_l_equal Ps_l_equal
  D_l_divisor : DefT K mg "_law_divisor" s_l_divisor Ps_l_divisor
  D_l_reduce : DefT K mg "_law_reduce" s_l_reduce Ps_l_reduce
  D_l_add : DefT K mg "_law_add" s_l_add Ps_l_add
  D_l_subtract : DefT K mg "_law_subtract" s_l_subtract Ps_l_subtract
  D_l_multiply : DefT K mg "_law_multiply" s_l_multiply Ps_l_multiply
  D_l_divide : DefT K mg "_law_divide" s_l_divide Ps_l_divide
  D_l_less : DefT K mg "_law_less" s_l_less Ps_l_less
  D_l_times : DefT K mg "_law_times" s_l_times Ps_l_times
  D_l_floor : DefT K mg "_law_floor" s_l_floor Ps_l_floor
  D_l_rest : DefT K mg "_law_rest" s_l_rest Ps_l_rest
  D_l_small : DefT K mg "_law_small" s_l_small Ps_l_small
  D_l_wide : DefT K mg "_law_wide" s_l_wide Ps_l_wide
  D_l_parts : DefT K mg "_law_parts" s_l_parts Ps_l_parts
  D_l_gate : DefT K mg "_law_gate" s_l_gate Ps_l_gate
  D_l_copied_gate : DefT K mg "_law_copied_gate" s_l_copied_gate Ps_l_copied_gate
  D_l_shut_by : DefT K mg "_law_shut_by" s_l_shut_by Ps_l_shut_by
  D_l_is_open : DefT K mg "_law_is_open" s_l_is_open Ps_l_is_open
  D_l_normal : DefT K mg "_law_normal" s_l_normal Ps_l_normal
  D_l_window : DefT K mg "_law_window" s_l_window Ps_l_window
  D_l_near_moment : DefT K mg "_law_near_moment" s_l_near_moment Ps_l_near_moment
  D_law : DefT K mg "law" s_law Ps_law
  m_abs : mg "abs" = none
  m_len : mg "len" = none
  m_all : mg "all" = none
  m_any : mg "any" = none
  m_zip : mg "zip" = none
  m_list : mg "list" = none
  m_range : mg "range" = none
  m_tuple : mg "tuple" = none
  m_divmod : mg "divmod" = none
  m_enumerate : mg "enumerate" = none
  m_isinstance : mg "isinstance" = none
  m_bool : mg "bool" = none
  m_int : mg "int" = none
  m_str : mg "str" = none
  m_sorted : mg "sorted" = none
abbrev Txt.f_gcd {K : PySem.W.Frag} {mg : Str → Option Value} (T : Txt K mg) := T.D_gcd.f
abbrev Txt.d_gcd {K : PySem.W.Frag} {mg : Str → Option Value} (T : Txt K mg) := T.D_gcd.d
abbrev Txt.F_gcd {K : PySem.W.Frag} {mg : Str → Option Value} (T : Txt K mg) := T.D_gcd.F
abbrev Txt.b_gcd {K : PySem.W.Frag} {mg : Str → Option Value} (T : Txt K mg) := T.D_gcd.b
abbrev Txt.g_gcd {K : PySem.W.Frag} {mg : Str → Option Value} (T : Txt K mg) := T.D_gcd.g
abbrev Txt.f_add {K : PySem.W.Frag} {mg : Str → Option Value} (T : Txt K mg) := T.D_add.f
abbrev Txt.d_add {K : PySem.W.Frag} {mg : Str → Option Value} (T : Txt K mg) := T.D_add.d
abbrev Txt.F_add {K : PySem.W.Frag} {mg : Str → Option Value} (T : Txt K mg) := T.D_add.F
abbrev Txt.b_add {K : PySem.W.Frag} {mg : Str → Option Value} (T : Txt K mg) := T.D_add.b
abbrev Txt.g_add {K : PySem.W.Frag} {mg : Str → Option Value} (T : Txt K mg) := T.D_add.g
abbrev Txt.f_subtract {K : PySem.W.Frag} {mg : Str → Option Value} (T : Txt K mg) := T.D_subtract.f
abbrev Txt.d_subtract {K : PySem.W.Frag} {mg : Str → Option Value} (T : Txt K mg) := T.D_subtract.d
abbrev Txt.F_subtract {K : PySem.W.Frag} {mg : Str → Option Value} (T : Txt K mg) := T.D_subtract.F
abbrev Txt.b_subtract {K : PySem.W.Frag} {mg : Str → Option Value} (T : Txt K mg) := T.D_subtract.b
abbrev Txt.g_subtract {K : PySem.W.Frag} {mg : Str → Option Value} (T : Txt K mg) := T.D_subtract.g
abbrev Txt.f_multiply {K : PySem.W.Frag} {mg : Str → Option Value} (T : Txt K mg) := T.D_multiply.f
abbrev Txt.d_multiply {K : PySem.W.Frag} {mg : Str → Option Value} (T : Txt K mg) := T.D_multiply.d
abbrev Txt.F_multiply {K : PySem.W.Frag} {mg : Str → Option Value} (T : Txt K mg) := T.D_multiply.F
abbrev Txt.b_multiply {K : PySem.W.Frag} {mg : Str → Option Value} (T : Txt K mg) := T.D_multiply.b
abbrev Txt.g_multiply {K : PySem.W.Frag} {mg : Str → Option Value} (T : Txt K mg) := T.D_multiply.g
abbrev Txt.f_divide {K : PySem.W.Frag} {mg : Str → Option Value} (T : Txt K mg) := T.D_divide.f
abbrev Txt.d_divide {K : PySem.W.Frag} {mg : Str → Option Value} (T : Txt K mg) := T.D_divide.d
abbrev Txt.F_divide {K : PySem.W.Frag} {mg : Str → Option Value} (T : Txt K mg) := T.D_divide.F
abbrev Txt.b_divide {K : PySem.W.Frag} {mg : Str → Option Value} (T : Txt K mg) := T.D_divide.b
abbrev Txt.g_divide {K : PySem.W.Frag} {mg : Str → Option Value} (T : Txt K mg) := T.D_divide.g
abbrev Txt.f_is_less {K : PySem.W.Frag} {mg : Str → Option Value} (T : Txt K mg) := T.D_is_less.f
abbrev Txt.d_is_less {K : PySem.W.Frag} {mg : Str → Option Value} (T : Txt K mg) := T.D_is_less.d
abbrev Txt.F_is_less {K : PySem.W.Frag} {mg : Str → Option Value} (T : Txt K mg) := T.D_is_less.F
abbrev Txt.b_is_less {K : PySem.W.Frag} {mg : Str → Option Value} (T : Txt K mg) := T.D_is_less.b
abbrev Txt.g_is_less {K : PySem.W.Frag} {mg : Str → Option Value} (T : Txt K mg) := T.D_is_less.g
abbrev Txt.f_floor_of {K : PySem.W.Frag} {mg : Str → Option Value} (T : Txt K mg) := T.D_floor_of.f
abbrev Txt.d_floor_of {K : PySem.W.Frag} {mg : Str → Option Value} (T : Txt K mg) := T.D_floor_of.d
abbrev Txt.F_floor_of {K : PySem.W.Frag} {mg : Str → Option Value} (T : Txt K mg) := T.D_floor_of.F
abbrev Txt.b_floor_of {K : PySem.W.Frag} {mg : Str → Option Value} (T : Txt K mg) := T.D_floor_of.b
abbrev Txt.g_floor_of {K : PySem.W.Frag} {mg : Str → Option Value} (T : Txt K mg) := T.D_floor_of.g
abbrev Txt.f_remainder {K : PySem.W.Frag} {mg : Str → Option Value} (T : Txt K mg) := T.D_remainder.f
abbrev Txt.d_remainder {K : PySem.W.Frag} {mg : Str → Option Value} (T : Txt K mg) := T.D_remainder.d
abbrev Txt.F_remainder {K : PySem.W.Frag} {mg : Str → Option Value} (T : Txt K mg) := T.D_remainder.F
abbrev Txt.b_remainder {K : PySem.W.Frag} {mg : Str → Option Value} (T : Txt K mg) := T.D_remainder.b
abbrev Txt.g_remainder {K : PySem.W.Frag} {mg : Str → Option Value} (T : Txt K mg) := T.D_remainder.g
abbrev Txt.f_span_ends {K : PySem.W.Frag} {mg : Str → Option Value} (T : Txt K mg) := T.D_span_ends.f
abbrev Txt.d_span_ends {K : PySem.W.Frag} {mg : Str → Option Value} (T : Txt K mg) := T.D_span_ends.d
abbrev Txt.F_span_ends {K : PySem.W.Frag} {mg : Str → Option Value} (T : Txt K mg) := T.D_span_ends.F
abbrev Txt.b_span_ends {K : PySem.W.Frag} {mg : Str → Option Value} (T : Txt K mg) := T.D_span_ends.b
abbrev Txt.g_span_ends {K : PySem.W.Frag} {mg : Str → Option Value} (T : Txt K mg) := T.D_span_ends.g
abbrev Txt.f_next_begins {K : PySem.W.Frag} {mg : Str → Option Value} (T : Txt K mg) := T.D_next_begins.f
abbrev Txt.d_next_begins {K : PySem.W.Frag} {mg : Str → Option Value} (T : Txt K mg) := T.D_next_begins.d
abbrev Txt.F_next_begins {K : PySem.W.Frag} {mg : Str → Option Value} (T : Txt K mg) := T.D_next_begins.F
abbrev Txt.b_next_begins {K : PySem.W.Frag} {mg : Str → Option Value} (T : Txt K mg) := T.D_next_begins.b
abbrev Txt.g_next_begins {K : PySem.W.Frag} {mg : Str → Option Value} (T : Txt K mg) := T.D_next_begins.g
abbrev Txt.f_fits {K : PySem.W.Frag} {mg : Str → Option Value} (T : Txt K mg) := T.D_fits.f
abbrev Txt.d_fits {K : PySem.W.Frag} {mg : Str → Option Value} (T : Txt K mg) := T.D_fits.d
abbrev Txt.F_fits {K : PySem.W.Frag} {mg : Str → Option Value} (T : Txt K mg) := T.D_fits.F
abbrev Txt.b_fits {K : PySem.W.Frag} {mg : Str → Option Value} (T : Txt K mg) := T.D_fits.b
abbrev Txt.g_fits {K : PySem.W.Frag} {mg : Str → Option Value} (T : Txt K mg) := T.D_fits.g
abbrev Txt.f_is_gate {K : PySem.W.Frag} {mg : Str → Option Value} (T : Txt K mg) := T.D_is_gate.f
abbrev Txt.d_is_gate {K : PySem.W.Frag} {mg : Str → Option Value} (T : Txt K mg) := T.D_is_gate.d
abbrev Txt.F_is_gate {K : PySem.W.Frag} {mg : Str → Option Value} (T : Txt K mg) := T.D_is_gate.F
abbrev Txt.b_is_gate {K : PySem.W.Frag} {mg : Str → Option Value} (T : Txt K mg) := T.D_is_gate.b
abbrev Txt.g_is_gate {K : PySem.W.Frag} {mg : Str → Option Value} (T : Txt K mg) := T.D_is_gate.g
abbrev Txt.f_repeats {K : PySem.W.Frag} {mg : Str → Option Value} (T : Txt K mg) := T.D_repeats.f
abbrev Txt.d_repeats {K : PySem.W.Frag} {mg : Str → Option Value} (T : Txt K mg) := T.D_repeats.d
abbrev Txt.F_repeats {K : PySem.W.Frag} {mg : Str → Option Value} (T : Txt K mg) := T.D_repeats.F
abbrev Txt.b_repeats {K : PySem.W.Frag} {mg : Str → Option Value} (T : Txt K mg) := T.D_repeats.b
abbrev Txt.g_repeats {K : PySem.W.Frag} {mg : Str → Option Value} (T : Txt K mg) := T.D_repeats.g
abbrev Txt.f_least_form {K : PySem.W.Frag} {mg : Str → Option Value} (T : Txt K mg) := T.D_least_form.f
abbrev Txt.d_least_form {K : PySem.W.Frag} {mg : Str → Option Value} (T : Txt K mg) := T.D_least_form.d
abbrev Txt.F_least_form {K : PySem.W.Frag} {mg : Str → Option Value} (T : Txt K mg) := T.D_least_form.F
abbrev Txt.b_least_form {K : PySem.W.Frag} {mg : Str → Option Value} (T : Txt K mg) := T.D_least_form.b
abbrev Txt.g_least_form {K : PySem.W.Frag} {mg : Str → Option Value} (T : Txt K mg) := T.D_least_form.g
abbrev Txt.f_normal_gate {K : PySem.W.Frag} {mg : Str → Option Value} (T : Txt K mg) := T.D_normal_gate.f
abbrev Txt.d_normal_gate {K : PySem.W.Frag} {mg : Str → Option Value} (T : Txt K mg) := T.D_normal_gate.d
abbrev Txt.F_normal_gate {K : PySem.W.Frag} {mg : Str → Option Value} (T : Txt K mg) := T.D_normal_gate.F
abbrev Txt.b_normal_gate {K : PySem.W.Frag} {mg : Str → Option Value} (T : Txt K mg) := T.D_normal_gate.b
abbrev Txt.g_normal_gate {K : PySem.W.Frag} {mg : Str → Option Value} (T : Txt K mg) := T.D_normal_gate.g
abbrev Txt.f_shut_until {K : PySem.W.Frag} {mg : Str → Option Value} (T : Txt K mg) := T.D_shut_until.f
abbrev Txt.d_shut_until {K : PySem.W.Frag} {mg : Str → Option Value} (T : Txt K mg) := T.D_shut_until.d
abbrev Txt.F_shut_until {K : PySem.W.Frag} {mg : Str → Option Value} (T : Txt K mg) := T.D_shut_until.F
abbrev Txt.b_shut_until {K : PySem.W.Frag} {mg : Str → Option Value} (T : Txt K mg) := T.D_shut_until.b
abbrev Txt.g_shut_until {K : PySem.W.Frag} {mg : Str → Option Value} (T : Txt K mg) := T.D_shut_until.g
abbrev Txt.f_is_open {K : PySem.W.Frag} {mg : Str → Option Value} (T : Txt K mg) := T.D_is_open.f
abbrev Txt.d_is_open {K : PySem.W.Frag} {mg : Str → Option Value} (T : Txt K mg) := T.D_is_open.d
abbrev Txt.F_is_open {K : PySem.W.Frag} {mg : Str → Option Value} (T : Txt K mg) := T.D_is_open.F
abbrev Txt.b_is_open {K : PySem.W.Frag} {mg : Str → Option Value} (T : Txt K mg) := T.D_is_open.b
abbrev Txt.g_is_open {K : PySem.W.Frag} {mg : Str → Option Value} (T : Txt K mg) := T.D_is_open.g
abbrev Txt.f_first_windows {K : PySem.W.Frag} {mg : Str → Option Value} (T : Txt K mg) := T.D_first_windows.f
abbrev Txt.d_first_windows {K : PySem.W.Frag} {mg : Str → Option Value} (T : Txt K mg) := T.D_first_windows.d
abbrev Txt.F_first_windows {K : PySem.W.Frag} {mg : Str → Option Value} (T : Txt K mg) := T.D_first_windows.F
abbrev Txt.b_first_windows {K : PySem.W.Frag} {mg : Str → Option Value} (T : Txt K mg) := T.D_first_windows.b
abbrev Txt.g_first_windows {K : PySem.W.Frag} {mg : Str → Option Value} (T : Txt K mg) := T.D_first_windows.g
abbrev Txt.f_periods_later {K : PySem.W.Frag} {mg : Str → Option Value} (T : Txt K mg) := T.D_periods_later.f
abbrev Txt.d_periods_later {K : PySem.W.Frag} {mg : Str → Option Value} (T : Txt K mg) := T.D_periods_later.d
abbrev Txt.F_periods_later {K : PySem.W.Frag} {mg : Str → Option Value} (T : Txt K mg) := T.D_periods_later.F
abbrev Txt.b_periods_later {K : PySem.W.Frag} {mg : Str → Option Value} (T : Txt K mg) := T.D_periods_later.b
abbrev Txt.g_periods_later {K : PySem.W.Frag} {mg : Str → Option Value} (T : Txt K mg) := T.D_periods_later.g
abbrev Txt.f_window {K : PySem.W.Frag} {mg : Str → Option Value} (T : Txt K mg) := T.D_window.f
abbrev Txt.d_window {K : PySem.W.Frag} {mg : Str → Option Value} (T : Txt K mg) := T.D_window.d
abbrev Txt.F_window {K : PySem.W.Frag} {mg : Str → Option Value} (T : Txt K mg) := T.D_window.F
abbrev Txt.b_window {K : PySem.W.Frag} {mg : Str → Option Value} (T : Txt K mg) := T.D_window.b
abbrev Txt.g_window {K : PySem.W.Frag} {mg : Str → Option Value} (T : Txt K mg) := T.D_window.g
abbrev Txt.f_window_at {K : PySem.W.Frag} {mg : Str → Option Value} (T : Txt K mg) := T.D_window_at.f
abbrev Txt.d_window_at {K : PySem.W.Frag} {mg : Str → Option Value} (T : Txt K mg) := T.D_window_at.d
abbrev Txt.F_window_at {K : PySem.W.Frag} {mg : Str → Option Value} (T : Txt K mg) := T.D_window_at.F
abbrev Txt.b_window_at {K : PySem.W.Frag} {mg : Str → Option Value} (T : Txt K mg) := T.D_window_at.b
abbrev Txt.g_window_at {K : PySem.W.Frag} {mg : Str → Option Value} (T : Txt K mg) := T.D_window_at.g
abbrev Txt.f_l_source {K : PySem.W.Frag} {mg : Str → Option Value} (T : Txt K mg) := T.D_l_source.f
abbrev Txt.d_l_source {K : PySem.W.Frag} {mg : Str → Option Value} (T : Txt K mg) := T.D_l_source.d
abbrev Txt.F_l_source {K : PySem.W.Frag} {mg : Str → Option Value} (T : Txt K mg) := T.D_l_source.F
abbrev Txt.b_l_source {K : PySem.W.Frag} {mg : Str → Option Value} (T : Txt K mg) := T.D_l_source.b
abbrev Txt.g_l_source {K : PySem.W.Frag} {mg : Str → Option Value} (T : Txt K mg) := T.D_l_source.g
abbrev Txt.f_l_draw {K : PySem.W.Frag} {mg : Str → Option Value} (T : Txt K mg) := T.D_l_draw.f
abbrev Txt.d_l_draw {K : PySem.W.Frag} {mg : Str → Option Value} (T : Txt K mg) := T.D_l_draw.d
abbrev Txt.F_l_draw {K : PySem.W.Frag} {mg : Str → Option Value} (T : Txt K mg) := T.D_l_draw.F
abbrev Txt.b_l_draw {K : PySem.W.Frag} {mg : Str → Option Value} (T : Txt K mg) := T.D_l_draw.b
abbrev Txt.g_l_draw {K : PySem.W.Frag} {mg : Str → Option Value} (T : Txt K mg) := T.D_l_draw.g
abbrev Txt.f_l_choice {K : PySem.W.Frag} {mg : Str → Option Value} (T : Txt K mg) := T.D_l_choice.f
abbrev Txt.d_l_choice {K : PySem.W.Frag} {mg : Str → Option Value} (T : Txt K mg) := T.D_l_choice.d
abbrev Txt.F_l_choice {K : PySem.W.Frag} {mg : Str → Option Value} (T : Txt K mg) := T.D_l_choice.F
abbrev Txt.b_l_choice {K : PySem.W.Frag} {mg : Str → Option Value} (T : Txt K mg) := T.D_l_choice.b
abbrev Txt.g_l_choice {K : PySem.W.Frag} {mg : Str → Option Value} (T : Txt K mg) := T.D_l_choice.g
abbrev Txt.f_l_equal {K : PySem.W.Frag} {mg : Str → Option Value} (T : Txt K mg) := T.D_l_equal.f
abbrev Txt.d_l_equal {K : PySem.W.Frag} {mg : Str → Option Value} (T : Txt K mg) := T.D_l_equal.d
abbrev Txt.F_l_equal {K : PySem.W.Frag} {mg : Str → Option Value} (T : Txt K mg) := T.D_l_equal.F
abbrev Txt.b_l_equal {K : PySem.W.Frag} {mg : Str → Option Value} (T : Txt K mg) := T.D_l_equal.b
abbrev Txt.g_l_equal {K : PySem.W.Frag} {mg : Str → Option Value} (T : Txt K mg) := T.D_l_equal.g
abbrev Txt.f_l_divisor {K : PySem.W.Frag} {mg : Str → Option Value} (T : Txt K mg) := T.D_l_divisor.f
abbrev Txt.d_l_divisor {K : PySem.W.Frag} {mg : Str → Option Value} (T : Txt K mg) := T.D_l_divisor.d
abbrev Txt.F_l_divisor {K : PySem.W.Frag} {mg : Str → Option Value} (T : Txt K mg) := T.D_l_divisor.F
abbrev Txt.b_l_divisor {K : PySem.W.Frag} {mg : Str → Option Value} (T : Txt K mg) := T.D_l_divisor.b
abbrev Txt.g_l_divisor {K : PySem.W.Frag} {mg : Str → Option Value} (T : Txt K mg) := T.D_l_divisor.g
abbrev Txt.f_l_reduce {K : PySem.W.Frag} {mg : Str → Option Value} (T : Txt K mg) := T.D_l_reduce.f
abbrev Txt.d_l_reduce {K : PySem.W.Frag} {mg : Str → Option Value} (T : Txt K mg) := T.D_l_reduce.d
abbrev Txt.F_l_reduce {K : PySem.W.Frag} {mg : Str → Option Value} (T : Txt K mg) := T.D_l_reduce.F
abbrev Txt.b_l_reduce {K : PySem.W.Frag} {mg : Str → Option Value} (T : Txt K mg) := T.D_l_reduce.b
abbrev Txt.g_l_reduce {K : PySem.W.Frag} {mg : Str → Option Value} (T : Txt K mg) := T.D_l_reduce.g
abbrev Txt.f_l_add {K : PySem.W.Frag} {mg : Str → Option Value} (T : Txt K mg) := T.D_l_add.f
abbrev Txt.d_l_add {K : PySem.W.Frag} {mg : Str → Option Value} (T : Txt K mg) := T.D_l_add.d
abbrev Txt.F_l_add {K : PySem.W.Frag} {mg : Str → Option Value} (T : Txt K mg) := T.D_l_add.F
abbrev Txt.b_l_add {K : PySem.W.Frag} {mg : Str → Option Value} (T : Txt K mg) := T.D_l_add.b
abbrev Txt.g_l_add {K : PySem.W.Frag} {mg : Str → Option Value} (T : Txt K mg) := T.D_l_add.g
abbrev Txt.f_l_subtract {K : PySem.W.Frag} {mg : Str → Option Value} (T : Txt K mg) := T.D_l_subtract.f
abbrev Txt.d_l_subtract {K : PySem.W.Frag} {mg : Str → Option Value} (T : Txt K mg) := T.D_l_subtract.d
abbrev Txt.F_l_subtract {K : PySem.W.Frag} {mg : Str → Option Value} (T : Txt K mg) := T.D_l_subtract.F
abbrev Txt.b_l_subtract {K : PySem.W.Frag} {mg : Str → Option Value} (T : Txt K mg) := T.D_l_subtract.b
abbrev Txt.g_l_subtract {K : PySem.W.Frag} {mg : Str → Option Value} (T : Txt K mg) := T.D_l_subtract.g
abbrev Txt.f_l_multiply {K : PySem.W.Frag} {mg : Str → Option Value} (T : Txt K mg) := T.D_l_multiply.f
abbrev Txt.d_l_multiply {K : PySem.W.Frag} {mg : Str → Option Value} (T : Txt K mg) := T.D_l_multiply.d
abbrev Txt.F_l_multiply {K : PySem.W.Frag} {mg : Str → Option Value} (T : Txt K mg) := T.D_l_multiply.F
abbrev Txt.b_l_multiply {K : PySem.W.Frag} {mg : Str → Option Value} (T : Txt K mg) := T.D_l_multiply.b
abbrev Txt.g_l_multiply {K : PySem.W.Frag} {mg : Str → Option Value} (T : Txt K mg) := T.D_l_multiply.g
abbrev Txt.f_l_divide {K : PySem.W.Frag} {mg : Str → Option Value} (T : Txt K mg) := T.D_l_divide.f
abbrev Txt.d_l_divide {K : PySem.W.Frag} {mg : Str → Option Value} (T : Txt K mg) := T.D_l_divide.d
abbrev Txt.F_l_divide {K : PySem.W.Frag} {mg : Str → Option Value} (T : Txt K mg) := T.D_l_divide.F
abbrev Txt.b_l_divide {K : PySem.W.Frag} {mg : Str → Option Value} (T : Txt K mg) := T.D_l_divide.b
abbrev Txt.g_l_divide {K : PySem.W.Frag} {mg : Str → Option Value} (T : Txt K mg) := T.D_l_divide.g
abbrev Txt.f_l_less {K : PySem.W.Frag} {mg : Str → Option Value} (T : Txt K mg) := T.D_l_less.f
abbrev Txt.d_l_less {K : PySem.W.Frag} {mg : Str → Option Value} (T : Txt K mg) := T.D_l_less.d
abbrev Txt.F_l_less {K : PySem.W.Frag} {mg : Str → Option Value} (T : Txt K mg) := T.D_l_less.F
abbrev Txt.b_l_less {K : PySem.W.Frag} {mg : Str → Option Value} (T : Txt K mg) := T.D_l_less.b
abbrev Txt.g_l_less {K : PySem.W.Frag} {mg : Str → Option Value} (T : Txt K mg) := T.D_l_less.g
abbrev Txt.f_l_times {K : PySem.W.Frag} {mg : Str → Option Value} (T : Txt K mg) := T.D_l_times.f
abbrev Txt.d_l_times {K : PySem.W.Frag} {mg : Str → Option Value} (T : Txt K mg) := T.D_l_times.d
abbrev Txt.F_l_times {K : PySem.W.Frag} {mg : Str → Option Value} (T : Txt K mg) := T.D_l_times.F
abbrev Txt.b_l_times {K : PySem.W.Frag} {mg : Str → Option Value} (T : Txt K mg) := T.D_l_times.b
abbrev Txt.g_l_times {K : PySem.W.Frag} {mg : Str → Option Value} (T : Txt K mg) := T.D_l_times.g
abbrev Txt.f_l_floor {K : PySem.W.Frag} {mg : Str → Option Value} (T : Txt K mg) := T.D_l_floor.f
abbrev Txt.d_l_floor {K : PySem.W.Frag} {mg : Str → Option Value} (T : Txt K mg) := T.D_l_floor.d
abbrev Txt.F_l_floor {K : PySem.W.Frag} {mg : Str → Option Value} (T : Txt K mg) := T.D_l_floor.F
abbrev Txt.b_l_floor {K : PySem.W.Frag} {mg : Str → Option Value} (T : Txt K mg) := T.D_l_floor.b
abbrev Txt.g_l_floor {K : PySem.W.Frag} {mg : Str → Option Value} (T : Txt K mg) := T.D_l_floor.g
abbrev Txt.f_l_rest {K : PySem.W.Frag} {mg : Str → Option Value} (T : Txt K mg) := T.D_l_rest.f
abbrev Txt.d_l_rest {K : PySem.W.Frag} {mg : Str → Option Value} (T : Txt K mg) := T.D_l_rest.d
abbrev Txt.F_l_rest {K : PySem.W.Frag} {mg : Str → Option Value} (T : Txt K mg) := T.D_l_rest.F
abbrev Txt.b_l_rest {K : PySem.W.Frag} {mg : Str → Option Value} (T : Txt K mg) := T.D_l_rest.b
abbrev Txt.g_l_rest {K : PySem.W.Frag} {mg : Str → Option Value} (T : Txt K mg) := T.D_l_rest.g
abbrev Txt.f_l_small {K : PySem.W.Frag} {mg : Str → Option Value} (T : Txt K mg) := T.D_l_small.f
abbrev Txt.d_l_small {K : PySem.W.Frag} {mg : Str → Option Value} (T : Txt K mg) := T.D_l_small.d
abbrev Txt.F_l_small {K : PySem.W.Frag} {mg : Str → Option Value} (T : Txt K mg) := T.D_l_small.F
abbrev Txt.b_l_small {K : PySem.W.Frag} {mg : Str → Option Value} (T : Txt K mg) := T.D_l_small.b
abbrev Txt.g_l_small {K : PySem.W.Frag} {mg : Str → Option Value} (T : Txt K mg) := T.D_l_small.g
abbrev Txt.f_l_wide {K : PySem.W.Frag} {mg : Str → Option Value} (T : Txt K mg) := T.D_l_wide.f
abbrev Txt.d_l_wide {K : PySem.W.Frag} {mg : Str → Option Value} (T : Txt K mg) := T.D_l_wide.d
abbrev Txt.F_l_wide {K : PySem.W.Frag} {mg : Str → Option Value} (T : Txt K mg) := T.D_l_wide.F
abbrev Txt.b_l_wide {K : PySem.W.Frag} {mg : Str → Option Value} (T : Txt K mg) := T.D_l_wide.b
abbrev Txt.g_l_wide {K : PySem.W.Frag} {mg : Str → Option Value} (T : Txt K mg) := T.D_l_wide.g
abbrev Txt.f_l_parts {K : PySem.W.Frag} {mg : Str → Option Value} (T : Txt K mg) := T.D_l_parts.f
abbrev Txt.d_l_parts {K : PySem.W.Frag} {mg : Str → Option Value} (T : Txt K mg) := T.D_l_parts.d
abbrev Txt.F_l_parts {K : PySem.W.Frag} {mg : Str → Option Value} (T : Txt K mg) := T.D_l_parts.F
abbrev Txt.b_l_parts {K : PySem.W.Frag} {mg : Str → Option Value} (T : Txt K mg) := T.D_l_parts.b
abbrev Txt.g_l_parts {K : PySem.W.Frag} {mg : Str → Option Value} (T : Txt K mg) := T.D_l_parts.g
abbrev Txt.f_l_gate {K : PySem.W.Frag} {mg : Str → Option Value} (T : Txt K mg) := T.D_l_gate.f
abbrev Txt.d_l_gate {K : PySem.W.Frag} {mg : Str → Option Value} (T : Txt K mg) := T.D_l_gate.d
abbrev Txt.F_l_gate {K : PySem.W.Frag} {mg : Str → Option Value} (T : Txt K mg) := T.D_l_gate.F
abbrev Txt.b_l_gate {K : PySem.W.Frag} {mg : Str → Option Value} (T : Txt K mg) := T.D_l_gate.b
abbrev Txt.g_l_gate {K : PySem.W.Frag} {mg : Str → Option Value} (T : Txt K mg) := T.D_l_gate.g
abbrev Txt.f_l_copied_gate {K : PySem.W.Frag} {mg : Str → Option Value} (T : Txt K mg) := T.D_l_copied_gate.f
abbrev Txt.d_l_copied_gate {K : PySem.W.Frag} {mg : Str → Option Value} (T : Txt K mg) := T.D_l_copied_gate.d
abbrev Txt.F_l_copied_gate {K : PySem.W.Frag} {mg : Str → Option Value} (T : Txt K mg) := T.D_l_copied_gate.F
abbrev Txt.b_l_copied_gate {K : PySem.W.Frag} {mg : Str → Option Value} (T : Txt K mg) := T.D_l_copied_gate.b
abbrev Txt.g_l_copied_gate {K : PySem.W.Frag} {mg : Str → Option Value} (T : Txt K mg) := T.D_l_copied_gate.g
abbrev Txt.f_l_shut_by {K : PySem.W.Frag} {mg : Str → Option Value} (T : Txt K mg) := T.D_l_shut_by.f
abbrev Txt.d_l_shut_by {K : PySem.W.Frag} {mg : Str → Option Value} (T : Txt K mg) := T.D_l_shut_by.d
abbrev Txt.F_l_shut_by {K : PySem.W.Frag} {mg : Str → Option Value} (T : Txt K mg) := T.D_l_shut_by.F
abbrev Txt.b_l_shut_by {K : PySem.W.Frag} {mg : Str → Option Value} (T : Txt K mg) := T.D_l_shut_by.b
abbrev Txt.g_l_shut_by {K : PySem.W.Frag} {mg : Str → Option Value} (T : Txt K mg) := T.D_l_shut_by.g
abbrev Txt.f_l_is_open {K : PySem.W.Frag} {mg : Str → Option Value} (T : Txt K mg) := T.D_l_is_open.f
abbrev Txt.d_l_is_open {K : PySem.W.Frag} {mg : Str → Option Value} (T : Txt K mg) := T.D_l_is_open.d
abbrev Txt.F_l_is_open {K : PySem.W.Frag} {mg : Str → Option Value} (T : Txt K mg) := T.D_l_is_open.F
abbrev Txt.b_l_is_open {K : PySem.W.Frag} {mg : Str → Option Value} (T : Txt K mg) := T.D_l_is_open.b
abbrev Txt.g_l_is_open {K : PySem.W.Frag} {mg : Str → Option Value} (T : Txt K mg) := T.D_l_is_open.g
abbrev Txt.f_l_normal {K : PySem.W.Frag} {mg : Str → Option Value} (T : Txt K mg) := T.D_l_normal.f
abbrev Txt.d_l_normal {K : PySem.W.Frag} {mg : Str → Option Value} (T : Txt K mg) := T.D_l_normal.d
abbrev Txt.F_l_normal {K : PySem.W.Frag} {mg : Str → Option Value} (T : Txt K mg) := T.D_l_normal.F
abbrev Txt.b_l_normal {K : PySem.W.Frag} {mg : Str → Option Value} (T : Txt K mg) := T.D_l_normal.b
abbrev Txt.g_l_normal {K : PySem.W.Frag} {mg : Str → Option Value} (T : Txt K mg) := T.D_l_normal.g
abbrev Txt.f_l_window {K : PySem.W.Frag} {mg : Str → Option Value} (T : Txt K mg) := T.D_l_window.f
abbrev Txt.d_l_window {K : PySem.W.Frag} {mg : Str → Option Value} (T : Txt K mg) := T.D_l_window.d
abbrev Txt.F_l_window {K : PySem.W.Frag} {mg : Str → Option Value} (T : Txt K mg) := T.D_l_window.F
abbrev Txt.b_l_window {K : PySem.W.Frag} {mg : Str → Option Value} (T : Txt K mg) := T.D_l_window.b
abbrev Txt.g_l_window {K : PySem.W.Frag} {mg : Str → Option Value} (T : Txt K mg) := T.D_l_window.g
abbrev Txt.f_l_near_moment {K : PySem.W.Frag} {mg : Str → Option Value} (T : Txt K mg) := T.D_l_near_moment.f
abbrev Txt.d_l_near_moment {K : PySem.W.Frag} {mg : Str → Option Value} (T : Txt K mg) := T.D_l_near_moment.d
abbrev Txt.F_l_near_moment {K : PySem.W.Frag} {mg : Str → Option Value} (T : Txt K mg) := T.D_l_near_moment.F
abbrev Txt.b_l_near_moment {K : PySem.W.Frag} {mg : Str → Option Value} (T : Txt K mg) := T.D_l_near_moment.b
abbrev Txt.g_l_near_moment {K : PySem.W.Frag} {mg : Str → Option Value} (T : Txt K mg) := T.D_l_near_moment.g
abbrev Txt.f_law {K : PySem.W.Frag} {mg : Str → Option Value} (T : Txt K mg) := T.D_law.f
abbrev Txt.d_law {K : PySem.W.Frag} {mg : Str → Option Value} (T : Txt K mg) := T.D_law.d
abbrev Txt.F_law {K : PySem.W.Frag} {mg : Str → Option Value} (T : Txt K mg) := T.D_law.F
abbrev Txt.b_law {K : PySem.W.Frag} {mg : Str → Option Value} (T : Txt K mg) := T.D_law.b
abbrev Txt.g_law {K : PySem.W.Frag} {mg : Str → Option Value} (T : Txt K mg) := T.D_law.g
section
variable {P : Program} {w : World} {K : PySem.W.Frag} {mg : Str → Option Value} {base : Heap}
theorem ok_gcd (T : Txt K mg) : FnOk P w K mg base CX0 1 T.f_gcd T.d_gcd Ps_gcd spGcd := by
  refine T.F_gcd.ok sc_gcd (fun vs H Q E h => ?_) (fun cdv A outer s H vs Q E hr h => ?_)
  · obtain ⟨a, b, rfl, _⟩ := h; rfl
  · obtain ⟨a, b, rfl, q⟩ := h
    refine ⟨_, (pss_cons (ps_par (i := 0) (j := 1) (by rfl) sc_gcd.nd rfl rfl (by decide) rfl rfl (pa_cons (pe_callB call_abs (by rfl) T.m_abs (by decide +kernel) (pa_cons (pv 0) pa_nil)) (pa_cons (pe_callB call_abs (by rfl) T.m_abs (by decide +kernel) (pa_cons (pv 1) pa_nil)) pa_nil)) (by rfl))
      (pss_cons (ps_while PassesOwn.never (pt_cmpR op_ne (pv 1) pe_int (nomark _)) (pss_one (ps_par (i := 0) (j := 1) (by rfl) sc_gcd.nd rfl rfl (by decide) rfl rfl (pa_cons (pv 1) (pa_cons (pe_op op_mod (pv 0) (pv 1)) pa_nil)) (by rfl))))
      (pss_one (ps_ret (pv 0))))), ?_⟩
    refine ⟨.int a, rfl, a, rfl, .int b, rfl, b, rfl, _, _, rfl, ?_⟩
    refine while_by (fun σ H' => H' = H ∧ ∃ x y : Int, σ = [some (.int x), some (.int y)] ∧ 0 ≤ x ∧ 0 ≤ y ∧ Int.gcd x y = Int.gcd a b) (fun σ _ => match σ with | [_, some (.int y)] => y.toNat | _ => 0) ?_ ?_ (fun σ H Q Q' h ⟨v, e, s, k, ek, q⟩ => ⟨v, e, s, k, ek, h _ _ q⟩)
    · refine ⟨rfl, _, _, rfl, ?_, ?_, ?_⟩
      · rw [abs_nat]; omega
      · rw [abs_nat]; omega
      · rw [abs_nat, abs_nat]; unfold Int.gcd; simp only [Int.natAbs_natCast]
    · rintro σ H' ⟨rfl, x, y, rfl, hx, hy, e⟩
      refine ⟨.int y, rfl, rfl, _, rfl, brNe (fun h0 => ?_) (fun h0 => ?_)⟩
      · refine ⟨.int y, rfl, .int x, rfl, .int y, rfl, _, _, rfl, rfl, (by show 0 < y; omega), _, _, rfl, ⟨rfl, _, _, rfl, hy, ?_, ?_⟩, ?_⟩
        · exact Int.emod_nonneg _ h0
        · rw [← e]; exact gcd_step hx (by omega)
        · show (x % y).toNat < y.toNat
          have := Int.emod_lt_of_pos x (show 0 < y by omega)
          have := Int.emod_nonneg x h0
          omega
      · subst h0
        refine ⟨_, rfl, ?_⟩
        have : x = (Int.gcd a b : Int) := by rw [← e]; unfold Int.gcd; simp; omega
        show Q (.int x) _
        rw [this]; exact q
theorem ok_l_divisor (T : Txt K mg) : FnOk P w K mg base CX0 1 T.f_l_divisor T.d_l_divisor Ps_l_divisor spGcd := by
  refine T.F_l_divisor.ok sc_l_divisor (fun vs H Q E h => ?_) (fun cdv A outer s H vs Q E hr h => ?_)
  · obtain ⟨a, b, rfl, _⟩ := h; rfl
  · obtain ⟨a, b, rfl, q⟩ := h
    refine ⟨_, (pss_cons (ps_par (i := 0) (j := 1) (by rfl) sc_l_divisor.nd rfl rfl (by decide) rfl rfl (pa_cons (pe_callB call_abs (by rfl) T.m_abs (by decide +kernel) (pa_cons (pv 0) pa_nil)) (pa_cons (pe_callB call_abs (by rfl) T.m_abs (by decide +kernel) (pa_cons (pv 1) pa_nil)) pa_nil)) (by rfl))
      (pss_cons (ps_while PassesOwn.never (pt_cmpR op_ne (pv 1) pe_int (nomark _)) (pss_one (ps_par (i := 0) (j := 1) (by rfl) sc_l_divisor.nd rfl rfl (by decide) rfl rfl (pa_cons (pv 1) (pa_cons (pe_op op_mod (pv 0) (pv 1)) pa_nil)) (by rfl))))
      (pss_one (ps_ret (pv 0))))), ?_⟩
    refine ⟨.int a, rfl, a, rfl, .int b, rfl, b, rfl, _, _, rfl, ?_⟩
    refine while_by (fun σ H' => H' = H ∧ ∃ x y : Int, σ = [some (.int x), some (.int y)] ∧ 0 ≤ x ∧ 0 ≤ y ∧ Int.gcd x y = Int.gcd a b) (fun σ _ => match σ with | [_, some (.int y)] => y.toNat | _ => 0) ?_ ?_ (fun σ H Q Q' h ⟨v, e, s, k, ek, q⟩ => ⟨v, e, s, k, ek, h _ _ q⟩)
    · refine ⟨rfl, _, _, rfl, ?_, ?_, ?_⟩
      · rw [abs_nat]; omega
      · rw [abs_nat]; omega
      · rw [abs_nat, abs_nat]; unfold Int.gcd; simp only [Int.natAbs_natCast]
    · rintro σ H' ⟨rfl, x, y, rfl, hx, hy, e⟩
      refine ⟨.int y, rfl, rfl, _, rfl, brNe (fun h0 => ?_) (fun h0 => ?_)⟩
      · refine ⟨.int y, rfl, .int x, rfl, .int y, rfl, _, _, rfl, rfl, (by show 0 < y; omega), _, _, rfl, ⟨rfl, _, _, rfl, hy, ?_, ?_⟩, ?_⟩
        · exact Int.emod_nonneg _ h0
        · rw [← e]; exact gcd_step hx (by omega)
        · show (x % y).toNat < y.toNat
          have := Int.emod_lt_of_pos x (show 0 < y by omega)
          have := Int.emod_nonneg x h0
          omega
      · subst h0
        refine ⟨_, rfl, ?_⟩
        have : x = (Int.gcd a b : Int) := by rw [← e]; unfold Int.gcd; simp; omega
        show Q (.int x) _
        rw [this]; exact q
theorem ok_fraction (T : Txt K mg) : FnOk P w K mg base CX0 2 T.f_fraction T.d_fraction Ps_fraction (spRed K) := by
  refine T.F_fraction.ok sc_fraction (fun vs H Q E h => ?_) (fun cdv A outer s H vs Q E hr h => ?_)
  · obtain ⟨n, d, rfl, _⟩ := h; rfl
  · obtain ⟨n, d, rfl, hd, bn, bd, q⟩ := h
    have hg : (0 : Int) < (Int.gcd n d : Int) := by have := gcd_pos (n := n) hd; omega
    have bg : B 8000 (Int.gcd n d : Int) := bd.le (gcd_le hd)
    refine ⟨_, PSs.nox ((pss_cons (ps_if (pt_cmpR op_eq (pv 1) pe_int (nomark _)) (pss_one ps_never) pss_nil)
      (pss_cons (ps_set (i := 2) sc_fraction.nd rfl (Or.inl rfl) (pe_call (ok_gcd T) hr (by rfl) T.g_gcd T.F_gcd.kp T.b_gcd .nil pass0 (pa_cons (pv 0) (pa_cons (pv 1) pa_nil))))
      (pss_cons (ps_if (pt_cmpR op_lt (pv 1) pe_int (nomark _)) (pss_one (ps_set (i := 2) sc_fraction.nd rfl (Or.inl rfl) (pe_un un_neg (pv 2)))) pss_nil)
      (pss_one (ps_ret (pe_tup (pa_cons (pe_op op_fdivZ (pv 0) (pv 2)) (pa_cons (pe_op op_fdivZ (pv 1) (pv 2)) pa_nil))))))))), ?_⟩
    refine ⟨_, rfl, rfl, _, rfl, brEq (fun z => absurd z hd) (fun _ => ?_)⟩
    refine ⟨_, rfl, _, rfl, n, d, rfl, ?_⟩
    refine ⟨_, rfl, _, _, rfl, rfl, _, rfl, brI (fun hneg => ?_) (fun hpos => ?_)⟩
    · refine ⟨_, rfl, _, rfl, ?_⟩
      have c : CDivZ n (-(Int.gcd n d : Int)) := ⟨by omega, (bg.neg.mono (m := 9000)).log⟩
      have c2 : CDivZ d (-(Int.gcd n d : Int)) := c
      refine ⟨_, rfl, _, rfl, _, _, rfl, rfl, c, _, rfl, _, rfl, _, _, rfl, rfl, c2, sizeLine2 (by simp), fun p np => ?_⟩
      refine q _ _ (same_upd np) ⟨p, rfl, .inl (.inl ?_)⟩
      rw [upd_same]; dsimp only
      rw [fdiv_neg_exact (n := n) (by omega) (Int.gcd_dvd_left ..), fdiv_neg_exact (n := d) (by omega) (Int.gcd_dvd_right ..)]
      unfold rn rd
      rw [if_pos hneg, show (d.natAbs : Int) = -d by omega]
    · have c : CDivZ n (Int.gcd n d : Int) := ⟨by omega, (bg.mono (m := 9000)).log⟩
      have c2 : CDivZ d (Int.gcd n d : Int) := c
      refine ⟨_, rfl, _, rfl, _, _, rfl, rfl, c, _, rfl, _, rfl, _, _, rfl, rfl, c2, sizeLine2 (by simp), fun p np => ?_⟩
      refine q _ _ (same_upd np) ⟨p, rfl, .inl (.inl ?_)⟩
      rw [upd_same]; dsimp only
      rw [fdiv_exact (n := n) (by omega) (Int.gcd_dvd_left ..), fdiv_exact (n := d) (by omega) (Int.gcd_dvd_right ..)]
      unfold rn rd
      rw [if_neg hpos, show (d.natAbs : Int) = d by omega]
theorem ok_l_reduce (T : Txt K mg) : FnOk P w K mg base CX0 2 T.f_l_reduce T.d_l_reduce Ps_l_reduce (spRed K) := by
  refine T.F_l_reduce.ok sc_l_reduce (fun vs H Q E h => ?_) (fun cdv A outer s H vs Q E hr h => ?_)
  · obtain ⟨n, d, rfl, _⟩ := h; rfl
  · obtain ⟨n, d, rfl, hd, bn, bd, q⟩ := h
    have hg : (0 : Int) < (Int.gcd n d : Int) := by have := gcd_pos (n := n) hd; omega
    have bg : B 8000 (Int.gcd n d : Int) := bd.le (gcd_le hd)
    have b1 : B 1 1 := by unfold B; decide
    have b2 : B 1 (-1) := by unfold B; decide
    refine ⟨_, (pss_cons (ps_set (i := 2) sc_l_reduce.nd rfl (Or.inl rfl) (pe_call (ok_l_divisor T) hr (by rfl) T.g_l_divisor T.F_l_divisor.kp T.b_l_divisor .nil pass0 (pa_cons (pv 0) (pa_cons (pv 1) pa_nil))))
      (pss_cons (ps_set (i := 3) sc_l_reduce.nd rfl (Or.inl rfl) (pe_ifExp (pt_cmpR op_gt (pv 1) pe_int (nomark _)) pe_int (pe_un un_neg pe_int)))
      (pss_one (ps_ret (pe_tup (pa_cons (pe_op op_fdivW (pe_op op_mulW (pv 3) (pv 0)) (pv 2)) (pa_cons (pe_op op_fdivW (pe_op op_mulW (pv 3) (pv 1)) (pv 2)) pa_nil))))))), ?_⟩
    refine ⟨_, rfl, _, rfl, n, d, rfl, ?_⟩
    refine ⟨_, rfl, _, _, rfl, rfl, _, rfl, brI (fun hpos => ?_) (fun hneg => ?_)⟩
    · refine ⟨_, rfl, _, rfl, _, _, rfl, rfl, cm b1 bn, _, rfl, _, _, rfl, rfl, cdW hg bg, _, rfl, _, rfl, _, _, rfl, rfl, cm b1 bd, _, rfl, _, _, rfl, rfl, cdW hg bg, sizeLine2 (by simp), fun p np => ?_⟩
      refine q _ _ (same_upd np) ⟨p, rfl, .inl (.inl ?_)⟩
      rw [upd_same]; dsimp only
      rw [Int.one_mul, Int.one_mul]
      unfold rn rd
      rw [if_neg (by omega), show (d.natAbs : Int) = d by omega]
    · refine ⟨_, rfl, ?_⟩
      refine ⟨_, rfl, _, rfl, _, _, rfl, rfl, cm b2 bn, _, rfl, _, _, rfl, rfl, cdW hg bg, _, rfl, _, rfl, _, _, rfl, rfl, cm b2 bd, _, rfl, _, _, rfl, rfl, cdW hg bg, sizeLine2 (by simp), fun p np => ?_⟩
      refine q _ _ (same_upd np) ⟨p, rfl, .inl (.inl ?_)⟩
      rw [upd_same]; dsimp only
      rw [show (-1 : Int) * n = -n by omega, show (-1 : Int) * d = -d by omega]
      unfold rn rd
      rw [if_pos (by omega), show (d.natAbs : Int) = -d by omega]
theorem ok_add (T : Txt K mg) : FnOk P w K mg base CX0 3 T.f_add T.d_add Ps_add (spFF K fun a b c d => (rn (a * d + c * b) (b * d), rd (a * d + c * b) (b * d))) := by
  refine T.F_add.ok sc_add (fun vs H Q E h => ?_) (fun cdv A outer s H vs Q E hr h => ?_)
  · obtain ⟨x, y, _, _, _, _, rfl, _⟩ := h; rfl
  · obtain ⟨x, y, a, b, c, d, rfl, ⟨p1, rfl, h1⟩, ⟨p2, rfl, h2⟩, hb, hd, ba, bb, bc, bd, q⟩ := h
    refine ⟨_, (pss_one (ps_ret (pe_call (ok_fraction T) hr (by rfl) T.g_fraction T.F_fraction.kp T.b_fraction .nil pass0 (pa_cons (pe_op op_add (pe_op op_mulW (pe_ix ix_tup (pv 0) pe_int (fun _ _ => rfl)) (pe_ix ix_tup (pv 1) pe_int (fun _ _ => rfl))) (pe_op op_mulW (pe_ix ix_tup (pv 1) pe_int (fun _ _ => rfl)) (pe_ix ix_tup (pv 0) pe_int (fun _ _ => rfl)))) (pa_cons (pe_op op_mulW (pe_ix ix_tup (pv 0) pe_int (fun _ _ => rfl)) (pe_ix ix_tup (pv 1) pe_int (fun _ _ => rfl))) pa_nil))))), ?_⟩
    exact ⟨_, rfl, _, _, _, _, rfl, rfl, h1, ix0, _, rfl, _, _, _, _, rfl, rfl, h2, ix1, _, _, rfl, rfl, (cm ba bd), _, rfl, _, _, _, _, rfl, rfl, h2, ix0, _, rfl, _, _, _, _, rfl, rfl, h1, ix1, _, _, rfl, rfl, (cm bc bb), _, _, rfl, rfl, _, rfl, _, _, _, _, rfl, rfl, h1, ix1, _, rfl, _, _, _, _, rfl, rfl, h2, ix1, _, _, rfl, rfl, (cm bb bd), _, _, rfl, Int.mul_ne_zero hb hd, ((ba.mul bd).add (bc.mul bb)).mono, (bb.mul bd).mono, q⟩
theorem ok_l_add (T : Txt K mg) : FnOk P w K mg base CX0 3 T.f_l_add T.d_l_add Ps_l_add (spFF K fun a b c d => (rn (a * d + c * b) (b * d), rd (a * d + c * b) (b * d))) := by
  refine T.F_l_add.ok sc_l_add (fun vs H Q E h => ?_) (fun cdv A outer s H vs Q E hr h => ?_)
  · obtain ⟨x, y, _, _, _, _, rfl, _⟩ := h; rfl
  · obtain ⟨x, y, a, b, c, d, rfl, ⟨p1, rfl, h1⟩, ⟨p2, rfl, h2⟩, hb, hd, ba, bb, bc, bd, q⟩ := h
    refine ⟨_, (pss_one (ps_ret (pe_call (ok_l_reduce T) hr (by rfl) T.g_l_reduce T.F_l_reduce.kp T.b_l_reduce .nil pass0 (pa_cons (pe_op op_add (pe_op op_mulW (pe_ix ix_tup (pv 0) pe_int (fun _ _ => rfl)) (pe_ix ix_tup (pv 1) pe_int (fun _ _ => rfl))) (pe_op op_mulW (pe_ix ix_tup (pv 1) pe_int (fun _ _ => rfl)) (pe_ix ix_tup (pv 0) pe_int (fun _ _ => rfl)))) (pa_cons (pe_op op_mulW (pe_ix ix_tup (pv 0) pe_int (fun _ _ => rfl)) (pe_ix ix_tup (pv 1) pe_int (fun _ _ => rfl))) pa_nil))))), ?_⟩
    exact ⟨_, rfl, _, _, _, _, rfl, rfl, h1, ix0, _, rfl, _, _, _, _, rfl, rfl, h2, ix1, _, _, rfl, rfl, (cm ba bd), _, rfl, _, _, _, _, rfl, rfl, h2, ix0, _, rfl, _, _, _, _, rfl, rfl, h1, ix1, _, _, rfl, rfl, (cm bc bb), _, _, rfl, rfl, _, rfl, _, _, _, _, rfl, rfl, h1, ix1, _, rfl, _, _, _, _, rfl, rfl, h2, ix1, _, _, rfl, rfl, (cm bb bd), _, _, rfl, Int.mul_ne_zero hb hd, ((ba.mul bd).add (bc.mul bb)).mono, (bb.mul bd).mono, q⟩
theorem ok_subtract (T : Txt K mg) : FnOk P w K mg base CX0 3 T.f_subtract T.d_subtract Ps_subtract (spFF K fun a b c d => (rn (a * d - c * b) (b * d), rd (a * d - c * b) (b * d))) := by
  refine T.F_subtract.ok sc_subtract (fun vs H Q E h => ?_) (fun cdv A outer s H vs Q E hr h => ?_)
  · obtain ⟨x, y, _, _, _, _, rfl, _⟩ := h; rfl
  · obtain ⟨x, y, a, b, c, d, rfl, ⟨p1, rfl, h1⟩, ⟨p2, rfl, h2⟩, hb, hd, ba, bb, bc, bd, q⟩ := h
    refine ⟨_, (pss_one (ps_ret (pe_call (ok_fraction T) hr (by rfl) T.g_fraction T.F_fraction.kp T.b_fraction .nil pass0 (pa_cons (pe_op op_sub (pe_op op_mulW (pe_ix ix_tup (pv 0) pe_int (fun _ _ => rfl)) (pe_ix ix_tup (pv 1) pe_int (fun _ _ => rfl))) (pe_op op_mulW (pe_ix ix_tup (pv 1) pe_int (fun _ _ => rfl)) (pe_ix ix_tup (pv 0) pe_int (fun _ _ => rfl)))) (pa_cons (pe_op op_mulW (pe_ix ix_tup (pv 0) pe_int (fun _ _ => rfl)) (pe_ix ix_tup (pv 1) pe_int (fun _ _ => rfl))) pa_nil))))), ?_⟩
    exact ⟨_, rfl, _, _, _, _, rfl, rfl, h1, ix0, _, rfl, _, _, _, _, rfl, rfl, h2, ix1, _, _, rfl, rfl, (cm ba bd), _, rfl, _, _, _, _, rfl, rfl, h2, ix0, _, rfl, _, _, _, _, rfl, rfl, h1, ix1, _, _, rfl, rfl, (cm bc bb), _, _, rfl, rfl, _, rfl, _, _, _, _, rfl, rfl, h1, ix1, _, rfl, _, _, _, _, rfl, rfl, h2, ix1, _, _, rfl, rfl, (cm bb bd), _, _, rfl, Int.mul_ne_zero hb hd, ((ba.mul bd).sub (bc.mul bb)).mono, (bb.mul bd).mono, q⟩
theorem ok_l_subtract (T : Txt K mg) : FnOk P w K mg base CX0 3 T.f_l_subtract T.d_l_subtract Ps_l_subtract (spFF K fun a b c d => (rn (a * d - c * b) (b * d), rd (a * d - c * b) (b * d))) := by
  refine T.F_l_subtract.ok sc_l_subtract (fun vs H Q E h => ?_) (fun cdv A outer s H vs Q E hr h => ?_)
  · obtain ⟨x, y, _, _, _, _, rfl, _⟩ := h; rfl
  · obtain ⟨x, y, a, b, c, d, rfl, ⟨p1, rfl, h1⟩, ⟨p2, rfl, h2⟩, hb, hd, ba, bb, bc, bd, q⟩ := h
    refine ⟨_, (pss_one (ps_ret (pe_call (ok_l_reduce T) hr (by rfl) T.g_l_reduce T.F_l_reduce.kp T.b_l_reduce .nil pass0 (pa_cons (pe_op op_sub (pe_op op_mulW (pe_ix ix_tup (pv 0) pe_int (fun _ _ => rfl)) (pe_ix ix_tup (pv 1) pe_int (fun _ _ => rfl))) (pe_op op_mulW (pe_ix ix_tup (pv 1) pe_int (fun _ _ => rfl)) (pe_ix ix_tup (pv 0) pe_int (fun _ _ => rfl)))) (pa_cons (pe_op op_mulW (pe_ix ix_tup (pv 0) pe_int (fun _ _ => rfl)) (pe_ix ix_tup (pv 1) pe_int (fun _ _ => rfl))) pa_nil))))), ?_⟩
    exact ⟨_, rfl, _, _, _, _, rfl, rfl, h1, ix0, _, rfl, _, _, _, _, rfl, rfl, h2, ix1, _, _, rfl, rfl, (cm ba bd), _, rfl, _, _, _, _, rfl, rfl, h2, ix0, _, rfl, _, _, _, _, rfl, rfl, h1, ix1, _, _, rfl, rfl, (cm bc bb), _, _, rfl, rfl, _, rfl, _, _, _, _, rfl, rfl, h1, ix1, _, rfl, _, _, _, _, rfl, rfl, h2, ix1, _, _, rfl, rfl, (cm bb bd), _, _, rfl, Int.mul_ne_zero hb hd, ((ba.mul bd).sub (bc.mul bb)).mono, (bb.mul bd).mono, q⟩
theorem ok_multiply (T : Txt K mg) : FnOk P w K mg base CX0 3 T.f_multiply T.d_multiply Ps_multiply (spFF K fun a b c d => (rn (a * c) (b * d), rd (a * c) (b * d))) := by
  refine T.F_multiply.ok sc_multiply (fun vs H Q E h => ?_) (fun cdv A outer s H vs Q E hr h => ?_)
  · obtain ⟨x, y, _, _, _, _, rfl, _⟩ := h; rfl
  · obtain ⟨x, y, a, b, c, d, rfl, ⟨p1, rfl, h1⟩, ⟨p2, rfl, h2⟩, hb, hd, ba, bb, bc, bd, q⟩ := h
    refine ⟨_, (pss_one (ps_ret (pe_call (ok_fraction T) hr (by rfl) T.g_fraction T.F_fraction.kp T.b_fraction .nil pass0 (pa_cons (pe_op op_mulW (pe_ix ix_tup (pv 0) pe_int (fun _ _ => rfl)) (pe_ix ix_tup (pv 1) pe_int (fun _ _ => rfl))) (pa_cons (pe_op op_mulW (pe_ix ix_tup (pv 0) pe_int (fun _ _ => rfl)) (pe_ix ix_tup (pv 1) pe_int (fun _ _ => rfl))) pa_nil))))), ?_⟩
    exact ⟨_, rfl, _, _, _, _, rfl, rfl, h1, ix0, _, rfl, _, _, _, _, rfl, rfl, h2, ix0, _, _, rfl, rfl, (cm ba bc), _, rfl, _, _, _, _, rfl, rfl, h1, ix1, _, rfl, _, _, _, _, rfl, rfl, h2, ix1, _, _, rfl, rfl, (cm bb bd), _, _, rfl, Int.mul_ne_zero hb hd, (ba.mul bc).mono, (bb.mul bd).mono, q⟩
theorem ok_l_multiply (T : Txt K mg) : FnOk P w K mg base CX0 3 T.f_l_multiply T.d_l_multiply Ps_l_multiply (spFF K fun a b c d => (rn (a * c) (b * d), rd (a * c) (b * d))) := by
  refine T.F_l_multiply.ok sc_l_multiply (fun vs H Q E h => ?_) (fun cdv A outer s H vs Q E hr h => ?_)
  · obtain ⟨x, y, _, _, _, _, rfl, _⟩ := h; rfl
  · obtain ⟨x, y, a, b, c, d, rfl, ⟨p1, rfl, h1⟩, ⟨p2, rfl, h2⟩, hb, hd, ba, bb, bc, bd, q⟩ := h
    refine ⟨_, (pss_one (ps_ret (pe_call (ok_l_reduce T) hr (by rfl) T.g_l_reduce T.F_l_reduce.kp T.b_l_reduce .nil pass0 (pa_cons (pe_op op_mulW (pe_ix ix_tup (pv 0) pe_int (fun _ _ => rfl)) (pe_ix ix_tup (pv 1) pe_int (fun _ _ => rfl))) (pa_cons (pe_op op_mulW (pe_ix ix_tup (pv 0) pe_int (fun _ _ => rfl)) (pe_ix ix_tup (pv 1) pe_int (fun _ _ => rfl))) pa_nil))))), ?_⟩
    exact ⟨_, rfl, _, _, _, _, rfl, rfl, h1, ix0, _, rfl, _, _, _, _, rfl, rfl, h2, ix0, _, _, rfl, rfl, (cm ba bc), _, rfl, _, _, _, _, rfl, rfl, h1, ix1, _, rfl, _, _, _, _, rfl, rfl, h2, ix1, _, _, rfl, rfl, (cm bb bd), _, _, rfl, Int.mul_ne_zero hb hd, (ba.mul bc).mono, (bb.mul bd).mono, q⟩
theorem ok_divide (T : Txt K mg) : FnOk P w K mg base CX0 3 T.f_divide T.d_divide Ps_divide (spFD K fun a b c d => (rn (a * d) (b * c), rd (a * d) (b * c))) := by
  refine T.F_divide.ok sc_divide (fun vs H Q E h => ?_) (fun cdv A outer s H vs Q E hr h => ?_)
  · obtain ⟨x, y, _, _, _, _, rfl, _⟩ := h; rfl
  · obtain ⟨x, y, a, b, c, d, rfl, ⟨p1, rfl, h1⟩, ⟨p2, rfl, h2⟩, hb, hc, ba, bb, bc, bd, q⟩ := h
    refine ⟨_, (pss_one (ps_ret (pe_call (ok_fraction T) hr (by rfl) T.g_fraction T.F_fraction.kp T.b_fraction .nil pass0 (pa_cons (pe_op op_mulW (pe_ix ix_tup (pv 0) pe_int (fun _ _ => rfl)) (pe_ix ix_tup (pv 1) pe_int (fun _ _ => rfl))) (pa_cons (pe_op op_mulW (pe_ix ix_tup (pv 0) pe_int (fun _ _ => rfl)) (pe_ix ix_tup (pv 1) pe_int (fun _ _ => rfl))) pa_nil))))), ?_⟩
    exact ⟨_, rfl, _, _, _, _, rfl, rfl, h1, ix0, _, rfl, _, _, _, _, rfl, rfl, h2, ix1, _, _, rfl, rfl, (cm ba bd), _, rfl, _, _, _, _, rfl, rfl, h1, ix1, _, rfl, _, _, _, _, rfl, rfl, h2, ix0, _, _, rfl, rfl, (cm bb bc), _, _, rfl, Int.mul_ne_zero hb hc, (ba.mul bd).mono, (bb.mul bc).mono, q⟩
theorem ok_l_divide (T : Txt K mg) : FnOk P w K mg base CX0 3 T.f_l_divide T.d_l_divide Ps_l_divide (spFD K fun a b c d => (rn (a * d) (b * c), rd (a * d) (b * c))) := by
  refine T.F_l_divide.ok sc_l_divide (fun vs H Q E h => ?_) (fun cdv A outer s H vs Q E hr h => ?_)
  · obtain ⟨x, y, _, _, _, _, rfl, _⟩ := h; rfl
  · obtain ⟨x, y, a, b, c, d, rfl, ⟨p1, rfl, h1⟩, ⟨p2, rfl, h2⟩, hb, hc, ba, bb, bc, bd, q⟩ := h
    refine ⟨_, (pss_one (ps_ret (pe_call (ok_l_reduce T) hr (by rfl) T.g_l_reduce T.F_l_reduce.kp T.b_l_reduce .nil pass0 (pa_cons (pe_op op_mulW (pe_ix ix_tup (pv 0) pe_int (fun _ _ => rfl)) (pe_ix ix_tup (pv 1) pe_int (fun _ _ => rfl))) (pa_cons (pe_op op_mulW (pe_ix ix_tup (pv 0) pe_int (fun _ _ => rfl)) (pe_ix ix_tup (pv 1) pe_int (fun _ _ => rfl))) pa_nil))))), ?_⟩
    exact ⟨_, rfl, _, _, _, _, rfl, rfl, h1, ix0, _, rfl, _, _, _, _, rfl, rfl, h2, ix1, _, _, rfl, rfl, (cm ba bd), _, rfl, _, _, _, _, rfl, rfl, h1, ix1, _, rfl, _, _, _, _, rfl, rfl, h2, ix0, _, _, rfl, rfl, (cm bb bc), _, _, rfl, Int.mul_ne_zero hb hc, (ba.mul bd).mono, (bb.mul bc).mono, q⟩
theorem ok_is_less (T : Txt K mg) : FnOk P w K mg base CX0 1 T.f_is_less T.d_is_less Ps_is_less (spLess K) := by
  refine T.F_is_less.ok sc_is_less (fun vs H Q E h => ?_) (fun cdv A outer s H vs Q E hr h => ?_)
  · obtain ⟨x, y, _, _, _, _, rfl, _⟩ := h; rfl
  · obtain ⟨x, y, a, b, c, d, rfl, ⟨p1, rfl, h1⟩, ⟨p2, rfl, h2⟩, ba, bb, bc, bd, q⟩ := h
    refine ⟨_, (pss_one (ps_ret (pe_cmpR op_lt (pe_op op_mulW (pe_ix ix_tup (pv 0) pe_int (fun _ _ => rfl)) (pe_ix ix_tup (pv 1) pe_int (fun _ _ => rfl))) (pe_op op_mulW (pe_ix ix_tup (pv 1) pe_int (fun _ _ => rfl)) (pe_ix ix_tup (pv 0) pe_int (fun _ _ => rfl))) (nomark _)))), ?_⟩
    exact ⟨_, rfl, _, _, _, _, rfl, rfl, h1, ix0, _, rfl, _, _, _, _, rfl, rfl, h2, ix1, _, _, rfl, rfl, (cm ba bd), _, rfl, _, _, _, _, rfl, rfl, h2, ix0, _, rfl, _, _, _, _, rfl, rfl, h1, ix1, _, _, rfl, rfl, (cm bc bb), _, _, rfl, rfl, q⟩
theorem ok_l_less (T : Txt K mg) : FnOk P w K mg base CX0 1 T.f_l_less T.d_l_less Ps_l_less (spLess K) := by
  refine T.F_l_less.ok sc_l_less (fun vs H Q E h => ?_) (fun cdv A outer s H vs Q E hr h => ?_)
  · obtain ⟨x, y, _, _, _, _, rfl, _⟩ := h; rfl
  · obtain ⟨x, y, a, b, c, d, rfl, ⟨p1, rfl, h1⟩, ⟨p2, rfl, h2⟩, ba, bb, bc, bd, q⟩ := h
    refine ⟨_, (pss_one (ps_ret (pe_cmpR op_lt (pe_op op_mulW (pe_ix ix_tup (pv 0) pe_int (fun _ _ => rfl)) (pe_ix ix_tup (pv 1) pe_int (fun _ _ => rfl))) (pe_op op_mulW (pe_ix ix_tup (pv 1) pe_int (fun _ _ => rfl)) (pe_ix ix_tup (pv 0) pe_int (fun _ _ => rfl))) (nomark _)))), ?_⟩
    exact ⟨_, rfl, _, _, _, _, rfl, rfl, h1, ix0, _, rfl, _, _, _, _, rfl, rfl, h2, ix1, _, _, rfl, rfl, (cm ba bd), _, rfl, _, _, _, _, rfl, rfl, h2, ix0, _, rfl, _, _, _, _, rfl, rfl, h1, ix1, _, _, rfl, rfl, (cm bc bb), _, _, rfl, rfl, q⟩
theorem ok_floor_of (T : Txt K mg) : FnOk P w K mg base CX0 1 T.f_floor_of T.d_floor_of Ps_floor_of (spFloor K) := by
  refine T.F_floor_of.ok sc_floor_of (fun vs H Q E h => ?_) (fun cdv A outer s H vs Q E hr h => ?_)
  · obtain ⟨x, _, _, rfl, _⟩ := h; rfl
  · obtain ⟨x, a, b, rfl, ⟨p1, rfl, h1⟩, hb, bb, q⟩ := h
    refine ⟨_, (pss_one (ps_ret (pe_op op_fdivW (pe_ix ix_tup (pv 0) pe_int (fun _ _ => rfl)) (pe_ix ix_tup (pv 0) pe_int (fun _ _ => rfl))))), ?_⟩
    exact ⟨_, rfl, _, _, _, _, rfl, rfl, h1, ix0, _, rfl, _, _, _, _, rfl, rfl, h1, ix1, _, _, rfl, rfl, cdW hb bb, q⟩
theorem ok_l_floor (T : Txt K mg) : FnOk P w K mg base CX0 1 T.f_l_floor T.d_l_floor Ps_l_floor (spFloor K) := by
  refine T.F_l_floor.ok sc_l_floor (fun vs H Q E h => ?_) (fun cdv A outer s H vs Q E hr h => ?_)
  · obtain ⟨x, _, _, rfl, _⟩ := h; rfl
  · obtain ⟨x, a, b, rfl, ⟨p1, rfl, h1⟩, hb, bb, q⟩ := h
    refine ⟨_, (pss_one (ps_ret (pe_op op_fdivW (pe_ix ix_tup (pv 0) pe_int (fun _ _ => rfl)) (pe_ix ix_tup (pv 0) pe_int (fun _ _ => rfl))))), ?_⟩
    exact ⟨_, rfl, _, _, _, _, rfl, rfl, h1, ix0, _, rfl, _, _, _, _, rfl, rfl, h1, ix1, _, _, rfl, rfl, cdW hb bb, q⟩
theorem ok_l_times (T : Txt K mg) : FnOk P w K mg base CX0 3 T.f_l_times T.d_l_times Ps_l_times (spTimes K) := by
  refine T.F_l_times.ok sc_l_times (fun vs H Q E h => ?_) (fun cdv A outer s H vs Q E hr h => ?_)
  · obtain ⟨n, x, _, _, rfl, _⟩ := h; rfl
  · obtain ⟨n, x, a, b, rfl, ⟨p1, rfl, h1⟩, hb, bn, ba, bb, q⟩ := h
    refine ⟨_, (pss_one (ps_ret (pe_call (ok_l_reduce T) hr (by rfl) T.g_l_reduce T.F_l_reduce.kp T.b_l_reduce .nil pass0 (pa_cons (pe_op op_mulW (pv 0) (pe_ix ix_tup (pv 1) pe_int (fun _ _ => rfl))) (pa_cons (pe_ix ix_tup (pv 1) pe_int (fun _ _ => rfl)) pa_nil))))), ?_⟩
    exact ⟨_, rfl, _, rfl, _, _, _, _, rfl, rfl, h1, ix0, _, _, rfl, rfl, (cm bn ba), _, rfl, _, _, _, _, rfl, rfl, h1, ix1, _, _, rfl, hb, (bn.mul ba).mono, bb.mono, q⟩
theorem ok_is_lessQ (T : Txt K mg) : FnOk P w K mg base CX0 1 T.f_is_less T.d_is_less Ps_is_less (spLessQ K) := (ok_is_less T).imp fun vs H Q E h => by
  obtain ⟨x, y, p, q, rfl, hx, hy, bp, bq, k⟩ := h
  exact u_less hx hy bp bq k
theorem ok_l_lessQ (T : Txt K mg) : FnOk P w K mg base CX0 1 T.f_l_less T.d_l_less Ps_l_less (spLessQ K) := (ok_l_less T).imp fun vs H Q E h => by
  obtain ⟨x, y, p, q, rfl, hx, hy, bp, bq, k⟩ := h
  exact u_less hx hy bp bq k
theorem ok_floor_ofQ (T : Txt K mg) : FnOk P w K mg base CX0 1 T.f_floor_of T.d_floor_of Ps_floor_of (spFloorQ K) := (ok_floor_of T).imp fun vs H Q E h => by
  obtain ⟨x, p, rfl, hx, bp, k⟩ := h
  exact u_floor hx bp k
theorem ok_l_floorQ (T : Txt K mg) : FnOk P w K mg base CX0 1 T.f_l_floor T.d_l_floor Ps_l_floor (spFloorQ K) := (ok_l_floor T).imp fun vs H Q E h => by
  obtain ⟨x, p, rfl, hx, bp, k⟩ := h
  exact u_floor hx bp k
theorem ok_remainder (T : Txt K mg) : FnOk P w K mg base CX0 4 T.f_remainder T.d_remainder Ps_remainder (spRemQ K) := by
  refine T.F_remainder.ok sc_remainder (fun vs H Q E h => ?_) (fun cdv A outer s H vs Q E hr h => ?_)
  · obtain ⟨x, y, _, _, rfl, _⟩ := h; rfl
  · obtain ⟨x, y, p, P, rfl, f1, f2, hP, b1, b2, q⟩ := h
    have hne : P ≠ 0 := by grind
    refine ⟨_, (pss_cons (ps_set (i := 2) sc_remainder.nd rfl (Or.inl rfl) (pe_call (ok_floor_ofQ T) (hr.mono (by decide)) (by rfl) T.g_floor_of T.F_floor_of.kp T.b_floor_of .nil pass0 (pa_cons (pe_call (ok_divide T) hr (by rfl) T.g_divide T.F_divide.kp T.b_divide .nil pass0 (pa_cons (pv 0) (pa_cons (pv 1) pa_nil))) pa_nil)))
      (pss_one (ps_ret (pe_call (ok_subtract T) hr (by rfl) T.g_subtract T.F_subtract.kp T.b_subtract .nil pass0 (pa_cons (pv 0) (pa_cons (pe_call (ok_multiply T) hr (by rfl) T.g_multiply T.F_multiply.kp T.b_multiply .nil pass0 (pa_cons (pe_tup (pa_cons (pv 2) (pa_cons pe_int pa_nil))) (pa_cons (pv 1) pa_nil))) pa_nil)))))), ?_⟩
    refine ⟨_, rfl, _, rfl, u_div f1 f2 hne b1.mono b2.mono fun v H1 s1 f3 => ?_⟩
    have b3 : Bq 1600 (p / P) := Bq.div hne b1 b2
    refine ⟨_, _, rfl, f3, b3.mono, ?_⟩
    rintro _ _ rfl rfl
    have b4 := b3.floor
    refine ⟨_, rfl, _, rfl, sizeLine2 (by simp), fun c nc => ?_⟩
    have s2 := same_upd (o := HO.tup [V.int (p / P).floor, V.int 1]) nc
    have f4 : Dp K _ (.ref c) (dq ((p / P).floor : Rat)) := dq_lit nc rfl rfl
    refine ⟨_, rfl, u_mul f4 (Dp_same (s1.trans s2) f2) (Bq.int b4).mono b2.mono fun v2 H2 s3 f5 => ?_⟩
    refine (u_sub (Dp_same ((s1.trans s2).trans s3) f1) f5 b1.mono ((Bq.int b4).mul b2).mono fun v3 H3 s4 f6 => ?_)
    exact q v3 H3 (((s1.trans s2).trans s3).trans s4) f6
theorem ok_l_rest (T : Txt K mg) : FnOk P w K mg base CX0 4 T.f_l_rest T.d_l_rest Ps_l_rest (spRemQ K) := by
  refine T.F_l_rest.ok sc_l_rest (fun vs H Q E h => ?_) (fun cdv A outer s H vs Q E hr h => ?_)
  · obtain ⟨x, y, _, _, rfl, _⟩ := h; rfl
  · obtain ⟨x, y, p, P, rfl, f1, f2, hP, b1, b2, q⟩ := h
    have hne : P ≠ 0 := by grind
    refine ⟨_, (pss_one (ps_ret (pe_call (ok_l_subtract T) hr (by rfl) T.g_l_subtract T.F_l_subtract.kp T.b_l_subtract .nil pass0 (pa_cons (pv 0) (pa_cons (pe_call (ok_l_times T) hr (by rfl) T.g_l_times T.F_l_times.kp T.b_l_times .nil pass0 (pa_cons (pe_call (ok_l_floorQ T) (hr.mono (by decide)) (by rfl) T.g_l_floor T.F_l_floor.kp T.b_l_floor .nil pass0 (pa_cons (pe_call (ok_l_divide T) hr (by rfl) T.g_l_divide T.F_l_divide.kp T.b_l_divide .nil pass0 (pa_cons (pv 0) (pa_cons (pv 1) pa_nil))) pa_nil)) (pa_cons (pv 1) pa_nil))) pa_nil))))), ?_⟩
    refine ⟨_, rfl, _, rfl, _, rfl, u_div f1 f2 hne b1.mono b2.mono fun v H1 s1 f3 => ?_⟩
    have b3 : Bq 1600 (p / P) := Bq.div hne b1 b2
    refine ⟨_, _, rfl, f3, b3.mono, ?_⟩
    rintro _ _ rfl rfl
    have b4 := b3.floor
    refine ⟨_, rfl, u_times (Dp_same s1 f2) b4.mono b2.mono fun v2 H2 s3 f5 => ?_⟩
    refine (u_sub (Dp_same (s1.trans s3) f1) f5 b1.mono ((Bq.int b4).mul b2).mono fun v3 H3 s4 f6 => ?_)
    exact q v3 H3 ((s1.trans s3).trans s4) f6
end
end EP
namespace EP
open PySem PySem.Spec PyProof.Rows L2
section
variable {P : Program} {w : World} {K : PySem.W.Frag} {mg : Str → Option Value} {base : Heap}
theorem ok_l_source (T : Txt K mg) : FnOk P w K mg base CX0 1 T.f_l_source T.d_l_source Ps_l_source (spSource K) := by
  refine T.F_l_source.ok sc_l_source (fun vs H Q E h => ?_) (fun cdv A outer s H vs Q E hr h => ?_)
  · obtain ⟨a, ns, rfl, _⟩ := h; rfl
  · obtain ⟨a, ns, rfl, hS, hlen, q⟩ := h
    refine ⟨_, (pss_cons (ps_set (i := 1) sc_l_source.nd rfl (Or.inl rfl) (pe_op op_add pe_int (pe_op op_mulW pe_int (pe_callB call_len_seq (by rfl) T.m_len PySem.boot_len (pa_cons (pe_slice sl_list (pv 0) po_none (po_some pe_int)) pa_nil)))))
      (pss_cons (ps_for PassesOwn.never rfl (pi_list (pe_slice sl_list (pv 0) po_none (po_some pe_int))) (pg_name (i := 2) sc_l_source.nd rfl (Or.inl rfl)) (pss_one (ps_set (i := 1) sc_l_source.nd rfl (Or.inl rfl) (pe_op op_mod (pe_op op_add (pe_op op_add (pe_op op_mulW (pv 1) pe_int) (pe_op op_mod (pv 2) pe_int)) pe_int) pe_int))))
      (pss_one (ps_ret (pe_lst (pa_cons (pe_callTy call_list_of (by rfl) T.m_list (by decide +kernel) (pa_cons (pe_slice sl_list (pv 0) po_none (po_some pe_int)) pa_nil)) (pa_cons pe_int (pa_cons pe_int (pa_cons (pv 1) pa_nil))))))))), ?_⟩
    have bc : B 7 59 := by unfold B; decide
    have bm : B 32 48271 := by unfold B; decide
    have ecut : cutV (ns.map V.int) none (some 63) = ns.map V.int := by
      unfold cutV
      rw [HT.sIx_none, show HT.sIx (ns.map V.int).length (ns.map V.int).length (some 63) = min 63 (ns.map V.int).length from HT.sIx_nat _ _ 63, List.drop_zero, List.length_map, List.take_of_length_le]
      rw [List.length_map]; omega
    refine ⟨.ref a, rfl, 63, rfl, a, _, rfl, hS, fun c nc => ?_⟩
    rw [ecut]
    have s1 := same_upd (o := HO.lst (ns.map V.int)) nc
    refine ⟨c, _, rfl, .inl (.inl (.inl upd_same)), _, _, rfl, rfl, ?_, _, _, rfl, rfl, ?_⟩
    · rw [List.length_map]; exact cm (n := 7) (m := 7) bc (show (ns.length : Int).natAbs < 2 ^ 7 by omega)
    refine ⟨.ref a, rfl, 63, rfl, a, _, rfl, Evl.ex_l s1 hS, fun c2 nc2 => ?_⟩
    rw [ecut]
    have s2 := same_upd (o := HO.lst (ns.map V.int)) nc2
    refine ⟨c2, rfl, ⟨_, .inl (.inl upd_same)⟩, ?_⟩
    refine for_list (K := K) (xs := ns.map V.int) (fun i σ H' => Same H H' ∧ (H' c2 = some (.lst (ns.map V.int))) ∧ ∃ (sd : Int) (z : Option V), σ = [some (.ref a), some (.int sd), z] ∧ 0 ≤ sd ∧ sd < 2147483563) ?_ ?_ ?_ ?_
    · refine ⟨s1.trans s2, upd_same, _, none, rfl, ?_, ?_⟩
      · rw [List.length_map]; omega
      · rw [List.length_map]; omega
    · rintro i σ H' _ ⟨_, h, _⟩; exact .inl (.inl h)
    · rintro i x σ H' hx ⟨sH, hc2, sd, z, rfl, h0, h1⟩
      obtain ⟨n, hn, rfl⟩ : ∃ n, ns[i]? = some n ∧ V.int n = x := by
        rw [List.getElem?_map] at hx
        cases e : ns[i]? with
        | none => rw [e] at hx; cases hx
        | some n => rw [e] at hx; exact ⟨n, rfl, Option.some.inj hx⟩
      have bs : B 31 sd := by unfold B; omega
      refine ⟨_, rfl, _, _, rfl, rfl, cm bs bm, _, rfl, _, _, rfl, rfl, (by decide : (0:Int) < 2147483563), _, _, rfl, rfl, _, _, rfl, rfl, _, _, rfl, rfl, (by decide : (0:Int) < 2147483563), sH, hc2, _, _, rfl, ?_, ?_⟩
      · exact Int.emod_nonneg _ (by decide)
      · exact Int.emod_lt_of_pos _ (by decide)
    · rintro σ H' ⟨sH, hc2, sd, z, rfl, h0, h1⟩
      refine ⟨.ref a, rfl, 63, rfl, a, _, rfl, Evl.ex_l sH hS, fun c3 nc3 => ?_⟩
      rw [ecut]
      have s3 := same_upd (o := HO.lst (ns.map V.int)) nc3
      refine ⟨c3, _, rfl, .inl (.inl (.inl upd_same)), fun L nL => ?_⟩
      have s4 := same_upd (o := HO.lst (ns.map V.int)) nL
      refine ⟨_, rfl, sizeLine2 (by simp), fun r nr => ?_⟩
      have s5 := same_upd (o := HO.lst [.ref L, .int 0, .int 0, .int sd]) nr
      refine q r _ (((sH.trans s3).trans s4).trans s5) ⟨L, ns, 0, 0, sd, upd_same, ?_, ?_, by omega, by omega, by omega, h0, h1⟩
      · exact s5 _ _ upd_same
      · intro e; subst e; rw [upd_same] at nr; cases nr
theorem ok_l_draw (T : Txt K mg) : FnOk P w K mg base CX0 1 T.f_l_draw T.d_l_draw Ps_l_draw spDraw := by
  refine T.F_l_draw.ok sc_l_draw (fun vs H Q E h => ?_) (fun cdv A outer s H vs Q E hr h => ?_)
  · obtain ⟨a, m, rfl, _⟩ := h; rfl
  · obtain ⟨r, m, rfl, hm, bm, h0R, q⟩ := h
    obtain ⟨L, ns, i, c, sd, hr0, hL, nL, hi, hl, hc, hs0, hs1⟩ := id h0R
    have hrH := hr0
    refine ⟨_, (pss_cons (ps_if (PW.pt (pw_and (pt_cmpR op_eq (pe_ix ix_list (pv 0) pe_int (fun _ _ => rfl)) pe_int (nomark _)) (pw_and1 (pt_cmpR op_lt (pe_ix ix_list (pv 0) pe_int (fun _ _ => rfl)) (pe_callB call_len_seq (by rfl) T.m_len PySem.boot_len (pa_cons (pe_ix ix_list (pv 0) pe_int (fun _ _ => rfl)) pa_nil)) (nomark _))))) (pss_cons (ps_set (i := 2) sc_l_draw.nd rfl (Or.inl rfl) (pe_ix ix_list (pe_ix ix_list (pv 0) pe_int (fun _ _ => rfl)) (pe_ix ix_list (pv 0) pe_int (fun _ _ => rfl)) (fun _ _ => rfl)))
      (pss_cons (ps_asg (pe_op op_add (pe_ix ix_list (pv 0) pe_int (fun _ _ => rfl)) pe_int) (pg_sub (pv 0) pe_int set_list))
      (pss_one (ps_if (pt_cmpR op_ge (pv 2) (pe_op op_pow pe_int pe_int) (nomark _)) (pss_one (ps_asg (pv 2) (pg_sub (pv 0) pe_int set_list))) (pss_one (ps_asg (pe_op op_mod (pe_op op_add (pe_op op_add (pe_op op_mulW (pe_ix ix_list (pv 0) pe_int (fun _ _ => rfl)) pe_int) (pe_op op_mulW (pe_op op_mod (pv 2) pe_int) pe_int)) (pe_ix ix_list (pv 0) pe_int (fun _ _ => rfl))) pe_int) (pg_sub (pv 0) pe_int set_list))))))) pss_nil)
      (pss_cons (ps_if (pt_cmpR op_gt (pe_ix ix_list (pv 0) pe_int (fun _ _ => rfl)) pe_int (nomark _)) (pss_cons (ps_set (i := 3) sc_l_draw.nd rfl (Or.inl rfl) (pe_op op_mod (pe_ix ix_list (pv 0) pe_int (fun _ _ => rfl)) (pv 1)))
      (pss_cons (ps_asg (pe_op op_fdivW (pe_ix ix_list (pv 0) pe_int (fun _ _ => rfl)) (pv 1)) (pg_sub (pv 0) pe_int set_list))
      (pss_one (ps_ret (pv 3))))) pss_nil)
      (pss_cons (ps_set (i := 4) sc_l_draw.nd rfl (Or.inl rfl) (pe_ix ix_list (pv 0) pe_int (fun _ _ => rfl)))
      (pss_cons (ps_asg (pe_op op_mod (pe_op op_add (pe_op op_add (pe_op op_mulW (pv 4) (pv 4)) (pe_op op_mulW (pv 4) pe_int)) pe_int) pe_int) (pg_sub (pv 0) pe_int set_list))
      (pss_one (ps_ret (pe_op op_mod (pe_op op_add (pe_op op_fdivW (pe_ix ix_list (pv 0) pe_int (fun _ _ => rfl)) pe_int) (pe_op op_mulW (pe_op op_mod (pe_ix ix_list (pv 0) pe_int (fun _ _ => rfl)) pe_int) pe_int)) (pv 1)))))))), ?_⟩
    refine seq_by (fun σ H' => ∃ (i c sd : Int) (z1 : Option V), σ = [some (.ref r), some (.int m), z1, none, none] ∧ Gw r H H' ∧ H' r = some (.lst [.ref L, .int i, .int c, .int sd]) ∧ H' L = some (.lst (ns.map V.int)) ∧ 0 ≤ i ∧ 0 ≤ c ∧ 0 ≤ sd ∧ sd < 2147483563) ?_ (fun fin => ?_)
    · rintro σ H' ⟨i, c, sd, z1, rfl, g, hr0, hL, hi, hc, hs0, hs1⟩
      have hR : SqL K H' r [.ref L, .int i, .int c, .int sd] := .inl (.inl hr0)
      have mo : ∀ (c' sd' : Int), 0 ≤ c' → 0 ≤ sd' → sd' < 2147483563 → Mo r H (upd H' r (.lst [.ref L, .int i, .int c', .int sd'])) := fun c' sd' h1 h2 h3 =>
        ⟨fun a o n e => by rw [upd_ne n]; exact g a o n e, h0R, fun L' hL' => by
          obtain ⟨_, _, _, _, e1, _⟩ := hL'
          rw [hrH] at e1; cases e1
          exact ⟨ns, i, c', sd', upd_same, by rw [upd_ne nL]; exact hL, nL, hi, hl, h1, h2, h3⟩⟩
      refine ⟨_, rfl, _, _, _, _, rfl, rfl, hR, ix2, _, _, rfl, rfl, _, rfl, brI (fun hp => ?_) (fun hp => ?_)⟩
      · refine ⟨_, rfl, _, _, _, _, rfl, rfl, hR, ix2, _, rfl, _, _, rfl, rfl, hm, ?_⟩
        refine ⟨_, rfl, _, _, _, _, rfl, rfl, hR, ix2, _, rfl, _, _, rfl, rfl, cdW hm bm, _, rfl, r, _, _, 2, rfl, rfl, hr0, rfl, ?_⟩
        refine ⟨_, rfl, ?_⟩
        refine q _ _ (Int.emod_nonneg _ (by omega)) (Int.emod_lt_of_pos _ hm) ?_
        exact mo _ _ (Int.ediv_nonneg hc (by omega)) hs0 hs1
      · refine ⟨_, rfl, _, _, _, _, rfl, rfl, hR, ix3, ?_⟩
        have bs : B 31 sd := by unfold B; omega
        have b4 : B 20 40123 := by unfold B; decide
        have h1 := Int.emod_nonneg (sd * sd + sd * 40123 + 70001) (show (2147483563 : Int) ≠ 0 by decide)
        have h2 := Int.emod_lt_of_pos (sd * sd + sd * 40123 + 70001) (show (0 : Int) < 2147483563 by decide)
        refine ⟨_, rfl, _, rfl, _, _, rfl, rfl, cm bs bs, _, rfl, _, _, rfl, rfl, cm bs b4, _, _, rfl, rfl, _, _, rfl, rfl, _, _, rfl, rfl, (by decide : (0 : Int) < 2147483563), _, rfl, r, _, _, 3, rfl, rfl, hr0, rfl, ?_⟩
        have hR2 : SqL K (upd H' r (.lst [.ref L, .int i, .int c, .int ((sd * sd + sd * 40123 + 70001) % 2147483563)])) r [.ref L, .int i, .int c, .int ((sd * sd + sd * 40123 + 70001) % 2147483563)] := .inl (.inl upd_same)
        have b5 : B 7 59 := by unfold B; decide
        have b6 : ∀ e : Int, B 13 (e % 8111) := fun e => by unfold B; have := Int.emod_nonneg e (show (8111 : Int) ≠ 0 by decide); have := Int.emod_lt_of_pos e (show (0 : Int) < 8111 by decide); omega
        have b7 : B 8 229 := by unfold B; decide
        refine ⟨_, rfl, _, _, _, _, rfl, rfl, hR2, ix3, _, _, rfl, rfl, cdW (by decide) b5, _, rfl, _, _, _, _, rfl, rfl, hR2, ix3, _, _, rfl, rfl, (by decide : (0 : Int) < 8111), _, _, rfl, rfl, cm (b6 _) b7, _, _, rfl, rfl, _, rfl, _, _, rfl, rfl, hm, ?_⟩
        exact q _ _ (Int.emod_nonneg _ (by omega)) (Int.emod_lt_of_pos _ hm) (mo _ _ hc h1 h2)
    · have hR : SqL K H r [.ref L, .int i, .int c, .int sd] := .inl (.inl hr0)
      have hLL : SqL K H L (ns.map V.int) := .inl (.inl hL)
      refine ⟨_, rfl, _, _, _, _, rfl, rfl, hR, ix2, rfl, _, rfl, brEq (fun hc0 => ?_) (fun hc0 => ?_)⟩
      · refine ⟨_, rfl, _, _, _, _, rfl, rfl, hR, ix1, _, rfl, _, _, _, _, rfl, rfl, hR, ix0, L, _, rfl, .inl hLL, _, _, rfl, rfl, _, rfl, brI (fun hlt => ?_) (fun hlt => ?_)⟩
        · rw [List.length_map] at hlt
          obtain ⟨k, rfl⟩ := Int.eq_ofNat_of_zero_le hi
          have hk : k < ns.length := by omega
          refine ⟨_, rfl, _, _, _, _, rfl, rfl, hR, ix0, _, rfl, _, _, _, _, rfl, rfl, hR, ix1, L, _, _, .int ns[k], rfl, rfl, hLL, atI_nat (by rw [List.getElem?_map, List.getElem?_eq_getElem hk]; rfl), ?_⟩
          refine ⟨_, rfl, _, _, _, _, rfl, rfl, hR, ix1, _, _, rfl, rfl, _, rfl, r, _, _, 1, rfl, rfl, hr0, rfl, ?_⟩
          have hR2 : SqL K (upd H r (.lst [.ref L, .int (k + 1), .int c, .int sd])) r [.ref L, .int (k + 1), .int c, .int sd] := .inl (.inl upd_same)
          refine ⟨_, rfl, _, _, rfl, rfl, (⟨by decide, by decide, by decide⟩ : CPow 10 18), _, _, rfl, rfl, _, rfl, brI (fun hbig => ?_) (fun hbig => ?_)⟩
          · refine ⟨_, rfl, _, rfl, r, _, _, 2, rfl, rfl, upd_same, rfl, ?_⟩
            refine fin _ _ ⟨k + 1, ns[k], sd, _, rfl, fun a o n e => ?_, ?_, ?_, by omega, ?_, hs0, hs1⟩
            · rw [upd_ne n, upd_ne n]; exact e
            · rw [upd_same]; rfl
            · rw [upd_ne nL, upd_ne nL]; exact hL
            · have : (10 : Int) ^ (18 : Int).toNat ≤ ns[k] := hbig
              have h10 : (0 : Int) ≤ 10 ^ (18 : Int).toNat := by decide
              omega
          · have bs : B 31 sd := by unfold B; omega
            have b4 : B 20 40692 := by unfold B; decide
            have b6 : B 32 (ns[k] % 2147483563) := by unfold B; have := Int.emod_nonneg ns[k] (show (2147483563 : Int) ≠ 0 by decide); have := Int.emod_lt_of_pos ns[k] (show (0 : Int) < 2147483563 by decide); omega
            have b7 : B 8 67 := by unfold B; decide
            refine ⟨_, rfl, _, _, _, _, rfl, rfl, hR2, ix3, _, _, rfl, rfl, cm bs b4, _, rfl, _, _, rfl, rfl, (by decide : (0 : Int) < 2147483563), _, _, rfl, rfl, cm b6 b7, _, _, rfl, rfl, _, rfl, _, _, _, _, rfl, rfl, hR2, ix1, _, _, rfl, rfl, _, _, rfl, rfl, (by decide : (0 : Int) < 2147483563), _, rfl, r, _, _, 3, rfl, rfl, upd_same, rfl, ?_⟩
            refine fin _ _ ⟨k + 1, c, (sd * 40692 + ns[k] % 2147483563 * 67 + (k + 1)) % 2147483563, _, rfl, fun a o n e => ?_, ?_, ?_, by omega, hc, Int.emod_nonneg _ (by decide), Int.emod_lt_of_pos _ (by decide)⟩
            · rw [upd_ne n, upd_ne n]; exact e
            · rw [upd_same]; rfl
            · rw [upd_ne nL, upd_ne nL]; exact hL
        · exact fin _ _ ⟨i, c, sd, _, rfl, fun a o n e => e, hr0, hL, hi, hc, hs0, hs1⟩
      · exact fin _ _ ⟨i, c, sd, _, rfl, fun a o n e => e, hr0, hL, hi, hc, hs0, hs1⟩
theorem ok_l_choice (T : Txt K mg) : FnOk P w K mg base CX0 2 T.f_l_choice T.d_l_choice Ps_l_choice (spChoice K) := by
  refine T.F_l_choice.ok sc_l_choice (fun vs H Q E h => ?_) (fun cdv A outer s H vs Q E hr h => ?_)
  · obtain ⟨a, l, xs, rfl, _⟩ := h; rfl
  · obtain ⟨r, l, xs, rfl, hx, hlr, h0, hl, hR, q⟩ := h
    refine ⟨_, (pss_one (ps_ret (pe_ix ix_list (pv 1) (pe_call (ok_l_draw T) hr (by rfl) T.g_l_draw T.F_l_draw.kp T.b_l_draw .nil pass0 (pa_cons (pv 0) (pa_cons (pe_callB call_len_seq (by rfl) T.m_len PySem.boot_len (pa_cons (pv 1) pa_nil)) pa_nil))) (fun _ _ => rfl)))), ?_⟩
    refine ⟨_, rfl, _, rfl, _, rfl, l, xs, rfl, .inl hx, r, _, rfl, by omega, ?_, hR, fun x H' x0 x1 mo => ?_⟩
    · show B 2000 (xs.length : Int)
      exact B.mono (n := 20) (show (xs.length : Int).natAbs < 2 ^ 20 by omega)
    · obtain ⟨j, rfl⟩ := Int.eq_ofNat_of_zero_le x0
      have hj : j < xs.length := by omega
      exact ⟨l, xs, _, xs[j], rfl, rfl, sql_mo mo hlr hx, atI_nat (List.getElem?_eq_getElem hj), q _ _ (List.getElem_mem hj) mo⟩
theorem ok_l_equal (T : Txt K mg) : ∀ n : Nat, FnOk P w K mg base CX0 (n + 1) T.f_l_equal T.d_l_equal Ps_l_equal (spEqual K n) := by
  intro n
  induction n with
  | zero =>
    refine T.F_l_equal.ok sc_l_equal (fun vs H Q E h => ?_) (fun cdv A outer s H vs Q E hr h => ?_)
    · obtain ⟨x, y, d, rfl, _⟩ := h; rfl
    · obtain ⟨x, y, d, rfl, h1, h2, hd, hw, q⟩ := h
      exact absurd hd (Nat.not_lt_zero _)
  | succ n IH =>
    refine T.F_l_equal.ok sc_l_equal (fun vs H Q E h => ?_) (fun cdv A outer s H vs Q E hr h => ?_)
    · obtain ⟨x, y, d, rfl, _⟩ := h; rfl
    · obtain ⟨x, y, d, rfl, h1, h2, hd, hw, q⟩ := h
      refine ⟨_, (pss_cons (ps_if (pt_cmpR op_isN (pv 1) pe_non (nomark _)) (pss_one (ps_ret (pe_cmpR op_isN (pv 0) pe_non (nomark _)))) pss_nil)
      (pss_cons (ps_if (PW.pt (pw_or (pt_val (pe_callB call_isi (by rfl) T.m_isinstance (by decide +kernel) (pa_cons (pv 1) (pa_cons (pe_bltn (v := .ty "list") (u := .type "list") (by rfl) T.m_list (by decide +kernel) rfl) pa_nil)))) (pw_or1 (pt_val (pe_callB call_isi (by rfl) T.m_isinstance (by decide +kernel) (pa_cons (pv 1) (pa_cons (pe_bltn (v := .ty "tuple") (u := .type "tuple") (by rfl) T.m_tuple (by decide +kernel) rfl) pa_nil))))))) (pss_cons (ps_if (PW.pt (pw_or (pt_cmpR op_ne (pe_callB call_isi (by rfl) T.m_isinstance (by decide +kernel) (pa_cons (pv 0) (pa_cons (pe_bltn (v := .ty "list") (u := .type "list") (by rfl) T.m_list (by decide +kernel) rfl) pa_nil))) (pe_callB call_isi (by rfl) T.m_isinstance (by decide +kernel) (pa_cons (pv 1) (pa_cons (pe_bltn (v := .ty "list") (u := .type "list") (by rfl) T.m_list (by decide +kernel) rfl) pa_nil))) (nomark _)) (pw_or1 (pt_cmpR op_ne (pe_callB call_isi (by rfl) T.m_isinstance (by decide +kernel) (pa_cons (pv 0) (pa_cons (pe_bltn (v := .ty "tuple") (u := .type "tuple") (by rfl) T.m_tuple (by decide +kernel) rfl) pa_nil))) (pe_callB call_isi (by rfl) T.m_isinstance (by decide +kernel) (pa_cons (pv 1) (pa_cons (pe_bltn (v := .ty "tuple") (u := .type "tuple") (by rfl) T.m_tuple (by decide +kernel) rfl) pa_nil))) (nomark _))))) (pss_one (ps_ret pe_bl)) pss_nil)
      (pss_one (ps_ret (pe_and (pe_cmpR op_eq (pe_callB call_len_seq (by rfl) T.m_len PySem.boot_len (pa_cons (pv 0) pa_nil)) (pe_callB call_len_seq (by rfl) T.m_len PySem.boot_len (pa_cons (pv 1) pa_nil)) (nomark _)) (pe_one (pe_callB (cr_all rfl) (by rfl) T.m_all (by decide +kernel) (pa_cons (pe_lc (own := [("_law_a", 2), ("_law_b", 3)]) (g := (gTup K 2 (gCons (gName 2) (gCons (gName 3) gNil)))) (tt := tYes) rfl sc_l_equal.nd (RZ.pi_zipA (by rfl) T.m_zip (pa_cons (pv 0) (pa_cons (pv 1) pa_nil))) (blkOk_by (N := N_l_equal) (sc := defScope s_l_equal) (by decide +kernel)) (fun _ _ _ _ _ => (pg_tup rfl (pgs_cons (pg_name (i := 2) sc_l_equal.nd rfl (Or.inl rfl)) (pgs_cons (pg_name (i := 3) sc_l_equal.nd rfl (Or.inl rfl)) pgs_nil)))) (fun _ _ _ _ _ => pts_nil) (fun _ _ _ _ _ => (pe_call IH hr (by rfl) T.g_l_equal T.F_l_equal.kp T.b_l_equal .nil pass0 (pa_cons (pv 2) (pa_cons (pv 3) pa_nil))))) pa_nil))))))) pss_nil)
      (pss_cons (ps_if (PW.pt (pw_or (pt_cmpR op_ne (pe_callB call_isi (by rfl) T.m_isinstance (by decide +kernel) (pa_cons (pv 1) (pa_cons (pe_bltn (v := .ty "bool") (u := .type "bool") (by rfl) T.m_bool (by decide +kernel) rfl) pa_nil))) (pe_callB call_isi (by rfl) T.m_isinstance (by decide +kernel) (pa_cons (pv 0) (pa_cons (pe_bltn (v := .ty "bool") (u := .type "bool") (by rfl) T.m_bool (by decide +kernel) rfl) pa_nil))) (nomark _)) (pw_or1 (pt_cmpR op_ne (pe_callB call_isi (by rfl) T.m_isinstance (by decide +kernel) (pa_cons (pv 1) (pa_cons (pe_bltn (v := .ty "int") (u := .type "int") (by rfl) T.m_int (by decide +kernel) rfl) pa_nil))) (pe_callB call_isi (by rfl) T.m_isinstance (by decide +kernel) (pa_cons (pv 0) (pa_cons (pe_bltn (v := .ty "int") (u := .type "int") (by rfl) T.m_int (by decide +kernel) rfl) pa_nil))) (nomark _))))) (pss_one (ps_ret pe_bl)) pss_nil)
      (pss_one (ps_ret (pe_and (pe_cmpR op_eq (pe_callB call_isi (by rfl) T.m_isinstance (by decide +kernel) (pa_cons (pv 0) (pa_cons (pe_bltn (v := .ty "str") (u := .type "str") (by rfl) T.m_str (by decide +kernel) rfl) pa_nil))) (pe_callB call_isi (by rfl) T.m_isinstance (by decide +kernel) (pa_cons (pv 1) (pa_cons (pe_bltn (v := .ty "str") (u := .type "str") (by rfl) T.m_str (by decide +kernel) rfl) pa_nil))) (nomark _)) (pe_one (pe_cmpR op_eq (pv 0) (pv 1) (nomark _))))))))), ?_⟩
      cases d with
      | none =>
        cases h1; cases h2
        refine ⟨_, rfl, rfl, _, rfl, iteT ?_⟩
        exact ⟨_, rfl, rfl, q _ (Same.refl _)⟩
      | bool b =>
        cases h1; cases h2
        have ty : TyX K H (.bl b) (.type "bool") := .base (.bl b)
        refine ⟨_, rfl, rfl, _, rfl, iteF ?_⟩
        refine ⟨_, rfl, _, _, _, _, _, rfl, .ty _, ty, kt_bool_list, _, rfl, iteF ⟨_, rfl, _, _, _, _, _, rfl, .ty _, ty, kt_bool_tuple, _, rfl, iteF ?_⟩⟩
        refine ⟨_, rfl, _, _, _, _, _, rfl, .ty _, ty, kt_bool_bool, _, rfl, _, _, _, _, _, rfl, .ty _, ty, kt_bool_bool, rfl, _, rfl, iteF ⟨_, rfl, _, _, _, _, _, rfl, .ty _, ty, kt_bool_int, _, rfl, _, _, _, _, _, rfl, .ty _, ty, kt_bool_int, rfl, _, rfl, iteF ?_⟩⟩
        refine ⟨_, rfl, _, _, _, _, _, rfl, .ty _, ty, kt_bool_str, _, rfl, _, _, _, _, _, rfl, .ty _, ty, kt_bool_str, rfl, _, rfl, iteT ?_⟩
        refine ⟨_, rfl, _, rfl, rfl, ?_⟩
        rw [decide_eq_true rfl]; exact q _ (Same.refl _)
      | int b =>
        cases h1; cases h2
        have ty : TyX K H (.int b) (.type "int") := .base (.int b)
        refine ⟨_, rfl, rfl, _, rfl, iteF ?_⟩
        refine ⟨_, rfl, _, _, _, _, _, rfl, .ty _, ty, kt_int_list, _, rfl, iteF ⟨_, rfl, _, _, _, _, _, rfl, .ty _, ty, kt_int_tuple, _, rfl, iteF ?_⟩⟩
        refine ⟨_, rfl, _, _, _, _, _, rfl, .ty _, ty, kt_int_bool, _, rfl, _, _, _, _, _, rfl, .ty _, ty, kt_int_bool, rfl, _, rfl, iteF ⟨_, rfl, _, _, _, _, _, rfl, .ty _, ty, kt_int_int, _, rfl, _, _, _, _, _, rfl, .ty _, ty, kt_int_int, rfl, _, rfl, iteF ?_⟩⟩
        refine ⟨_, rfl, _, _, _, _, _, rfl, .ty _, ty, kt_int_str, _, rfl, _, _, _, _, _, rfl, .ty _, ty, kt_int_str, rfl, _, rfl, iteT ?_⟩
        refine ⟨_, rfl, _, rfl, rfl, ?_⟩
        rw [decide_eq_true rfl]; exact q _ (Same.refl _)
      | str b =>
        cases h1; cases h2
        have ty : TyX K H (.str b) (.type "str") := .base (.str b)
        refine ⟨_, rfl, rfl, _, rfl, iteF ?_⟩
        refine ⟨_, rfl, _, _, _, _, _, rfl, .ty _, ty, kt_str_list, _, rfl, iteF ⟨_, rfl, _, _, _, _, _, rfl, .ty _, ty, kt_str_tuple, _, rfl, iteF ?_⟩⟩
        refine ⟨_, rfl, _, _, _, _, _, rfl, .ty _, ty, kt_str_bool, _, rfl, _, _, _, _, _, rfl, .ty _, ty, kt_str_bool, rfl, _, rfl, iteF ⟨_, rfl, _, _, _, _, _, rfl, .ty _, ty, kt_str_int, _, rfl, _, _, _, _, _, rfl, .ty _, ty, kt_str_int, rfl, _, rfl, iteF ?_⟩⟩
        refine ⟨_, rfl, _, _, _, _, _, rfl, .ty _, ty, kt_str_str, _, rfl, _, _, _, _, _, rfl, .ty _, ty, kt_str_str, rfl, _, rfl, iteT ?_⟩
        refine ⟨_, rfl, _, rfl, rfl, ?_⟩
        rw [decide_eq_true rfl]; exact q _ (Same.refl _)
      | dict b => cases h1
      | list ds =>
        cases h1 with
        | @lst p xs _ hs ha =>
        cases h2 with
        | @lst p2 ys _ hs2 ha2 =>
        have ty : TyX K H (.ref p) (.type "list") := ty_list hs
        have ty2 : TyX K H (.ref p2) (.type "list") := ty_list hs2
        have e1 := DpAll_len ha
        have e2 := DpAll_len ha2
        refine ⟨_, rfl, rfl, _, rfl, iteF ?_⟩
        refine ⟨_, rfl, _, _, _, _, _, rfl, .ty _, ty2, kt_list_list, _, rfl, iteT (iteT ?_)⟩
        refine ⟨_, rfl, _, _, _, _, _, rfl, .ty _, ty, kt_list_list, _, rfl, _, _, _, _, _, rfl, .ty _, ty2, kt_list_list, rfl, _, rfl, iteF ⟨_, rfl, _, _, _, _, _, rfl, .ty _, ty, kt_list_tuple, _, rfl, _, _, _, _, _, rfl, .ty _, ty2, kt_list_tuple, rfl, _, rfl, iteF ?_⟩⟩
        refine ⟨_, rfl, p, xs, rfl, .inl hs, _, rfl, p2, ys, rfl, .inl hs2, rfl, _, rfl, brEq (fun _ => ?_) (fun z => absurd (by omega) z)⟩
        refine ⟨_, rfl, _, rfl, p, p2, xs, ys, rfl, .inl ⟨hs, hs2, fun D nD => ?_⟩⟩
        refine lc_it (walk_zip (n := ds.length) (by omega)) (fun i H' => Same H H' ∧ H' D = some (.lst (List.replicate i (.bl true)))) ⟨same_upd nD, upd_same⟩ (fun i H' _ h => ⟨Evl.ex_l h.1 hs, Evl.ex_l h.1 hs2⟩) ?_ ?_
        · rintro i x H1 H2 hi ⟨sH, hD⟩ ⟨U, x1, x2, rfl, nU, rfl, g1, g2⟩
          have sU := same_upd (o := HO.tup [x1, x2]) nU
          obtain ⟨d1, k1, q1⟩ := DpAll_get ha g1
          obtain ⟨d2, k2, q2⟩ := DpAll_get ha2 g2
          rw [k1] at k2; cases k2
          have hdep := deps_get k1
          refine ⟨U, [x1, x2], rfl, .inl (.inl upd_same), rfl, x1, [x2], rfl, x2, [], rfl, rfl, rfl, ?_⟩
          refine ⟨_, rfl, _, rfl, x1, x2, d1, rfl, Dp_same (sH.trans sU) q1, Dp_same (sH.trans sU) q2, by unfold dep at hd; omega, by unfold wd at hw; have := wds_get k1; omega, fun H4 s4 => ?_⟩
          refine ⟨_, s4 _ _ (sU _ _ hD), ?_, ?_, ?_⟩
          · rw [List.length_replicate]; exact Nat.lt_of_lt_of_le (show i < 1000000 by unfold wd at hw; omega) (by decide)
          · intro b o e
            have nb : b ≠ D := fun z => by subst z; rw [nD] at e; cases e
            rw [upd_ne nb]; exact s4 _ _ (sU _ _ (sH _ _ e))
          · rw [upd_same, List.replicate_succ']
        · rintro H1 ⟨sH, hD⟩
          refine ⟨D, List.replicate ds.length true, rfl, .inl (.inl ?_), ?_⟩
          · rw [List.map_replicate]; exact hD
          · rw [all_true]; exact q _ sH
      | tuple ds =>
        cases h1 with
        | @tup p xs _ hs ha =>
        cases h2 with
        | @tup p2 ys _ hs2 ha2 =>
        have ty : TyX K H (.ref p) (.type "tuple") := ty_tuple hs
        have ty2 : TyX K H (.ref p2) (.type "tuple") := ty_tuple hs2
        have e1 := DpAll_len ha
        have e2 := DpAll_len ha2
        refine ⟨_, rfl, rfl, _, rfl, iteF ?_⟩
        refine ⟨_, rfl, _, _, _, _, _, rfl, .ty _, ty2, kt_tuple_list, _, rfl, iteF ⟨_, rfl, _, _, _, _, _, rfl, .ty _, ty2, kt_tuple_tuple, _, rfl, iteT ?_⟩⟩
        refine ⟨_, rfl, _, _, _, _, _, rfl, .ty _, ty, kt_tuple_list, _, rfl, _, _, _, _, _, rfl, .ty _, ty2, kt_tuple_list, rfl, _, rfl, iteF ⟨_, rfl, _, _, _, _, _, rfl, .ty _, ty, kt_tuple_tuple, _, rfl, _, _, _, _, _, rfl, .ty _, ty2, kt_tuple_tuple, rfl, _, rfl, iteF ?_⟩⟩
        refine ⟨_, rfl, p, xs, rfl, .inr hs, _, rfl, p2, ys, rfl, .inr hs2, rfl, _, rfl, brEq (fun _ => ?_) (fun z => absurd (by omega) z)⟩
        refine ⟨_, rfl, _, rfl, p, p2, xs, ys, rfl, .inr ⟨hs, hs2, fun D nD => ?_⟩⟩
        refine lc_it (walk_zipT (n := ds.length) (by omega)) (fun i H' => Same H H' ∧ H' D = some (.lst (List.replicate i (.bl true)))) ⟨same_upd nD, upd_same⟩ (fun i H' _ h => ⟨Evl.ex_t h.1 hs, Evl.ex_t h.1 hs2⟩) ?_ ?_
        · rintro i x H1 H2 hi ⟨sH, hD⟩ ⟨U, x1, x2, rfl, nU, rfl, g1, g2⟩
          have sU := same_upd (o := HO.tup [x1, x2]) nU
          obtain ⟨d1, k1, q1⟩ := DpAll_get ha g1
          obtain ⟨d2, k2, q2⟩ := DpAll_get ha2 g2
          rw [k1] at k2; cases k2
          have hdep := deps_get k1
          refine ⟨U, [x1, x2], rfl, .inl (.inl upd_same), rfl, x1, [x2], rfl, x2, [], rfl, rfl, rfl, ?_⟩
          refine ⟨_, rfl, _, rfl, x1, x2, d1, rfl, Dp_same (sH.trans sU) q1, Dp_same (sH.trans sU) q2, by unfold dep at hd; omega, by unfold wd at hw; have := wds_get k1; omega, fun H4 s4 => ?_⟩
          refine ⟨_, s4 _ _ (sU _ _ hD), ?_, ?_, ?_⟩
          · rw [List.length_replicate]; exact Nat.lt_of_lt_of_le (show i < 1000000 by unfold wd at hw; omega) (by decide)
          · intro b o e
            have nb : b ≠ D := fun z => by subst z; rw [nD] at e; cases e
            rw [upd_ne nb]; exact s4 _ _ (sU _ _ (sH _ _ e))
          · rw [upd_same, List.replicate_succ']
        · rintro H1 ⟨sH, hD⟩
          refine ⟨D, List.replicate ds.length true, rfl, .inl (.inl ?_), ?_⟩
          · rw [List.map_replicate]; exact hD
          · rw [all_true]; exact q _ sH
theorem ok_l_small (T : Txt K mg) : FnOk P w K mg base CX0 3 T.f_l_small T.d_l_small Ps_l_small (spDrawn K 5) := by
  refine T.F_l_small.ok sc_l_small (fun vs H Q E h => ?_) (fun cdv A outer s H vs Q E hr h => ?_)
  · obtain ⟨r, rfl, _⟩ := h; rfl
  · obtain ⟨r, rfl, hR, q⟩ := h
    refine ⟨_, (pss_one (ps_ret (pe_call (ok_l_reduce T) hr (by rfl) T.g_l_reduce T.F_l_reduce.kp T.b_l_reduce .nil pass0 (pa_cons (pe_op op_sub (pe_call (ok_l_draw T) (hr.mono (by decide)) (by rfl) T.g_l_draw T.F_l_draw.kp T.b_l_draw .nil pass0 (pa_cons (pv 0) (pa_cons pe_int pa_nil))) pe_int) (pa_cons (pe_call (ok_l_choice T) hr (by rfl) T.g_l_choice T.F_l_choice.kp T.b_l_choice .nil pass0 (pa_cons (pv 0) (pa_cons (pe_lst (pa_cons pe_int (pa_cons pe_int (pa_cons pe_int (pa_cons pe_int (pa_cons pe_int pa_nil)))))) pa_nil))) pa_nil))))), ?_⟩
    refine ⟨_, rfl, r, 25, rfl, by decide, (B.of (n := 10) (by decide)).mono, hR, fun x H1 x0 x1 m1 => ?_⟩
    refine ⟨_, _, rfl, rfl, _, rfl, sizeLine2 (by simp), fun l nl => ?_⟩
    have m2 := Mo.new (o := HO.lst [.int 1, .int 1, .int 2, .int 3, .int 4]) m1.b nl
    refine ⟨r, l, _, rfl, .inl (.inl upd_same), m1.b.ne nl, by simp, by simp, m2.b, fun y H2 hy m3 => ?_⟩
    obtain ⟨d, rfl, hd⟩ : ∃ d : Int, y = .int d ∧ 1 ≤ d ∧ d ≤ 4 := by
      simp only [List.mem_cons, List.not_mem_nil, or_false] at hy
      rcases hy with rfl | rfl | rfl | rfl | rfl <;> exact ⟨_, rfl, by decide, by decide⟩
    have bn : B 5 (x - 12) := B.of (by omega)
    have bd : B 5 d := B.of (by omega)
    refine ⟨_, d, rfl, by omega, bn.mono, bd.mono, fun v H3 s f => ?_⟩
    exact q v _ _ H3 (((m1.trans m2).trans m3).trans (.same m3.b s)) (.red (by omega) f bn bd)
theorem ok_l_wide (T : Txt K mg) : FnOk P w K mg base CX0 4 T.f_l_wide T.d_l_wide Ps_l_wide (spDrawn K 40) := by
  refine T.F_l_wide.ok sc_l_wide (fun vs H Q E h => ?_) (fun cdv A outer s H vs Q E hr h => ?_)
  · obtain ⟨r, rfl, _⟩ := h; rfl
  · obtain ⟨r, rfl, hR, q⟩ := h
    refine ⟨_, (pss_cons (ps_set (i := 1) sc_l_wide.nd rfl (Or.inl rfl) (pe_call (ok_l_reduce T) (hr.mono (by decide)) (by rfl) T.g_l_reduce T.F_l_reduce.kp T.b_l_reduce .nil pass0 (pa_cons (pe_op op_add (pe_op op_sub (pe_call (ok_l_draw T) (hr.mono (by decide)) (by rfl) T.g_l_draw T.F_l_draw.kp T.b_l_draw .nil pass0 (pa_cons (pv 0) (pa_cons (pe_op op_sub (pe_op op_mulW pe_int (pe_op op_pow pe_int pe_int)) pe_int) pa_nil))) (pe_op op_pow pe_int pe_int)) pe_int) (pa_cons (pe_op op_add pe_int (pe_call (ok_l_draw T) (hr.mono (by decide)) (by rfl) T.g_l_draw T.F_l_draw.kp T.b_l_draw .nil pass0 (pa_cons (pv 0) (pa_cons (pe_op op_sub (pe_op op_pow pe_int pe_int) pe_int) pa_nil)))) pa_nil))))
      (pss_one (ps_ret (pe_call (ok_l_choice T) (hr.mono (by decide)) (by rfl) T.g_l_choice T.F_l_choice.kp T.b_l_choice .nil pass0 (pa_cons (pv 0) (pa_cons (pe_lst (pa_cons (pv 1) (pa_cons (pe_call (ok_l_small T) hr (by rfl) T.g_l_small T.F_l_small.kp T.b_l_small .nil pass0 (pa_cons (pv 0) pa_nil)) (pa_cons (pe_call (ok_l_small T) hr (by rfl) T.g_l_small T.F_l_small.kp T.b_l_small .nil pass0 (pa_cons (pv 0) pa_nil)) (pa_cons (pe_tup (pa_cons pe_int (pa_cons pe_int pa_nil))) (pa_cons (pe_tup (pa_cons pe_int (pa_cons pe_int pa_nil))) (pa_cons (pe_tup (pa_cons (pe_op op_sub (pe_op op_pow pe_int pe_int) pe_int) (pa_cons pe_int pa_nil))) pa_nil))))))) pa_nil)))))), ?_⟩
    have c12 : CPow 10 12 := ⟨by decide, by decide, by decide⟩
    have b2 : B 2 2 := B.of (by decide)
    have b12 : B 40 (10 ^ (12 : Int).toNat) := B.of (by decide)
    refine ⟨_, rfl, _, _, rfl, rfl, c12, _, _, rfl, rfl, cm b2 b12, _, _, rfl, rfl, r, _, rfl, by decide, (B.of (n := 41) (by decide)).mono, hR, fun x H1 x0 x1 m1 => ?_⟩
    refine ⟨_, _, rfl, rfl, c12, _, _, rfl, rfl, _, _, rfl, rfl, _, rfl, _, _, rfl, rfl, c12, _, _, rfl, rfl, r, _, rfl, by decide, (B.of (n := 41) (by decide)).mono, m1.b, fun y H2 y0 y1 m2 => ?_⟩
    simp only [Int.reduceToNat, Int.reducePow, Int.reduceMul, Int.reduceSub] at x1 y1
    have bn : B 40 (x - 10 ^ (12 : Int).toNat + 1) := B.of (by simp only [Int.reduceToNat, Int.reducePow, Nat.reducePow]; omega)
    have bd : B 40 (1 + y) := B.of (by simp only [Nat.reducePow]; omega)
    refine ⟨_, _, rfl, rfl, _, _, rfl, by omega, bn.mono, bd.mono, fun v H3 s f => ?_⟩
    have fv : Fq K H3 40 v _ _ := .red (by omega) f bn bd
    have m3 := (m1.trans m2).trans (.same m2.b s)
    refine ⟨_, rfl, _, rfl, _, rfl, r, rfl, m3.b, fun v4 a4 b4 H4 m4 f4 => ?_⟩
    refine ⟨_, rfl, r, rfl, m4.b, fun v5 a5 b5 H5 m5 f5 => ?_⟩
    refine ⟨sizeLine2 (by simp), fun p6 n6 => ?_⟩
    have m6 := Mo.new (o := HO.tup [.int 0, .int 1]) m5.b n6
    have f6 : Fq K (upd H5 p6 (.tup [.int 0, .int 1])) 40 (.ref p6) 0 1 := .lit upd_same (by decide) (B.of (by decide)) (B.of (by decide)) rfl
    refine ⟨sizeLine2 (by simp), fun p7 n7 => ?_⟩
    have m7 := Mo.new (o := HO.tup [.int 1, .int 1]) m6.b n7
    have f7 : Fq K (upd (upd H5 p6 (.tup [.int 0, .int 1])) p7 (.tup [.int 1, .int 1])) 40 (.ref p7) 1 1 := .lit upd_same (by decide) (B.of (by decide)) (B.of (by decide)) rfl
    refine ⟨_, _, rfl, rfl, c12, _, _, rfl, rfl, sizeLine2 (by simp), fun p8 n8 => ?_⟩
    have m8 := Mo.new (o := HO.tup [.int (10 ^ (12 : Int).toNat - 1), .int 1]) m7.b n8
    have f8 := Fq.lit (K := K) (k := 40) (upd_same (H := upd (upd H5 p6 (.tup [.int 0, .int 1])) p7 (.tup [.int 1, .int 1])) (a := p8) (o := HO.tup [.int (10 ^ (12 : Int).toNat - 1), .int 1])) (by decide) (B.of (by decide)) (B.of (by decide)) (by decide)
    refine ⟨sizeLine2 (by simp), fun l nl => ?_⟩
    have m9 := Mo.new (o := HO.lst [v, v4, v5, .ref p6, .ref p7, .ref p8]) m8.b nl
    refine ⟨r, l, _, rfl, .inl (.inl upd_same), m8.b.ne nl, by simp, by simp, m9.b, fun y H9 hy m10 => ?_⟩
    have mm := m9.trans m10
    have mall := (((((m3.trans m4).trans m5).trans m6).trans m7).trans m8).trans mm
    simp only [List.mem_cons, List.not_mem_nil, or_false] at hy
    rcases hy with rfl | rfl | rfl | rfl | rfl | rfl
    · exact q _ _ _ _ mall (((((fv.mo m4).mo m5).mo m6).mo m7).mo m8 |>.mo mm)
    · exact q _ _ _ _ mall (((((f4.mono.mo m5).mo m6).mo m7).mo m8).mo mm)
    · exact q _ _ _ _ mall ((((f5.mono.mo m6).mo m7).mo m8).mo mm)
    · exact q _ _ _ _ mall (((f6.mo m7).mo m8).mo mm)
    · exact q _ _ _ _ mall ((f7.mo m8).mo mm)
    · exact q _ _ _ _ mall (f8.mo mm)
end
end EP
namespace EP
open PySem PySem.Spec PyProof.Rows L2
section
variable {P : Program} {w : World} {K : PySem.W.Frag} {mg : Str → Option Value} {base : Heap}
def spEnds (K : PySem.W.Frag) : Sp := fun vs H Q _ => ∃ (a : Addr) (us : List V) (xs : Sps), vs = [.ref a] ∧ SqT K H a us ∧ DpAll K H us (xs.map dsp) ∧ xs.length < 1000 ∧ (∀ x ∈ xs, Bq 100 x.1 ∧ Bq 100 x.2) ∧ ∀ D us' H', Same H H' → H' D = some (.lst us') → DpAll K H' us' ((ends xs).map dq) → Q (.ref D) H'
theorem noLs_dq (l : List Rat) : noLs (l.map dq) = true := noLs_all fun d h => by
  obtain ⟨x, _, rfl⟩ := List.mem_map.mp h; exact noL_dq x
theorem get_dsp {H : Hp} {us : List V} {xs : Sps} {i : Nat} {u : V} (h : DpAll K H us (xs.map dsp)) (e : us[i]? = some u) : ∃ x, xs[i]? = some x ∧ Dp K H u (dsp x) := by
  obtain ⟨d, h1, h2⟩ := DpAll_get h e
  rw [List.getElem?_map] at h1
  cases hx : xs[i]? with
  | none => rw [hx] at h1; cases h1
  | some x => rw [hx] at h1; cases Option.some.inj h1; exact ⟨x, rfl, h2⟩
theorem ok_span_ends (T : Txt K mg) : FnOk P w K mg base CX0 4 T.f_span_ends T.d_span_ends Ps_span_ends (spEnds K) := by
  refine T.F_span_ends.ok sc_span_ends (fun vs H Q E h => ?_) (fun cdv A outer s H vs Q E hr h => ?_)
  · obtain ⟨x, _, _, rfl, _⟩ := h; rfl
  · obtain ⟨a, us, xs, rfl, ha, hu, hl, hb, q⟩ := h
    refine ⟨_, (pss_one (ps_ret (pe_lc (own := [("begin", 1), ("length", 2)]) (g := (gTup K 2 (gCons (gName 1) (gCons (gName 2) gNil)))) (tt := tYes) rfl sc_span_ends.nd (pi_tup (pv 0)) (blkOk_by (N := N_span_ends) (sc := defScope s_span_ends) (by decide +kernel)) (fun _ _ _ _ _ => (pg_tup rfl (pgs_cons (pg_name (i := 1) sc_span_ends.nd rfl (Or.inl rfl)) (pgs_cons (pg_name (i := 2) sc_span_ends.nd rfl (Or.inl rfl)) pgs_nil)))) (fun _ _ _ _ _ => pts_nil) (fun _ _ _ _ _ => (pe_call (ok_add T) hr (by rfl) T.g_add T.F_add.kp T.b_add .nil pass0 (pa_cons (pv 1) (pa_cons (pv 2) pa_nil))))))), ?_⟩
    have el : us.length = xs.length := by rw [DpAll_len hu, List.length_map]
    refine ⟨_, rfl, a, rfl, ⟨_, ha⟩, fun D nD => ?_⟩
    refine lc_map (K := K) (walk_tup (xs := us)) ((ends xs).map dq) nD (by rw [List.length_map, ends, List.length_map, el]) (by omega) (noLs_dq _) (fun H' s => Evl.ex_t s ha) ?_ (fun H' us' s h1 h2 => q D us' H' s h1 h2)
    rintro i x d H1 H2 hi hd s1 ⟨rfl, hx⟩ R k
    obtain ⟨z, hz, dz⟩ := get_dsp hu hx
    have hdz : d = dq (z.1 + z.2) := by
      rw [List.getElem?_map, ends, List.getElem?_map, hz] at hd; exact (Option.some.inj hd).symm
    subst hdz
    obtain ⟨U, v1, v2, rfl, hU, d1, d2⟩ := dp_two (Dp_same s1 dz)
    have bz := hb z (List.mem_of_getElem? hz)
    refine ⟨U, [v1, v2], rfl, hU, rfl, v1, [v2], rfl, v2, [], rfl, rfl, rfl, ?_⟩
    exact ⟨_, rfl, _, rfl, u_add d1 d2 bz.1.mono bz.2.mono fun v H3 s3 f => k v H3 s3 f⟩
def spNexts (K : PySem.W.Frag) : Sp := fun vs H Q _ => ∃ (vP : V) (P : Rat) (a : Addr) (us : List V) (xs : Sps), vs = [vP, .ref a] ∧ Dp K H vP (dq P) ∧ Bq 130 P ∧ SqT K H a us ∧ DpAll K H us (xs.map dsp) ∧ xs.length < 1000 ∧ (∀ x ∈ xs, Bq 100 x.1 ∧ Bq 100 x.2) ∧ ∀ D us' H', Same H H' → H' D = some (.lst us') → DpAll K H' us' ((nexts P xs).map dq) → Q (.ref D) H'
theorem get_dq {H : Hp} {us : List V} {xs : List Rat} {i : Nat} {u : V} (h : DpAll K H us (xs.map dq)) (e : us[i]? = some u) : ∃ x, xs[i]? = some x ∧ Dp K H u (dq x) := by
  obtain ⟨d, h1, h2⟩ := DpAll_get h e
  rw [List.getElem?_map] at h1
  cases hx : xs[i]? with
  | none => rw [hx] at h1; cases h1
  | some x => rw [hx] at h1; cases Option.some.inj h1; exact ⟨x, rfl, h2⟩
theorem cut_from (xs : List V) : cutV xs (some 1) none = xs.drop 1 := by
  unfold cutV
  rw [HT.sIx_none, show HT.sIx xs.length 0 (some 1) = min 1 xs.length from HT.sIx_nat _ _ 1]
  cases xs with
  | nil => rfl
  | cons a l => simp
theorem cut_to (xs : List V) (n : Nat) : cutV xs none (some n) = xs.take n := by
  unfold cutV
  rw [HT.sIx_none, show HT.sIx xs.length xs.length (some (n : Int)) = min n xs.length from HT.sIx_nat _ _ n, List.drop_zero, Nat.sub_zero]
  rcases Nat.le_total n xs.length with h | h
  · rw [Nat.min_eq_left h]
  · rw [Nat.min_eq_right h, List.take_length, List.take_of_length_le h]
theorem cut_drop (xs : List V) (n : Nat) : cutV xs (some n) none = xs.drop n := by
  unfold cutV
  rw [HT.sIx_none, show HT.sIx xs.length 0 (some (n : Int)) = min n xs.length from HT.sIx_nat _ _ n]
  rcases Nat.le_total n xs.length with h | h
  · rw [Nat.min_eq_left h, List.take_of_length_le]; rw [List.length_drop]; exact Nat.le_refl _
  · rw [Nat.min_eq_right h, Nat.sub_self, List.take_zero, List.drop_of_length_le h]
theorem ok_next_begins (T : Txt K mg) : FnOk P w K mg base CX0 4 T.f_next_begins T.d_next_begins Ps_next_begins (spNexts K) := by
  refine T.F_next_begins.ok sc_next_begins (fun vs H Q E h => ?_) (fun cdv A outer s H vs Q E hr h => ?_)
  · obtain ⟨x, _, _, _, _, rfl, _⟩ := h; rfl
  · obtain ⟨vP, P, a, us, xs, rfl, fP, bP, ha, hu, hl, hb, q⟩ := h
    refine ⟨_, (pss_cons (ps_setLc (i := 2) (own := [("begin", 3), ("length", 4)]) (g := (gTup K 2 (gCons (gName 3) (gCons (gName 4) gNil)))) (tt := tYes) rfl sc_next_begins.nd rfl rfl (sw_true rfl rfl rfl (by decide +kernel)) (pi_tup (pv 1)) (blkOk_by (N := N_next_begins) (sc := defScope s_next_begins) (by decide +kernel)) (fun _ _ _ _ _ => (pg_tup rfl (pgs_cons (pg_name (i := 3) sc_next_begins.nd rfl (Or.inl rfl)) (pgs_cons (pg_name (i := 4) sc_next_begins.nd rfl (Or.inl rfl)) pgs_nil)))) (fun _ _ _ _ _ => pts_nil) (fun _ _ _ _ _ => (pv 3)))
      (pss_one (ps_ret (pe_op op_cat (pe_slice sl_list (pv 2) (po_some pe_int) po_none) (pe_lc (own := [("begin", 3)]) (g := (gName 3)) (tt := tYes) rfl sc_next_begins.nd (pi_list (pe_slice sl_list (pv 2) po_none (po_some pe_int))) (blkOk_by (N := N_next_begins) (sc := defScope s_next_begins) (by decide +kernel)) (fun _ _ _ _ _ => (pg_name (i := 3) sc_next_begins.nd rfl (Or.inl rfl))) (fun _ _ _ _ _ => pts_nil) (fun _ _ _ _ _ => (pe_call (ok_add T) hr (by rfl) T.g_add T.F_add.kp T.b_add .nil pass0 (pa_cons (pv 3) (pa_cons (pv 0) pa_nil))))))))), ?_⟩
    have el : us.length = xs.length := by rw [DpAll_len hu, List.length_map]
    refine ⟨_, rfl, a, rfl, ⟨_, ha⟩, fun D nD => ?_⟩
    refine lc_map (K := K) (walk_tup (xs := us)) ((begs xs).map dq) nD (by rw [List.length_map, begs, List.length_map, el]) (by omega) (noLs_dq _) (fun H' s => Evl.ex_t s ha) ?_ ?_
    · rintro i x d H1 H2 hi hd s1 ⟨rfl, hx⟩ R k
      obtain ⟨z, hz, dz⟩ := get_dsp hu hx
      have hdz : d = dq z.1 := by
        rw [List.getElem?_map, begs, List.getElem?_map, hz] at hd; exact (Option.some.inj hd).symm
      subst hdz
      obtain ⟨U, v1, v2, rfl, hU, d1, d2⟩ := dp_two (Dp_same s1 dz)
      refine ⟨U, [v1, v2], rfl, hU, rfl, v1, [v2], rfl, v2, [], rfl, rfl, rfl, ?_⟩
      exact ⟨_, rfl, k _ _ (Same.refl _) d1⟩
    · intro H1 bs s1 hD hbs
      have eb : bs.length = xs.length := by rw [DpAll_len hbs, List.length_map, begs, List.length_map]
      refine ⟨.ref D, rfl, 1, rfl, D, bs, rfl, .inl (.inl hD), fun c nc => ?_⟩
      rw [cut_from]
      have s2 := same_upd (o := HO.lst (bs.drop 1)) nc
      have hc : upd H1 c (.lst (bs.drop 1)) c = some (.lst (bs.drop 1)) := upd_same
      generalize upd H1 c (.lst (bs.drop 1)) = H2 at s2 hc
      refine ⟨.ref D, rfl, 1, rfl, D, bs, rfl, .inl (.inl (s2 _ _ hD)), fun c2 nc2 => ?_⟩
      rw [show cutV bs none (some 1) = bs.take 1 from cut_to bs 1]
      have s3 := same_upd (o := HO.lst (bs.take 1)) nc2
      have hc2 : upd H2 c2 (.lst (bs.take 1)) c2 = some (.lst (bs.take 1)) := upd_same
      generalize upd H2 c2 (.lst (bs.take 1)) = H3 at s3 hc2
      have s13 := s2.trans s3
      have s03 := s1.trans s13
      refine ⟨c2, rfl, ⟨_, .inl (.inl hc2)⟩, fun L nL => ?_⟩
      have hb1 : DpAll K H3 (bs.take 1) (((begs xs).take 1).map dq) := by
        rw [List.map_take]; exact DpAll_take 1 (DpAll_same s13 hbs)
      refine lc_map (K := K) (walk_list (xs := bs.take 1)) ((((begs xs).take 1).map (· + P)).map dq) nL (by rw [List.length_map, List.length_map, List.length_take, List.length_take, begs, List.length_map, eb]) (by rw [List.length_take]; omega) (noLs_dq _) (fun H' s => .inl (.inl (s _ _ hc2))) ?_ ?_
      · rintro i x d H4 H5 hi hd s4 ⟨rfl, hx⟩ R k
        obtain ⟨z, hz, dz⟩ := get_dq hb1 hx
        have hdz : d = dq (z + P) := by
          rw [List.getElem?_map, List.getElem?_map, hz] at hd; exact (Option.some.inj hd).symm
        subst hdz
        have bz : Bq 100 z := by
          have := List.mem_of_mem_take (List.mem_of_getElem? hz)
          obtain ⟨w, hw, rfl⟩ := List.mem_map.mp this
          exact (hb w hw).1
        refine ⟨rfl, ?_⟩
        exact ⟨_, rfl, _, rfl, u_add (Dp_same s4 dz) (Dp_same (s03.trans s4) fP) bz.mono bP.mono fun v H6 s6 f => k v H6 s6 f⟩
      · intro H4 ls s4 hL hls
        refine ⟨c, L, _, _, rfl, rfl, s4 _ _ (s3 _ _ hc), hL, ?_, fun r nr => ?_⟩
        · have := DpAll_len hls
          rw [List.length_drop]
          rw [List.length_map, List.length_map, List.length_take] at this
          exact sizeLine2 (by omega)
        · refine q r _ _ (((s03.trans s4).trans (same_upd nr))) upd_same ?_
          unfold nexts
          rw [List.map_append]
          refine DpAll_same (same_upd nr) (DpAll_append hls ?_)
          rw [List.map_drop]; exact DpAll_drop 1 (DpAll_same (s13.trans s4) hbs)
def spFits (K : PySem.W.Frag) : Sp := fun vs H Q _ => ∃ (u vP : V) (x : Rat × Rat) (P : Rat), vs = [u, vP] ∧ Dp K H u (dsp x) ∧ Dp K H vP (dq P) ∧ Bq 100 P ∧ Bq 100 x.1 ∧ Bq 100 x.2 ∧ ∀ v H', v = .bl (fitsB P x) → H' = H → Q v H'
theorem b_zero : Bq 1 (0 : Rat) := ⟨B.of (by decide), B.of (by decide)⟩
theorem b_one : Bq 1 (1 : Rat) := ⟨B.of (by decide), B.of (by decide)⟩
theorem Txt.z0 (T : Txt K mg) (H : Hp) : Dp K H (.ref T.k_ZERO) (dq 0) := .tup (T.sk_ZERO H) (.cons (.int _) (.cons (.int _) .nil))
theorem Txt.o1 (T : Txt K mg) (H : Hp) : Dp K H (.ref T.k_ONE) (dq 1) := .tup (T.sk_ONE H) (.cons (.int _) (.cons (.int _) .nil))
theorem brB {b : Bool} {A B : Prop} (h1 : b = true → A) (h2 : b = false → B) : if b = true then A else B := by
  cases b
  · exact h2 rfl
  · exact h1 rfl
theorem brNB {b : Bool} {A B : Prop} (h1 : b = false → A) (h2 : b = true → B) : if (!b) = true then A else B := by
  cases b
  · exact h1 rfl
  · exact h2 rfl
theorem ok_fits (T : Txt K mg) : FnOk P w K mg base CX0 2 T.f_fits T.d_fits Ps_fits (spFits K) := by
  refine T.F_fits.ok sc_fits (fun vs H Q E h => ?_) (fun cdv A outer s H vs Q E hr h => ?_)
  · obtain ⟨x, _, _, _, rfl, _⟩ := h; rfl
  · obtain ⟨u, vP, x, P, rfl, hu, hP, bP, b1, b2, q⟩ := h
    refine ⟨_, (pss_cons (ps_asg (pv 0) (pg_tup (by rfl) (pgs_cons (pg_name (i := 2) sc_fits.nd rfl (Or.inl rfl)) (pgs_cons (pg_name (i := 3) sc_fits.nd rfl (Or.inl rfl)) pgs_nil))))
      (pss_cons (ps_if (PW.pt (pw_or (pt_val (pe_call (ok_is_lessQ T) hr (by rfl) T.g_is_less T.F_is_less.kp T.b_is_less .nil pass0 (pa_cons (pv 2) (pa_cons (pe_glob (v := .ref T.k_ZERO) (by rfl) T.gk_ZERO rfl) pa_nil)))) (pw_or1 (pt_not (pt_val (pe_call (ok_is_lessQ T) hr (by rfl) T.g_is_less T.F_is_less.kp T.b_is_less .nil pass0 (pa_cons (pv 2) (pa_cons (pv 1) pa_nil)))))))) (pss_one (ps_ret pe_bl)) pss_nil)
      (pss_one (ps_ret (pe_and (pe_call (ok_is_lessQ T) hr (by rfl) T.g_is_less T.F_is_less.kp T.b_is_less .nil pass0 (pa_cons (pe_glob (v := .ref T.k_ZERO) (by rfl) T.gk_ZERO rfl) (pa_cons (pv 3) pa_nil))) (pe_one (pe_not (pe_call (ok_is_lessQ T) hr (by rfl) T.g_is_less T.F_is_less.kp T.b_is_less .nil pass0 (pa_cons (pv 1) (pa_cons (pv 3) pa_nil)))))))))), ?_⟩
    obtain ⟨U, v1, v2, rfl, hU, d1, d2⟩ := dp_two hu
    unfold fitsB at q
    refine ⟨_, rfl, U, _, rfl, hU, rfl, _, _, rfl, _, _, rfl, rfl, ?_⟩
    refine ⟨_, rfl, _, _, _, _, rfl, d1, (T.z0 _), b1.mono, b_zero.mono, ?_⟩
    rintro _ _ rfl rfl
    refine ⟨_, rfl, brI (fun c => ?_) (fun c => ?_)⟩
    · rw [if_pos c] at q; exact q _ _ rfl rfl
    rw [if_neg c] at q
    refine ⟨_, rfl, _, rfl, _, _, _, _, rfl, d1, hP, b1.mono, bP.mono, ?_⟩
    rintro _ _ rfl rfl
    refine ⟨_, rfl, brNB (fun c => ?_) (fun c => ?_)⟩
    · rw [if_neg (of_decide_eq_false c)] at q; exact q _ _ rfl rfl
    rw [if_pos (of_decide_eq_true c)] at q
    refine ⟨_, rfl, _, _, _, _, rfl, (T.z0 _), d2, b_zero.mono, b2.mono, ?_⟩
    rintro _ _ rfl rfl
    refine ⟨_, rfl, brI (fun c => ?_) (fun c => ?_)⟩
    · rw [if_pos c] at q
      refine ⟨_, rfl, _, rfl, _, _, _, _, rfl, hP, d2, bP.mono, b2.mono, ?_⟩
      rintro _ _ rfl rfl
      exact ⟨_, rfl, q _ _ rfl rfl⟩
    · rw [if_neg c] at q; exact q _ _ rfl rfl
def spIsGate (K : PySem.W.Frag) : Sp := fun vs H Q _ => ∃ (v : V) (pl P : Rat) (xs : Sps), vs = [v] ∧ Dp K H v (dG pl P xs) ∧ Bq 100 P ∧ xs.length < 900 ∧ (∀ x ∈ xs, Bq 100 x.1 ∧ Bq 100 x.2) ∧ ∀ H', Same H H' → Q (.bl (gateB P xs)) H'
theorem get_map {α : Type} {f : α → PyData} {H : Hp} {us : List V} {xs : List α} {i : Nat} {u : V} (h : DpAll K H us (xs.map f)) (e : us[i]? = some u) : ∃ x, xs[i]? = some x ∧ Dp K H u (f x) := by
  obtain ⟨d, h1, h2⟩ := DpAll_get h e
  rw [List.getElem?_map] at h1
  cases hx : xs[i]? with
  | none => rw [hx] at h1; cases h1
  | some x => rw [hx] at h1; cases Option.some.inj h1; exact ⟨x, rfl, h2⟩
theorem noLs_bl (l : List Bool) : noLs (l.map PyData.bool) = true := noLs_all fun d h => by
  obtain ⟨x, _, rfl⟩ := List.mem_map.mp h; simp [noL]
theorem ends_len (xs : Sps) : (ends xs).length = xs.length := by unfold ends; rw [List.length_map]
theorem nexts_len (P : Rat) (xs : Sps) : (nexts P xs).length = xs.length := by
  unfold nexts begs
  rw [List.length_append, List.length_map, List.length_take, List.length_drop, List.length_map]; omega
theorem ok_is_gate (T : Txt K mg) : FnOk P w K mg base CX0 5 T.f_is_gate T.d_is_gate Ps_is_gate (spIsGate K) := by
  refine T.F_is_gate.ok sc_is_gate (fun vs H Q E h => ?_) (fun cdv A outer s H vs Q E hr h => ?_)
  · obtain ⟨x, _, _, _, rfl, _⟩ := h; rfl
  · obtain ⟨v, pl, P, xs, rfl, hv, bP, hl, hb, q⟩ := h
    refine ⟨_, (pss_cons (ps_asg (pv 0) (pg_tup (by rfl) (pgs_cons (pg_name (i := 1) sc_is_gate.nd rfl (Or.inl rfl)) (pgs_cons (pg_name (i := 2) sc_is_gate.nd rfl (Or.inr rfl)) (pgs_cons (pg_name (i := 3) sc_is_gate.nd rfl (Or.inl rfl)) pgs_nil)))))
      (pss_cons (ps_if (PW.pt (pw_or (pt_not (pt_val (pe_call (ok_is_lessQ T) (hr.mono (by decide)) (by rfl) T.g_is_less T.F_is_less.kp T.b_is_less .nil pass0 (pa_cons (pe_glob (v := .ref T.k_ZERO) (by rfl) T.gk_ZERO rfl) (pa_cons (pv 2) pa_nil))))) (pw_or1 (pt_cmpR op_gt (pe_callB call_len_seq (by rfl) T.m_len PySem.boot_len (pa_cons (pv 3) pa_nil)) (pe_glob (v := .int 6) (by rfl) T.gk_MAX_SPANS ⟨_, rfl⟩) (nomark _))))) (pss_one (ps_ret pe_bl)) pss_nil)
      (pss_cons (ps_if (pt_not (pt_val (pe_callB (cr_all rfl) (by rfl) T.m_all (by decide +kernel) (pa_cons (pe_lc (own := [("span", 4)]) (g := (gName 4)) (tt := tYes) rfl sc_is_gate.nd (pi_tup (pv 3)) (blkOk_by (N := N_is_gate) (sc := defScope s_is_gate) (by decide +kernel)) (fun _ _ _ _ _ => (pg_name (i := 4) sc_is_gate.nd rfl (Or.inl rfl))) (fun _ _ _ _ _ => pts_nil) (fun _ _ _ _ _ => (pe_call (ok_fits T) (hr.mono (by decide)) (by rfl) T.g_fits T.F_fits.kp T.b_fits .nil pass0 (pa_cons (pv 4) (pa_cons (pv 2) pa_nil))))) pa_nil)))) (pss_one (ps_ret pe_bl)) pss_nil)
      (pss_one (ps_ret (pe_not (pe_callB (cr_any rfl) (by rfl) T.m_any (by decide +kernel) (pa_cons (pe_lc (own := [("end", 5), ("after", 6)]) (g := (gTup K 2 (gCons (gName 5) (gCons (gName 6) gNil)))) (tt := tYes) rfl sc_is_gate.nd (RZ.pi_zipA (by rfl) T.m_zip (pa_cons (pe_call (ok_span_ends T) hr (by rfl) T.g_span_ends T.F_span_ends.kp T.b_span_ends .nil pass0 (pa_cons (pv 3) pa_nil)) (pa_cons (pe_call (ok_next_begins T) hr (by rfl) T.g_next_begins T.F_next_begins.kp T.b_next_begins .nil pass0 (pa_cons (pv 2) (pa_cons (pv 3) pa_nil))) pa_nil))) (blkOk_by (N := N_is_gate) (sc := defScope s_is_gate) (by decide +kernel)) (fun _ _ _ _ _ => (pg_tup rfl (pgs_cons (pg_name (i := 5) sc_is_gate.nd rfl (Or.inl rfl)) (pgs_cons (pg_name (i := 6) sc_is_gate.nd rfl (Or.inl rfl)) pgs_nil)))) (fun _ _ _ _ _ => pts_nil) (fun _ _ _ _ _ => (pe_call (ok_is_lessQ T) (hr.mono (by decide)) (by rfl) T.g_is_less T.F_is_less.kp T.b_is_less .nil pass0 (pa_cons (pv 6) (pa_cons (pv 5) pa_nil))))) pa_nil)))))))), ?_⟩
    obtain ⟨U, v1, v2, v3, rfl, hU, d1, d2, d3⟩ := dp_three hv
    obtain ⟨a, us, rfl, ha, hu⟩ := dp_tup d3
    have el : us.length = xs.length := by rw [DpAll_len hu, List.length_map]
    unfold gateB at q
    refine ⟨_, rfl, U, _, rfl, hU, rfl, _, _, rfl, _, _, rfl, _, _, rfl, rfl, ?_⟩
    refine ⟨_, rfl, _, _, _, _, rfl, (T.z0 _), d2, b_zero.mono, bP.mono, ?_⟩
    rintro _ _ rfl rfl
    refine ⟨_, rfl, brNB (fun c => ?_) (fun c => ?_)⟩
    · rw [if_neg (of_decide_eq_false c)] at q; exact q _ (Same.refl _)
    rw [if_pos (of_decide_eq_true c)] at q
    refine ⟨_, rfl, a, us, rfl, .inr ha, _, _, rfl, rfl, _, rfl, brI (fun c => ?_) (fun c => ?_)⟩
    · rw [if_neg (by omega)] at q; exact q _ (Same.refl _)
    rw [if_pos (by omega)] at q
    refine ⟨_, rfl, a, rfl, ⟨_, ha⟩, fun D nD => ?_⟩
    refine lc_map (K := K) (walk_tup (xs := us)) ((xs.map (fitsB P)).map PyData.bool) nD (by rw [List.length_map, List.length_map, el]) (by omega) (noLs_bl _) (fun H' s => Evl.ex_t s ha) ?_ ?_
    · rintro i x d H1 H2 hi hd s1 ⟨rfl, hx⟩ R k
      obtain ⟨z, hz, dz⟩ := get_map hu hx
      have hdz : d = .bool (fitsB P z) := by
        rw [List.getElem?_map, List.getElem?_map, hz] at hd; exact (Option.some.inj hd).symm
      subst hdz
      have bz := hb z (List.mem_of_getElem? hz)
      refine ⟨rfl, _, rfl, _, rfl, _, _, z, P, rfl, Dp_same s1 dz, Dp_same s1 d2, bP, bz.1, bz.2, ?_⟩
      rintro _ _ rfl rfl
      exact k _ _ (Same.refl _) (.bl _)
    · intro H1 bs s1 hD hbs
      have e := DpAll_bl hbs
      subst e
      refine ⟨D, xs.map (fitsB P), rfl, .inl (.inl hD), ?_⟩
      refine ⟨_, rfl, brNB (fun c => ?_) (fun c => ?_)⟩
      · rw [if_neg (by rw [c]; decide)] at q; exact q _ s1
      rw [if_pos c] at q
      refine ⟨_, rfl, a, us, xs, rfl, Evl.ex_t s1 ha, DpAll_same s1 hu, by omega, hb, fun D1 es H2 s2 hD1 hes => ?_⟩
      have s02 := s1.trans s2
      refine ⟨_, rfl, _, rfl, _, P, a, us, xs, rfl, Dp_same s02 d2, bP.mono, Evl.ex_t s02 ha, DpAll_same s02 hu, by omega, hb, fun D2 ns H3 s3 hD2 hns => ?_⟩
      have hD1 := s3 _ _ hD1
      have hes := DpAll_same s3 hes
      have s03 := s02.trans s3
      refine ⟨D1, D2, es, ns, rfl, .inl ⟨.inl (.inl hD1), .inl (.inl hD2), fun L nL => ?_⟩⟩
      have e1 : es.length = xs.length := by rw [DpAll_len hes, List.length_map, ends_len]
      have e2 : ns.length = xs.length := by rw [DpAll_len hns, List.length_map, nexts_len]
      refine lc_map (K := K) (walk_zip (n := xs.length) (by omega)) ((lapB P xs).map PyData.bool) nL (by rw [List.length_map, lapB, List.length_zipWith, ends_len, nexts_len]; omega) (by omega) (noLs_bl _) (fun H' s => ⟨.inl (.inl (s _ _ hD1)), .inl (.inl (s _ _ hD2))⟩) ?_ ?_
      · rintro i x d H4 H5 hi hd s4 ⟨V, x1, x2, rfl, nV, rfl, g1, g2⟩ R k
        have sV := same_upd (o := HO.tup [x1, x2]) nV
        obtain ⟨z1, hz1, dz1⟩ := get_map hes g1
        obtain ⟨z2, hz2, dz2⟩ := get_map hns g2
        have hdz : d = .bool (decide (z2 < z1)) := by
          rw [List.getElem?_map, lapB, List.getElem?_zipWith, hz1, hz2] at hd; exact (Option.some.inj hd).symm
        subst hdz
        have bz1 : Bq 201 z1 := by
          have := List.mem_of_getElem? hz1
          obtain ⟨w, hw, rfl⟩ := List.mem_map.mp this
          exact (hb w hw).1.add (hb w hw).2
        have bz2 : Bq 201 z2 := by
          have := List.mem_of_getElem? hz2
          unfold nexts at this
          rcases List.mem_append.mp this with h | h
          · obtain ⟨w, hw, rfl⟩ := List.mem_map.mp (List.mem_of_mem_drop h)
            exact (hb w hw).1.mono
          · obtain ⟨y, hy, rfl⟩ := List.mem_map.mp h
            obtain ⟨w, hw, rfl⟩ := List.mem_map.mp (List.mem_of_mem_take hy)
            exact (hb w hw).1.add bP
        refine ⟨V, [x1, x2], rfl, .inl (.inl upd_same), rfl, x1, [x2], rfl, x2, [], rfl, rfl, rfl, ?_⟩
        refine ⟨_, rfl, _, rfl, _, _, _, _, rfl, (Dp_same (s4.trans sV) dz2), (Dp_same (s4.trans sV) dz1), bz2.mono, bz1.mono, ?_⟩
        rintro _ _ rfl rfl
        exact k _ _ sV (.bl _)
      · intro H4 bs s4 hL hbs
        have e := DpAll_bl hbs
        subst e
        exact ⟨L, lapB P xs, rfl, .inl (.inl hL), _, rfl, q _ (s03.trans s4)⟩
def spReps (K : PySem.W.Frag) : Sp := fun vs H Q _ => ∃ (a : Addr) (us : List V) (xs : Sps) (d : Nat) (vp : V) (p : Rat), vs = [.ref a, .int d, vp] ∧ SqT K H a us ∧ DpAll K H us (xs.map dsp) ∧ Dp K H vp (dq p) ∧ d ≤ xs.length ∧ xs.length < 900 ∧ (∀ x ∈ xs, Bq 100 x.1 ∧ Bq 100 x.2) ∧ Bq 300 p ∧ ∀ H', Same H H' → Q (.bl (repB xs d p)) H'
theorem ok_repeats (T : Txt K mg) : FnOk P w K mg base CX0 4 T.f_repeats T.d_repeats Ps_repeats (spReps K) := by
  refine T.F_repeats.ok sc_repeats (fun vs H Q E h => ?_) (fun cdv A outer s H vs Q E hr h => ?_)
  · obtain ⟨x, _, _, _, _, _, rfl, _⟩ := h; rfl
  · obtain ⟨a, us, xs, d, vp, p, rfl, ha, hu, hp, hd, hl, hb, bp, q⟩ := h
    refine ⟨_, (pss_cons (ps_setLc (i := 3) (own := [("begin", 4), ("length", 5)]) (g := (gTup K 2 (gCons (gName 4) (gCons (gName 5) gNil)))) (tt := tYes) rfl sc_repeats.nd rfl rfl (sw_true rfl rfl rfl (by decide +kernel)) (pi_tup (pe_slice sl_tupB (pv 0) po_none (po_some (pe_op op_sub (pe_callB call_len_seq (by rfl) T.m_len PySem.boot_len (pa_cons (pv 0) pa_nil)) (pv 1))))) (blkOk_by (N := N_repeats) (sc := defScope s_repeats) (by decide +kernel)) (fun _ _ _ _ _ => (pg_tup rfl (pgs_cons (pg_name (i := 4) sc_repeats.nd rfl (Or.inl rfl)) (pgs_cons (pg_name (i := 5) sc_repeats.nd rfl (Or.inl rfl)) pgs_nil)))) (fun _ _ _ _ _ => pts_nil) (fun _ _ _ _ _ => (pe_tup (pa_cons (pe_call (ok_add T) hr (by rfl) T.g_add T.F_add.kp T.b_add .nil pass0 (pa_cons (pv 4) (pa_cons (pv 2) pa_nil))) (pa_cons (pv 5) pa_nil)))))
      (pss_one (ps_ret (pe_cmpR (op_eqD hr.units) (pv 3) (pe_callTy call_list_of (by rfl) T.m_list (by decide +kernel) (pa_cons (pe_slice sl_tupB (pv 0) (po_some (pv 1)) po_none) pa_nil)) (nomark _))))), ?_⟩
    have el : us.length = xs.length := by rw [DpAll_len hu, List.length_map]
    refine ⟨_, rfl, _, rfl, a, us, rfl, .inr ha, _, rfl, _, _, rfl, rfl, _, rfl, a, us, rfl, ha, fun c H1 s1 hc => ?_⟩
    rw [show ((us.length : Int) - (d : Int)) = ((us.length - d : Nat) : Int) by omega, cut_to] at hc
    refine ⟨c, rfl, ⟨_, hc⟩, fun D nD => ?_⟩
    have hu1 : DpAll K H1 (us.take (us.length - d)) ((xs.take (xs.length - d)).map dsp) := by
      rw [el, List.map_take]; exact DpAll_take _ (DpAll_same s1 hu)
    have e1 : (us.take (us.length - d)).length = (xs.take (xs.length - d)).length := by rw [List.length_take, List.length_take]; omega
    refine lc_map (K := K) (walk_tup (xs := us.take (us.length - d))) (((xs.take (xs.length - d)).map (fun x => (x.1 + p, x.2))).map dsp) nD (by rw [List.length_map, List.length_map, e1]) (by rw [List.length_take]; omega) (noLs_dsp _) (fun H' s => Evl.ex_t s hc) ?_ ?_
    · rintro i x d' H2 H3 hi hd' s2 ⟨rfl, hx⟩ R k
      obtain ⟨z, hz, dz⟩ := get_map hu1 hx
      have hdz : d' = dsp (z.1 + p, z.2) := by
        rw [List.getElem?_map, List.getElem?_map, hz] at hd'; exact (Option.some.inj hd').symm
      subst hdz
      have bz := hb z (List.mem_of_mem_take (List.mem_of_getElem? hz))
      obtain ⟨U, v1, v2, rfl, hU, d1, d2⟩ := dp_two (Dp_same s2 dz)
      refine ⟨U, [v1, v2], rfl, hU, rfl, v1, [v2], rfl, v2, [], rfl, rfl, rfl, ?_⟩
      refine ⟨_, rfl, _, rfl, u_add d1 (Dp_same (s1.trans s2) hp) bz.1.mono bp.mono fun v H4 s4 f => ?_⟩
      refine ⟨_, rfl, sizeLine2 (by simp), fun t nt => ?_⟩
      exact k _ _ (s4.trans (same_upd nt)) (dp_new nt (.cons f (.cons (Dp_same s4 d2) .nil)))
    · intro H2 ls s2 hD hls
      have s02 := s1.trans s2
      refine ⟨_, rfl, _, rfl, _, rfl, _, rfl, a, us, rfl, Evl.ex_t s02 ha, fun t H3 s3 ht => ?_⟩
      rw [cut_drop] at ht
      refine ⟨t, _, rfl, .inr ht, fun L nL => ?_⟩
      have s4 := same_upd (o := HO.lst (us.drop d)) nL
      refine ⟨_, _, .lst (.inl (.inl (s4 _ _ (s3 _ _ hD)))) (DpAll_same (s3.trans s4) hls), .lst (ds := (xs.drop d).map dsp) (.inl (.inl upd_same)) ?_, sh_Ldsp _, sh_Ldsp _, ?_⟩
      · rw [List.map_drop]; exact DpAll_drop d (DpAll_same ((s02.trans s3).trans s4) hu)
      · rw [eqv_Ldsp]; exact q _ ((s02.trans s3).trans s4)
def spLeast (K : PySem.W.Frag) : Sp := fun vs H Q _ => ∃ (vpl vP : V) (pl P : Rat) (a : Addr) (us : List V) (xs : Sps), vs = [vpl, vP, .ref a] ∧ Dp K H vpl (dq pl) ∧ Dp K H vP (dq P) ∧ Bq 100 P ∧ SqT K H a us ∧ DpAll K H us (xs.map dsp) ∧ xs.length < 900 ∧ (∀ x ∈ xs, Bq 100 x.1 ∧ Bq 100 x.2) ∧ ∀ v H', Same H H' → Dp K H' v (dG pl (lfQ P xs).1 (lfQ P xs).2) → Q v H'
theorem lf_none {P : Rat} {xs : Sps} (h0 : xs.length ≠ 0) (h : (List.range' 1 (xs.length - 1)).find? (hitB P xs) = none) : lfQ P xs = (P, xs) := by
  unfold lfQ; rw [if_neg h0, h]
theorem lf_some {P : Rat} {xs : Sps} {i : Nat} (h0 : i + 1 < xs.length) (h : (List.range' 1 i).find? (hitB P xs) = none) (hh : hitB P xs (1 + i) = true) : lfQ P xs = (partQ P xs (1 + i), xs.take (1 + i)) := by
  have e : List.range' 1 (xs.length - 1) = List.range' 1 i ++ ((1 + i) :: List.range' (1 + i + 1) (xs.length - 1 - i - 1)) := by
    have := List.range'_append (s := 1) (m := i) (n := xs.length - 1 - i) (step := 1)
    rw [show i + (xs.length - 1 - i) = xs.length - 1 by omega] at this
    rw [← this]
    congr 1
    rw [Nat.one_mul]
    obtain ⟨k, hk⟩ : ∃ k, xs.length - 1 - i = k + 1 := ⟨xs.length - 1 - i - 1, by omega⟩
    rw [hk, List.range'_succ]; rfl
  unfold lfQ
  rw [if_neg (by omega), e, List.find?_append, h, List.find?_cons_of_pos hh]; rfl
theorem b_part {P : Rat} {xs : Sps} {d : Nat} (h0 : xs.length ≠ 0) (hl : xs.length < 900) (hd : d < xs.length) (b : Bq 100 P) : Bq 130 (partQ P xs d) := by
  have hn : ((xs.length : Int) : Rat) ≠ 0 := fun e => by have := Rat.intCast_eq_zero_iff.mp e; omega
  have b1 : Bq 10 ((d : Int) : Rat) := Bq.int (B.of (by omega))
  have b2 : Bq 10 ((xs.length : Int) : Rat) := Bq.int (B.of (by omega))
  exact (b.mul (Bq.div hn b1 b2)).mono
theorem ok_least_form (T : Txt K mg) : FnOk P w K mg base CX0 5 T.f_least_form T.d_least_form Ps_least_form (spLeast K) := by
  refine T.F_least_form.ok sc_least_form (fun vs H Q E h => ?_) (fun cdv A outer s H vs Q E hr h => ?_)
  · obtain ⟨x, _, _, _, _, _, _, rfl, _⟩ := h; rfl
  · obtain ⟨vpl, vP, pl, P, a, us, xs, rfl, hpl, hP, bP, ha, hu, hl, hb, q⟩ := h
    refine ⟨_, (pss_cons (ps_if (pt_cmpR op_eq (pe_callB call_len_seq (by rfl) T.m_len PySem.boot_len (pa_cons (pv 2) pa_nil)) pe_int (nomark _)) (pss_one (ps_ret (pe_tup (pa_cons (pv 0) (pa_cons (pe_glob (v := .ref T.k_ONE) (by rfl) T.gk_ONE rfl) (pa_cons (pe_tup pa_nil) pa_nil)))))) pss_nil)
      (pss_cons (ps_for PassesOwn.never rfl (pi_range2 rfl T.m_range (pa_cons pe_int (pa_cons (pe_callB call_len_seq (by rfl) T.m_len PySem.boot_len (pa_cons (pv 2) pa_nil)) pa_nil))) (pg_name (i := 3) sc_least_form.nd rfl (Or.inl rfl)) (pss_cons (ps_set (i := 4) sc_least_form.nd rfl (Or.inl rfl) (pe_call (ok_multiply T) (hr.mono (by decide)) (by rfl) T.g_multiply T.F_multiply.kp T.b_multiply .nil pass0 (pa_cons (pv 1) (pa_cons (pe_call (ok_fraction T) (hr.mono (by decide)) (by rfl) T.g_fraction T.F_fraction.kp T.b_fraction .nil pass0 (pa_cons (pv 3) (pa_cons (pe_callB call_len_seq (by rfl) T.m_len PySem.boot_len (pa_cons (pv 2) pa_nil)) pa_nil))) pa_nil))))
      (pss_one (ps_if (PW.pt (pw_and (pt_cmpR op_eq (pe_op op_mod (pe_callB call_len_seq (by rfl) T.m_len PySem.boot_len (pa_cons (pv 2) pa_nil)) (pv 3)) pe_int (nomark _)) (pw_and1 (pt_val (pe_call (ok_repeats T) hr (by rfl) T.g_repeats T.F_repeats.kp T.b_repeats .nil pass0 (pa_cons (pv 2) (pa_cons (pv 3) (pa_cons (pv 4) pa_nil)))))))) (pss_one (ps_ret (pe_tup (pa_cons (pv 0) (pa_cons (pv 4) (pa_cons (pe_callTy call_tuple_of (by rfl) T.m_tuple (by decide +kernel) (pa_cons (pe_slice sl_tupB (pv 2) po_none (po_some (pv 3))) pa_nil)) pa_nil)))))) pss_nil))))
      (pss_one (ps_ret (pe_tup (pa_cons (pv 0) (pa_cons (pv 1) (pa_cons (pe_callTy call_tuple_of (by rfl) T.m_tuple (by decide +kernel) (pa_cons (pv 2) pa_nil)) pa_nil)))))))), ?_⟩
    have el : us.length = xs.length := by rw [DpAll_len hu, List.length_map]
    refine ⟨_, rfl, a, us, rfl, .inr ha, rfl, _, rfl, brEq (fun h0 => ?_) (fun h0 => ?_)⟩
    · have h0 : xs.length = 0 := by omega
      have e : lfQ P xs = (1, []) := by unfold lfQ; rw [if_pos h0]
      rw [e] at q
      refine ⟨_, rfl, sizeLine2 (by simp), fun c nc => ?_⟩
      have s1 := same_upd (o := HO.tup []) nc
      refine ⟨sizeLine2 (by simp), fun c2 nc2 => ?_⟩
      refine q _ _ (s1.trans (same_upd nc2)) (dp_new nc2 (.cons (Dp_same s1 hpl) (.cons (T.o1 _) (.cons (dp_new nc .nil) .nil))))
    · have h0 : xs.length ≠ 0 := by omega
      refine ⟨_, rfl, a, us, rfl, .inr ha, _, _, rfl, ⟨by decide, by decide, by omega, by omega⟩, ?_⟩
      refine for_range (lo := 1) (fun i σ H' => Same H H' ∧ (List.range' 1 i).find? (hitB P xs) = none ∧ ∃ z3 z4, σ = [some vpl, some vP, some (.ref a), z3, z4]) ⟨Same.refl _, rfl, _, _, rfl⟩ ?_ ?_
      · rintro i σ H1 hi ⟨s1, hn, z3, z4, rfl⟩
        have hi2 : i + 1 < xs.length := by omega
        have hn0 : ((us.length : Int) : Rat) ≠ 0 := fun e => by have := Rat.intCast_eq_zero_iff.mp e; omega
        refine ⟨_, rfl, _, rfl, _, rfl, a, us, rfl, .inr (Evl.ex_t s1 ha), u_red (by omega) (B.mono (n := 10) (B.of (by omega))) (B.mono (n := 10) (B.of (by omega))) fun v H2 s2 f2 => ?_⟩
        have bd : Bq 20 (((1 + (i : Int) : Int) : Rat) / ((us.length : Int) : Rat)) := Bq.div hn0 (Bq.int (k := 10) (B.of (by omega))) (Bq.int (k := 10) (B.of (by omega)))
        refine u_mul (Dp_same (s1.trans s2) hP) f2 bP.mono bd.mono fun vp H3 s3 f3 => ?_
        have ep : P * (((1 + (i : Int) : Int) : Rat) / ((us.length : Int) : Rat)) = partQ P xs (1 + i) := by
          unfold partQ; rw [el]; rfl
        rw [ep] at f3
        have s03 := (s1.trans s2).trans s3
        refine ⟨_, rfl, a, us, rfl, .inr (Evl.ex_t s03 ha), _, rfl, _, _, rfl, rfl, (show (0 : Int) < 1 + i by omega), rfl, _, rfl, brEq (fun hm => ?_) (fun hm => ?_)⟩
        · have hm : decide (xs.length % (1 + i) = 0) = true := decide_eq_true (by
            have : ((us.length % (1 + i) : Nat) : Int) = 0 := by rw [Int.natCast_emod]; exact hm
            rw [el] at this; omega)
          refine ⟨_, rfl, _, rfl, _, rfl, a, us, xs, 1 + i, vp, _, ?_, Evl.ex_t s03 ha, DpAll_same s03 hu, f3, by omega, hl, hb, (b_part h0 hl (by omega) bP).mono, fun H4 s4 => ?_⟩
          · rw [show (1 + (i : Int)) = ((1 + i : Nat) : Int) by omega]; rfl
          refine ⟨_, rfl, brB (fun hr => ?_) (fun hr => ?_)⟩
          · have hh : hitB P xs (1 + i) = true := by unfold hitB; rw [hm, hr]; rfl
            rw [lf_some hi2 hn hh] at q
            have s04 := s03.trans s4
            refine ⟨_, rfl, _, rfl, _, rfl, _, rfl, _, rfl, a, us, rfl, Evl.ex_t s04 ha, fun t H5 s5 ht => ?_⟩
            rw [show (1 + (i : Int)) = ((1 + i : Nat) : Int) by omega, cut_to] at ht
            refine ⟨t, _, rfl, .inr ⟨ht, ?_⟩⟩
            refine ⟨sizeLine2 (by simp), fun c nc => ?_⟩
            have s6 := same_upd (o := HO.tup [vpl, vp, .ref t]) nc
            refine q _ _ ((s04.trans s5).trans s6) (dp_new nc (.cons (Dp_same (s04.trans s5) hpl) (.cons (Dp_same (s4.trans s5) f3) (.cons (.tup ht ?_) .nil))))
            rw [List.map_take]; exact DpAll_take _ (DpAll_same (s04.trans s5) hu)
          · have hh : hitB P xs (1 + i) = false := by unfold hitB; rw [hm, hr]; rfl
            refine ⟨s03.trans s4, ?_, _, _, rfl⟩
            rw [List.range'_1_concat, List.find?_append, hn, List.find?_cons_of_neg (by rw [hh]; decide)]; rfl
        · have hm : decide (xs.length % (1 + i) = 0) = false := decide_eq_false (fun e => hm (by
            have : ((us.length % (1 + i) : Nat) : Int) = 0 := by rw [el]; omega
            rw [Int.natCast_emod] at this; exact this))
          have hh : hitB P xs (1 + i) = false := by unfold hitB; rw [hm]; rfl
          refine ⟨s03, ?_, _, _, rfl⟩
          rw [List.range'_1_concat, List.find?_append, hn, List.find?_cons_of_neg (by rw [hh]; decide)]; rfl
      · rintro σ H1 ⟨s1, hn, z3, z4, rfl⟩
        have e : ((us.length : Int) - 1).toNat = xs.length - 1 := by omega
        rw [e] at hn
        rw [lf_none h0 hn] at q
        refine ⟨_, rfl, _, rfl, _, rfl, a, us, rfl, .inr ⟨Evl.ex_t s1 ha, sizeLine2 (by simp), fun c nc => ?_⟩⟩
        refine q _ _ (s1.trans (same_upd nc)) (dp_new nc (.cons (Dp_same s1 hpl) (.cons (Dp_same s1 hP) (.cons (.tup (Evl.ex_t s1 ha) (DpAll_same s1 hu)) .nil))))
/-- a gate, as it is laid: valid, and below 2 ^ 100 -/
structure Gd (P : Rat) (xs : Sps) : Prop where
  g : GV P xs
  p : Bq 100 P
  b : ∀ x ∈ xs, Bq 100 x.1 ∧ Bq 100 x.2
def spNormal (K : PySem.W.Frag) : Sp := fun vs H Q _ => ∃ (v : V) (pl P : Rat) (xs : Sps), vs = [v] ∧ Dp K H v (dG pl P xs) ∧ Gd P xs ∧ ∀ v' H', Same H H' → Dp K H' v' (dG pl (lfQ P xs).1 (lfQ P xs).2) → Q v' H'
theorem ok_normal_gate (T : Txt K mg) : FnOk P w K mg base CX0 6 T.f_normal_gate T.d_normal_gate Ps_normal_gate (spNormal K) := by
  refine T.F_normal_gate.ok sc_normal_gate (fun vs H Q E h => ?_) (fun cdv A outer s H vs Q E hr h => ?_)
  · obtain ⟨x, _, _, _, rfl, _⟩ := h; rfl
  · obtain ⟨v, pl, P, xs, rfl, hv, G, q⟩ := h
    have hl : xs.length < 900 := by have := G.g.len; omega
    refine ⟨_, PSs.nox ((pss_cons (ps_if (pt_not (pt_val (pe_call (ok_is_gate T) hr (by rfl) T.g_is_gate T.F_is_gate.kp T.b_is_gate .nil pass0 (pa_cons (pv 0) pa_nil)))) (pss_one ps_never) pss_nil)
      (pss_cons (ps_asg (pv 0) (pg_tup (by rfl) (pgs_cons (pg_name (i := 1) sc_normal_gate.nd rfl (Or.inl rfl)) (pgs_cons (pg_name (i := 2) sc_normal_gate.nd rfl (Or.inl rfl)) (pgs_cons (pg_name (i := 3) sc_normal_gate.nd rfl (Or.inl rfl)) pgs_nil)))))
      (pss_one (ps_ret (pe_call (ok_least_form T) hr (by rfl) T.g_least_form T.F_least_form.kp T.b_least_form .nil pass0 (pa_cons (pv 1) (pa_cons (pv 2) (pa_cons (pv 3) pa_nil))))))))), ?_⟩
    refine ⟨_, rfl, v, pl, P, xs, rfl, hv, G.p, hl, G.b, fun H1 s1 => ?_⟩
    rw [G.g.ok]
    refine ⟨_, rfl, iteF ?_⟩
    obtain ⟨U, v1, v2, v3, rfl, hU, d1, d2, d3⟩ := dp_three (Dp_same s1 hv)
    obtain ⟨a, us, rfl, ha, hu⟩ := dp_tup d3
    refine ⟨_, rfl, U, _, rfl, hU, rfl, _, _, rfl, _, _, rfl, _, _, rfl, rfl, ?_⟩
    exact ⟨_, rfl, _, rfl, _, rfl, _, _, pl, P, a, us, xs, rfl, d1, d2, G.p, ha, hu, hl, G.b, fun v' H2 s2 h => q v' H2 (s1.trans s2) h⟩
/-- an answer: None, or a fraction -/
def dO : Option Rat → PyData
  | none => .none
  | some q => dq q
def spShut (K : PySem.W.Frag) : Sp := fun vs H Q _ => ∃ (v vm : V) (pl P : Rat) (xs : Sps) (m : Rat), vs = [v, vm] ∧ Dp K H v (dG pl P xs) ∧ Gd P xs ∧ Dp K H vm (dq m) ∧ Bq 1190 m ∧ ∀ v' H', Same H H' → Dp K H' v' (dO (shutQ P xs m)) → Q v' H'
theorem lf_b {P : Rat} {xs : Sps} (G : Gd P xs) : Bq 130 (lfQ P xs).1 ∧ ∀ x ∈ (lfQ P xs).2, Bq 100 x.1 ∧ Bq 100 x.2 := by
  have hl : xs.length < 900 := by have := G.g.len; omega
  unfold lfQ
  by_cases h : xs.length = 0
  · rw [if_pos h]; exact ⟨b_one.mono, fun x hx => by cases hx⟩
  · rw [if_neg h]
    cases hf : (List.range' 1 (xs.length - 1)).find? (hitB P xs) with
    | none => exact ⟨G.p.mono, G.b⟩
    | some d =>
      have h2 := List.mem_range'_1.mp (List.mem_of_find?_eq_some hf)
      exact ⟨b_part h hl (by omega) G.p, fun x hx => G.b x (List.mem_of_mem_take hx)⟩
theorem ok_shut_until (T : Txt K mg) : FnOk P w K mg base CX0 7 T.f_shut_until T.d_shut_until Ps_shut_until (spShut K) := by
  refine T.F_shut_until.ok sc_shut_until (fun vs H Q E h => ?_) (fun cdv A outer s H vs Q E hr h => ?_)
  · obtain ⟨x, _, _, _, _, _, rfl, _⟩ := h; rfl
  · obtain ⟨v, vm, pl, P, xs, m, rfl, hv, G, hm, bm, q⟩ := h
    refine ⟨_, (pss_cons (ps_asg (pe_call (ok_normal_gate T) hr (by rfl) T.g_normal_gate T.F_normal_gate.kp T.b_normal_gate .nil pass0 (pa_cons (pv 0) pa_nil)) (pg_tup (by rfl) (pgs_cons (pg_name (i := 2) sc_shut_until.nd rfl (Or.inl rfl)) (pgs_cons (pg_name (i := 3) sc_shut_until.nd rfl (Or.inl rfl)) (pgs_cons (pg_name (i := 4) sc_shut_until.nd rfl (Or.inl rfl)) pgs_nil)))))
      (pss_cons (ps_for PassesOwn.never rfl (pi_tup (pv 4)) (pg_tup (by rfl) (pgs_cons (pg_name (i := 5) sc_shut_until.nd rfl (Or.inl rfl)) (pgs_cons (pg_name (i := 6) sc_shut_until.nd rfl (Or.inl rfl)) pgs_nil))) (pss_cons (ps_set (i := 7) sc_shut_until.nd rfl (Or.inl rfl) (pe_call (ok_remainder T) (hr.mono (by decide)) (by rfl) T.g_remainder T.F_remainder.kp T.b_remainder .nil pass0 (pa_cons (pe_call (ok_subtract T) (hr.mono (by decide)) (by rfl) T.g_subtract T.F_subtract.kp T.b_subtract .nil pass0 (pa_cons (pv 1) (pa_cons (pv 5) pa_nil))) (pa_cons (pv 3) pa_nil))))
      (pss_one (ps_if (PW.pt (pw_and (pt_cmpR (op_neD hr.units) (pv 7) (pe_glob (v := .ref T.k_ZERO) (by rfl) T.gk_ZERO rfl) (nomark _)) (pw_and1 (pt_val (pe_call (ok_is_lessQ T) (hr.mono (by decide)) (by rfl) T.g_is_less T.F_is_less.kp T.b_is_less .nil pass0 (pa_cons (pv 7) (pa_cons (pv 6) pa_nil))))))) (pss_one (ps_ret (pe_call (ok_add T) (hr.mono (by decide)) (by rfl) T.g_add T.F_add.kp T.b_add .nil pass0 (pa_cons (pv 1) (pa_cons (pe_call (ok_subtract T) (hr.mono (by decide)) (by rfl) T.g_subtract T.F_subtract.kp T.b_subtract .nil pass0 (pa_cons (pv 6) (pa_cons (pv 7) pa_nil))) pa_nil))))) pss_nil))))
      (pss_one (ps_ret pe_non)))), ?_⟩
    refine ⟨_, rfl, v, pl, P, xs, rfl, hv, G, fun v' H1 s1 h1 => ?_⟩
    obtain ⟨g', sh⟩ := lf_ok G.g
    obtain ⟨bP, bx⟩ := lf_b G
    rw [← sh m] at q
    generalize (lfQ P xs).1 = P' at *
    generalize (lfQ P xs).2 = ys at *
    obtain ⟨U, v1, v2, v3, rfl, hU, d1, d2, d3⟩ := dp_three h1
    obtain ⟨a, us, rfl, ha, hu⟩ := dp_tup d3
    have el : us.length = ys.length := by rw [DpAll_len hu, List.length_map]
    refine ⟨U, _, rfl, hU, rfl, _, _, rfl, _, _, rfl, _, _, rfl, rfl, ?_⟩
    refine ⟨_, rfl, a, rfl, ⟨_, ha⟩, ?_⟩
    have hP0 := g'.pos
    refine for_tup (K := K) (xs := us) (fun i σ H' => Same H1 H' ∧ (ys.take i).find? (lateB P' m) = none ∧ ∃ z5 z6 z7, σ = [some v, some vm, some v1, some v2, some (.ref a), z5, z6, z7]) ⟨Same.refl _, rfl, _, _, _, rfl⟩ (fun i σ H' _ h => Evl.ex_t h.1 ha) ?_ ?_
    · rintro i x σ H2 hx ⟨s2, hn, z5, z6, z7, rfl⟩
      obtain ⟨z, hz, dz⟩ := get_map hu hx
      have bz := bx z (List.mem_of_getElem? hz)
      have hil : i < ys.length := (List.getElem?_eq_some_iff.mp hz).1
      obtain ⟨V', w1, w2, rfl, hV, e1, e2⟩ := dp_two (Dp_same s2 dz)
      have s02 := s1.trans s2
      refine ⟨V', _, rfl, hV, rfl, _, _, rfl, _, _, rfl, rfl, ?_⟩
      refine ⟨_, rfl, _, rfl, u_sub (Dp_same s02 hm) e1 bm.mono bz.1.mono fun v4 H3 s3 f3 => ?_⟩
      refine ⟨_, rfl, _, _, _, _, rfl, f3, Dp_same (s2.trans s3) d2, hP0, ((bm.sub bz.1).mono), bP.mono, fun v5 H4 s4 f4 => ?_⟩
      have s24 := s3.trans s4
      have br : Bq 1430 (remQ (m - z.1) P') := (Bq.rem hP0 (bm.sub bz.1) bP).mono
      have tk : ys.take (i + 1) = ys.take i ++ [z] := by rw [List.take_add_one, hz]; rfl
      have lt : lateB P' m z = (decide (remQ (m - z.1) P' ≠ 0) && decide (remQ (m - z.1) P' < z.2)) := rfl
      refine ⟨_, rfl, _, _, f4, T.z0 _, sh_dq _, sh_dq _, ?_⟩
      rw [eqv_dq]
      refine ⟨_, rfl, brNB (fun c => ?_) (fun c => ?_)⟩
      · refine ⟨_, rfl, _, rfl, _, _, _, _, rfl, f4, Dp_same s24 e2, br.mono, bz.2.mono, ?_⟩
        rintro _ _ rfl rfl
        refine ⟨_, rfl, brI (fun c2 => ?_) (fun c2 => ?_)⟩
        · have l1 : lateB P' m z = true := by rw [lt, decide_eq_true (of_decide_eq_false c), decide_eq_true c2]; rfl
          have : shutQ P' ys m = some (till P' m z) := by
            unfold shutQ
            have : ys = ys.take i ++ (z :: ys.drop (i + 1)) := by
              have h := List.take_append_drop (i + 1) ys
              rw [tk, List.append_assoc] at h; exact h.symm
            rw [this, List.find?_append, hn, List.find?_cons_of_pos l1]; rfl
          rw [this] at q
          refine ⟨_, rfl, _, rfl, _, rfl, u_sub (Dp_same s24 e2) f4 bz.2.mono br.mono fun v6 H5 s5 f5 => ?_⟩
          refine u_add (Dp_same ((s02.trans s24).trans s5) hm) f5 bm.mono (bz.2.sub br).mono fun v7 H6 s6 f6 => ?_
          exact q _ _ (((s02.trans s24).trans s5).trans s6) f6
        · have l1 : lateB P' m z = false := by rw [lt, decide_eq_false c2, Bool.and_false]
          refine ⟨s2.trans s24, ?_, _, _, _, rfl⟩
          rw [tk, List.find?_append, hn, List.find?_cons_of_neg (by rw [l1]; decide)]; rfl
      · have l1 : lateB P' m z = false := by rw [lt, decide_eq_false (fun h => h (of_decide_eq_true c)), Bool.false_and]
        refine iteF ?_
        refine ⟨s2.trans s24, ?_, _, _, _, rfl⟩
        rw [tk, List.find?_append, hn, List.find?_cons_of_neg (by rw [l1]; decide)]; rfl
    · rintro σ H2 ⟨s2, hn, z5, z6, z7, rfl⟩
      rw [el, List.take_length] at hn
      have : shutQ P' ys m = none := by unfold shutQ; rw [hn]; rfl
      rw [this] at q
      exact q _ _ (s1.trans s2) .non
def spOpen (K : PySem.W.Frag) : Sp := fun vs H Q _ => ∃ (v vm : V) (pl P : Rat) (xs : Sps) (m : Rat), vs = [v, vm] ∧ Dp K H v (dG pl P xs) ∧ Gd P xs ∧ Dp K H vm (dq m) ∧ Bq 1190 m ∧ ∀ v' H', Same H H' → v' = .bl (shutQ P xs m).isNone → Q v' H'
theorem dO_non {H : Hp} {v : V} {o : Option Rat} (h : Dp K H v (dO o)) : decide (v = V.non) = o.isNone := by
  cases o with
  | none => cases h; rfl
  | some q => obtain ⟨p, rfl, _⟩ := dq_fr h; rfl
theorem ok_is_open (T : Txt K mg) : FnOk P w K mg base CX0 8 T.f_is_open T.d_is_open Ps_is_open (spOpen K) := by
  refine T.F_is_open.ok sc_is_open (fun vs H Q E h => ?_) (fun cdv A outer s H vs Q E hr h => ?_)
  · obtain ⟨x, _, _, _, _, _, rfl, _⟩ := h; rfl
  · obtain ⟨v, vm, pl, P, xs, m, rfl, hv, G, hm, bm, q⟩ := h
    refine ⟨_, (pss_one (ps_ret (pe_cmpR op_isN (pe_call (ok_shut_until T) hr (by rfl) T.g_shut_until T.F_shut_until.kp T.b_shut_until .nil pass0 (pa_cons (pv 0) (pa_cons (pv 1) pa_nil))) pe_non (nomark _)))), ?_⟩
    refine ⟨_, rfl, _, rfl, v, vm, pl, P, xs, m, rfl, hv, G, hm, bm, fun v' H1 s1 h1 => ?_⟩
    refine ⟨rfl, ?_⟩
    exact q _ _ s1 (by rw [dO_non h1])
end
end EP
namespace EP
open PySem PySem.Spec PyProof.Rows L2
section
variable {P : Program} {w : World} {K : PySem.W.Frag} {mg : Str → Option Value} {base : Heap}
theorem ok_l_smallQ (T : Txt K mg) : FnOk P w K mg base CX0 3 T.f_l_small T.d_l_small Ps_l_small (spDrawnQ K 5) := (ok_l_small T).imp fun vs H Q E h => by
  obtain ⟨r, rfl, hR, k⟩ := h
  refine ⟨r, rfl, hR, fun v a b H' m f => ?_⟩
  obtain ⟨q, d, b, _⟩ := f.q
  exact k v q H' m d b
theorem ok_l_wideQ (T : Txt K mg) : FnOk P w K mg base CX0 4 T.f_l_wide T.d_l_wide Ps_l_wide (spDrawnQ K 40) := (ok_l_wide T).imp fun vs H Q E h => by
  obtain ⟨r, rfl, hR, k⟩ := h
  refine ⟨r, rfl, hR, fun v a b H' m f => ?_⟩
  obtain ⟨q, d, b, _⟩ := f.q
  exact k v q H' m d b
def spParts : Sp := fun vs H Q _ => ∃ (r : Addr) (lo gr : Int), vs = [.ref r, .int lo, .int gr] ∧ 0 < gr ∧ gr ≤ 1000000 ∧ Rng H r ∧ ∀ v x H', v = .int x → lo ≤ x → x ≤ lo + gr + 2 → Mo r H H' → Q v H'
theorem ok_l_parts (T : Txt K mg) : FnOk P w K mg base CX0 3 T.f_l_parts T.d_l_parts Ps_l_parts spParts := by
  refine T.F_l_parts.ok sc_l_parts (fun vs H Q E h => ?_) (fun cdv A outer s H vs Q E hr h => ?_)
  · obtain ⟨r, _, _, rfl, _⟩ := h; rfl
  · obtain ⟨r, lo, gr, rfl, g0, g1, hR, q⟩ := h
    refine ⟨_, (pss_one (ps_ret (pe_op op_add (pv 1) (pe_call (ok_l_choice T) hr (by rfl) T.g_l_choice T.F_l_choice.kp T.b_l_choice .nil pass0 (pa_cons (pv 0) (pa_cons (pe_lst (pa_cons pe_int (pa_cons pe_int (pa_cons pe_int (pa_cons pe_int (pa_cons (pe_call (ok_l_draw T) (hr.mono (by decide)) (by rfl) T.g_l_draw T.F_l_draw.kp T.b_l_draw .nil pass0 (pa_cons (pv 0) (pa_cons (pv 2) pa_nil))) pa_nil)))))) pa_nil)))))), ?_⟩
    refine ⟨_, rfl, _, rfl, _, rfl, _, rfl, r, gr, rfl, g0, (B.of (n := 21) (by omega)).mono, hR, fun x H1 x0 x1 m1 => ?_⟩
    refine ⟨sizeLine2 (by simp), fun l nl => ?_⟩
    have m2 := Mo.new (o := HO.lst [.int 0, .int 1, .int 1, .int 2, .int x]) m1.b nl
    refine ⟨r, l, _, rfl, .inl (.inl upd_same), m1.b.ne nl, by simp, by simp, m2.b, fun y H2 hy m3 => ?_⟩
    have mm := (m1.trans m2).trans m3
    simp only [List.mem_cons, List.not_mem_nil, or_false] at hy
    rcases hy with rfl | rfl | rfl | rfl | rfl
    · exact ⟨_, _, rfl, rfl, q _ _ _ rfl (by omega) (by omega) mm⟩
    · exact ⟨_, _, rfl, rfl, q _ _ _ rfl (by omega) (by omega) mm⟩
    · exact ⟨_, _, rfl, rfl, q _ _ _ rfl (by omega) (by omega) mm⟩
    · exact ⟨_, _, rfl, rfl, q _ _ _ rfl (by omega) (by omega) mm⟩
    · exact ⟨_, _, rfl, rfl, q _ _ _ rfl (by omega) (by omega) mm⟩
/-- a gate that was drawn -/
structure Gs (n : Nat) (P : Rat) (xs : Sps) : Prop where
  g : GV P xs
  p : Bq n P
  b : ∀ x ∈ xs, Bq n x.1 ∧ Bq n x.2
def spGateD (K : PySem.W.Frag) : Sp := fun vs H Q _ => ∃ (r : Addr) (vpl : V) (pl : Rat) (most : Int), vs = [.ref r, vpl, .int most] ∧ Rng H r ∧ Dp K H vpl (dq pl) ∧ 0 ≤ most ∧ most ≤ 6 ∧ ∀ v P xs H', Mo r H H' → Dp K H' v (dG pl P xs) → Gs 40 P xs → Q v H'
theorem lexB_fst {a b : Int × Int} (h : SrtO.lexB a b = false) : b.1 ≤ a.1 := by
  have := SrtO.lexB_no.mp h
  omega
theorem noL_dqs (q : Rat) : noL (dq q) = true := noL_dq q
theorem ok_l_gate (T : Txt K mg) : FnOk P w K mg base CX0 4 T.f_l_gate T.d_l_gate Ps_l_gate (spGateD K) := by
  refine T.F_l_gate.ok sc_l_gate (fun vs H Q E h => ?_) (fun cdv A outer s H vs Q E hr h => ?_)
  · obtain ⟨r, _, _, _, rfl, _⟩ := h; rfl
  · obtain ⟨r, vpl, pl, most, rfl, hR, hpl, mo0, mo1, q⟩ := h
    refine ⟨_, (pss_cons (ps_set (i := 3) sc_l_gate.nd rfl (Or.inl rfl) (pe_call (ok_l_draw T) (hr.mono (by decide)) (by rfl) T.g_l_draw T.F_l_draw.kp T.b_l_draw .nil pass0 (pa_cons (pv 0) (pa_cons (pe_op op_add (pv 2) pe_int) pa_nil))))
      (pss_cons (ps_set (i := 4) sc_l_gate.nd rfl (Or.inr rfl) (pe_call (ok_l_choice T) (hr.mono (by decide)) (by rfl) T.g_l_choice T.F_l_choice.kp T.b_l_choice .nil pass0 (pa_cons (pv 0) (pa_cons (pe_lst (pa_cons pe_int (pa_cons pe_int (pa_cons pe_int (pa_cons pe_int (pa_cons (pe_op op_add pe_int (pe_call (ok_l_draw T) (hr.mono (by decide)) (by rfl) T.g_l_draw T.F_l_draw.kp T.b_l_draw .nil pass0 (pa_cons (pv 0) (pa_cons (pe_op op_pow pe_int pe_int) pa_nil)))) pa_nil)))))) pa_nil))))
      (pss_cons (ps_par (i := 5) (j := 6) (by rfl) sc_l_gate.nd rfl rfl (by decide) rfl rfl (pa_cons pe_int (pa_cons (pe_lst pa_nil) pa_nil)) (by rfl))
      (pss_cons (ps_for PassesOwn.never rfl (pi_range1 rfl T.m_range (pa_cons (pv 3) pa_nil)) (pg_name (i := 7) sc_l_gate.nd rfl (Or.inl rfl)) (pss_cons (ps_set (i := 5) sc_l_gate.nd rfl (Or.inl rfl) (pe_op op_add (pv 5) (pe_call (ok_l_parts T) hr (by rfl) T.g_l_parts T.F_l_parts.kp T.b_l_parts .nil pass0 (pa_cons (pv 0) (pa_cons pe_int (pa_cons (pe_op op_pow pe_int pe_int) pa_nil))))))
      (pss_cons (ps_set (i := 8) sc_l_gate.nd rfl (Or.inl rfl) (pe_call (ok_l_parts T) hr (by rfl) T.g_l_parts T.F_l_parts.kp T.b_l_parts .nil pass0 (pa_cons (pv 0) (pa_cons pe_int (pa_cons (pe_op op_pow pe_int pe_int) pa_nil)))))
      (pss_cons (ps_expr (pe_bm PySem.F.plainAttrs_list PySem.F.slot_list_append PySem.F.type_list_append mt_append (pv 6) (pa_cons (pe_tup (pa_cons (pv 5) (pa_cons (pv 8) pa_nil))) pa_nil)))
      (pss_one (ps_set (i := 5) sc_l_gate.nd rfl (Or.inl rfl) (pe_op op_add (pv 5) (pv 8))))))))
      (pss_cons (ps_set (i := 9) sc_l_gate.nd rfl (Or.inr rfl) (pe_op op_add (pv 5) (pe_call (ok_l_parts T) hr (by rfl) T.g_l_parts T.F_l_parts.kp T.b_l_parts .nil pass0 (pa_cons (pv 0) (pa_cons (pe_callTy call_int1 (by rfl) T.m_int (by decide +kernel) (pa_cons (pe_cmpR op_eq (pv 5) pe_int (nomark _)) pa_nil)) (pa_cons (pe_op op_pow pe_int pe_int) pa_nil))))))
      (pss_cons (ps_set (i := 10) sc_l_gate.nd rfl (Or.inr rfl) (pe_call (ok_l_choice T) (hr.mono (by decide)) (by rfl) T.g_l_choice T.F_l_choice.kp T.b_l_choice .nil pass0 (pa_cons (pv 0) (pa_cons (pe_lst (pa_cons pe_int (pa_cons pe_int (pa_cons (pe_call (ok_l_draw T) (hr.mono (by decide)) (by rfl) T.g_l_draw T.F_l_draw.kp T.b_l_draw .nil pass0 (pa_cons (pv 0) (pa_cons (pv 9) pa_nil))) pa_nil)))) pa_nil))))
      (pss_cons (ps_set (i := 11) sc_l_gate.nd rfl (Or.inl rfl) (pe_callB cr_sortedPO (by rfl) T.m_sorted (by decide +kernel) (pa_cons (pe_lc (own := [("_law_begin", 12), ("_law_length", 8)]) (g := (gTup K 2 (gCons (gName 12) (gCons (gName 8) gNil)))) (tt := tYes) rfl sc_l_gate.nd (pi_list (pv 6)) (blkOk_by (N := N_l_gate) (sc := defScope s_l_gate) (by decide +kernel)) (fun _ _ _ _ _ => (pg_tup rfl (pgs_cons (pg_name (i := 12) sc_l_gate.nd rfl (Or.inl rfl)) (pgs_cons (pg_name (i := 8) sc_l_gate.nd rfl (Or.inl rfl)) pgs_nil)))) (fun _ _ _ _ _ => pts_nil) (fun _ _ _ _ _ => (pe_tup (pa_cons (pe_op op_mod (pe_op op_add (pv 12) (pv 10)) (pv 9)) (pa_cons (pv 8) pa_nil))))) pa_nil)))
      (pss_cons (ps_setLc (i := 11) (own := [("_law_begin", 12), ("_law_length", 8)]) (g := (gTup K 2 (gCons (gName 12) (gCons (gName 8) gNil)))) (tt := tYes) rfl sc_l_gate.nd rfl rfl (sw_true rfl rfl rfl (by decide +kernel)) (pi_list (pv 11)) (blkOk_by (N := N_l_gate) (sc := defScope s_l_gate) (by decide +kernel)) (fun _ _ _ _ _ => (pg_tup rfl (pgs_cons (pg_name (i := 12) sc_l_gate.nd rfl (Or.inl rfl)) (pgs_cons (pg_name (i := 8) sc_l_gate.nd rfl (Or.inl rfl)) pgs_nil)))) (fun _ _ _ _ _ => pts_nil) (fun _ _ _ _ _ => (pe_tup (pa_cons (pe_call (ok_l_reduce T) (hr.mono (by decide)) (by rfl) T.g_l_reduce T.F_l_reduce.kp T.b_l_reduce .nil pass0 (pa_cons (pv 12) (pa_cons (pv 4) pa_nil))) (pa_cons (pe_call (ok_l_reduce T) (hr.mono (by decide)) (by rfl) T.g_l_reduce T.F_l_reduce.kp T.b_l_reduce .nil pass0 (pa_cons (pv 8) (pa_cons (pv 4) pa_nil))) pa_nil)))))
      (pss_one (ps_ret (pe_tup (pa_cons (pv 1) (pa_cons (pe_call (ok_l_reduce T) (hr.mono (by decide)) (by rfl) T.g_l_reduce T.F_l_reduce.kp T.b_l_reduce .nil pass0 (pa_cons (pv 9) (pa_cons (pv 4) pa_nil))) (pa_cons (pe_callTy call_tuple_of (by rfl) T.m_tuple (by decide +kernel) (pa_cons (pv 11) pa_nil)) pa_nil)))))))))))))), ?_⟩
    have c5 : CPow 10 5 := ⟨by decide, by decide, by decide⟩
    refine ⟨_, rfl, _, rfl, _, _, rfl, rfl, r, _, rfl, by omega, (B.of (n := 10) (by omega)).mono, hR, fun many H1 k0 k1 m1 => ?_⟩
    refine ⟨_, rfl, _, rfl, _, _, rfl, rfl, c5, r, _, rfl, by decide, (B.of (n := 20) (by decide)).mono, m1.b, fun y H2 y0 y1 m2 => ?_⟩
    simp only [Int.reduceToNat, Int.reducePow] at y1
    refine ⟨_, _, rfl, rfl, sizeLine2 (by simp), fun l nl => ?_⟩
    have m3 := Mo.new (o := HO.lst [.int 1, .int 1, .int 2, .int 3, .int (1 + y)]) m2.b nl
    refine ⟨r, l, _, rfl, .inl (.inl upd_same), m2.b.ne nl, by simp, by simp, m3.b, fun z H3 hz m4 => ?_⟩
    obtain ⟨by_, rfl, by0, by1⟩ : ∃ d : Int, z = .int d ∧ 1 ≤ d ∧ d ≤ 100000 := by
      simp only [List.mem_cons, List.not_mem_nil, or_false] at hz
      rcases hz with rfl | rfl | rfl | rfl | rfl
      · exact ⟨_, rfl, by omega, by omega⟩
      · exact ⟨_, rfl, by omega, by omega⟩
      · exact ⟨_, rfl, by omega, by omega⟩
      · exact ⟨_, rfl, by omega, by omega⟩
      · exact ⟨_, rfl, by omega, by omega⟩
    have m5 := ((m1.trans m2).trans m3).trans m4
    clear m1 m2 m3 m4 hz nl
    refine ⟨sizeLine2 (by simp), fun S nS => ?_⟩
    have m6 := m5.trans (Mo.new (o := HO.lst []) m5.b nS)
    have Sr : S ≠ r := m5.b.ne nS
    refine ⟨_, _, rfl, ?_⟩
    refine ⟨_, rfl, many, rfl, by omega, by omega, ?_⟩
    refine for_range (lo := 0) (fun i σ H' => Mo r H H' ∧ ∃ (spot : Int) (us : List V) (ps : List (Int × Int)) (z7 z8 : Option V) (z9 z10 z11 z12 : Option V), σ = [some (.ref r), some vpl, some (.int most), some (.int many), some (.int by_), some (.int spot), some (.ref S), z7, z8, z9, z10, z11, z12] ∧ H' S = some (.lst us) ∧ Prs H' us ps ∧ ps.length = i ∧ 0 ≤ spot ∧ spot ≤ i * 200010 ∧ (∀ x ∈ ps, 0 ≤ x.1 ∧ 0 < x.2 ∧ x.1 + x.2 ≤ spot) ∧ ps.Pairwise (fun x y => x.1 + x.2 ≤ y.1)) ⟨m6, 0, [], [], _, _, _, _, _, _, rfl, upd_same, .nil, rfl, by omega, by omega, (fun x hx => by cases hx), .nil⟩ ?_ ?_
    · rintro i σ Ha hi ⟨ma, spot, us, ps, z7, z8, z9, z10, z11, z12, rfl, hS, hp, hl, s0, s1, hx, hw⟩
      refine ⟨_, rfl, _, rfl, _, _, rfl, rfl, c5, r, 0, _, rfl, by decide, by decide, ma.b, fun v x Hb hv x0 x1 mb => ?_⟩
      simp only [Int.reduceToNat, Int.reducePow] at x1
      subst hv
      refine ⟨_, _, rfl, rfl, ?_⟩
      refine ⟨_, rfl, _, _, rfl, rfl, c5, r, 1, _, rfl, by decide, by decide, mb.b, fun v y Hc hv y0 y1 mc => ?_⟩
      simp only [Int.reduceToNat, Int.reducePow] at y1
      subst hv
      have mbc := mb.trans mc
      have hSc : Hc S = some (.lst us) := mbc.g _ _ Sr hS
      refine ⟨_, rfl, .inl ⟨rfl, us, .inl (.inl hSc)⟩, ?_⟩
      refine ⟨_, rfl, _, rfl, sizeLine2 (by simp), fun t nt => ?_⟩
      have sn := same_upd (o := HO.tup [.int (spot + x), .int y]) nt
      have mt := mbc.trans (Mo.new (o := HO.tup [.int (spot + x), .int y]) mbc.b nt)
      have hSt := sn _ _ hSc
      refine ⟨S, us, _, rfl, rfl, hSt, Nat.lt_of_lt_of_le (show us.length < 1000 by have := hp.len; omega) (by decide), ?_⟩
      refine ⟨_, rfl, _, rfl, _, _, rfl, rfl, ?_⟩
      have nS0 : H S = none := by
        cases h : H S with
        | none => rfl
        | some o => exact absurd (m5.g _ _ Sr h) (by rw [nS]; intro e; cases e)
      refine ⟨(ma.trans mt).mut nS0, spot + x + y, us ++ [.ref t], ps ++ [(spot + x, y)], _, _, _, _, _, _, rfl, upd_same, ?_, ?_, by omega, ?_, ?_, ?_⟩
      · exact Prs.app (IsP.mut hSt ⟨t, rfl, upd_same⟩) (hp.imp fun u x h => IsP.mut hSt (h.mo mt))
      · rw [List.length_append, hl]; rfl
      · push_cast; omega
      · intro p hp
        rcases List.mem_append.mp hp with h | h
        · have := hx p h; omega
        · obtain rfl := List.mem_singleton.mp h
          simp only; omega
      · refine List.pairwise_append.mpr ⟨hw, List.pairwise_singleton _ _, fun p hp u hu => ?_⟩
        obtain rfl := List.mem_singleton.mp hu
        have := hx p hp
        simp only; omega
    · rintro σ Ha ⟨ma, spot, us, ps, z7, z8, z9, z10, z11, z12, rfl, hS, hp, hl, s0, s1, hx, hw⟩
      have hl6 : ps.length ≤ 6 := by omega
      have s2 : spot ≤ 1300000 := by
        have : ((many.toNat : Nat) : Int) ≤ 6 := by omega
        have := Int.mul_le_mul_of_nonneg_right (c := 200010) this (by decide)
        omega
      -- the period
      refine ⟨_, rfl, _, rfl, _, rfl, rfl, .inr ⟨_, rfl, _, _, rfl, rfl, c5, ?_⟩⟩
      have hk : (if decide (V.int spot = V.int 0) = true then (1 : Int) else 0) = if spot = 0 then 1 else 0 := by
        by_cases h : spot = 0
        · subst h; simp
        · rw [if_neg h, if_neg]; simpa using h
      rw [hk]
      refine ⟨r, _, _, rfl, by decide, by decide, ma.b, fun v e Hb hv e0 e1 mb => ?_⟩
      simp only [Int.reduceToNat, Int.reducePow] at e1
      subst hv
      refine ⟨_, _, rfl, rfl, ?_⟩
      have hP : 0 < spot + e := by split at e0 <;> omega
      have hP2 : spot + e ≤ 1500000 := by split at e1 <;> omega
      -- the delay
      refine ⟨_, rfl, _, rfl, _, rfl, r, spot + e, rfl, hP, (B.of (n := 21) (by omega)).mono, mb.b, fun dd Hc d0 d1 mc => ?_⟩
      refine ⟨sizeLine2 (by simp), fun l nl => ?_⟩
      have md := Mo.new (o := HO.lst [.int 0, .int 1, .int dd]) mc.b nl
      refine ⟨r, l, _, rfl, .inl (.inl upd_same), mc.b.ne nl, by simp, by simp, md.b, fun z Hd hz me => ?_⟩
      obtain ⟨dl, rfl⟩ : ∃ d : Int, z = .int d := by
        simp only [List.mem_cons, List.not_mem_nil, or_false] at hz
        rcases hz with rfl | rfl | rfl <;> exact ⟨_, rfl⟩
      have mf := ((mb.trans mc).trans md).trans me
      have mA := ma.trans mf
      have hSd := mf.g _ _ Sr hS
      have hp := hp.imp (fun u x h => IsP.mo mf h)
      clear mb mc md me hz nl
      -- the rows, sorted
      refine ⟨_, rfl, S, rfl, ⟨_, .inl (.inl hSd)⟩, fun D nD => ?_⟩
      refine lc_it (walk_list (xs := us)) (fun i H' => Same Hd H' ∧ ∃ ws, H' D = some (.lst ws) ∧ Prs H' ws ((ps.map fun x => ((x.1 + dl) % (spot + e), x.2)).take i)) ⟨same_upd nD, [], upd_same, .nil⟩ (fun i H' _ h => .inl (.inl (h.1 _ _ hSd))) ?_ ?_
      · rintro i x He Hf hi ⟨se, ws, hD, hws⟩ ⟨rfl, hxi⟩
        obtain ⟨p, hpi, ip⟩ := hp.get hxi
        obtain ⟨t, rfl, ht⟩ := ip.same se
        refine ⟨t, _, rfl, .inl (.inl ht), rfl, _, _, rfl, _, _, rfl, rfl, rfl, ?_⟩
        refine ⟨_, rfl, _, rfl, _, _, rfl, rfl, _, rfl, _, _, rfl, rfl, hP, _, rfl, sizeLine2 (by simp), fun c nc => ?_⟩
        have sc := same_upd (o := HO.tup [.int ((p.1 + dl) % (spot + e)), .int p.2]) nc
        have hDc := sc _ _ hD
        have hlw := hws.len
        rw [List.length_take] at hlw
        refine ⟨ws, hDc, Nat.lt_of_lt_of_le (show ws.length < 1000 by rw [List.length_map] at hlw; omega) (by decide), ?_, ws ++ [.ref c], upd_same, ?_⟩
        · intro b o e; rw [upd_ne (ne_of_none e nD)]; exact sc _ _ (se _ _ e)
        · rw [List.take_add_one, List.getElem?_map, hpi]
          exact Prs.app (IsP.mut hDc ⟨c, rfl, upd_same⟩) (hws.imp fun u x h => IsP.mut hDc (h.same sc))
      rintro He ⟨se, ws, hD, hws⟩
      rw [hp.len, List.take_of_length_le (by rw [List.length_map]; exact Nat.le_refl _)] at hws
      obtain ⟨kw1, kw2⟩ := hws.keys
      refine ⟨D, ws, pk He, rfl, .inl (.inl hD), fun x hx => kw2 x hx, fun ys L hsr hst nL => ?_⟩
      have sL := same_upd (o := HO.lst ys) nL
      have hyP : Prs He ys (ys.map (pk He)) := Prs.of fun u hu => kw2 u (hst.perm.mem_iff.mp hu)
      have pm : (ys.map (pk He)).Perm (ps.map fun x => ((x.1 + dl) % (spot + e), x.2)) := by rw [← kw1]; exact hst.perm.map _
      have sd : (ys.map (pk He)).Pairwise (fun x y => x.1 ≤ y.1) := by
        refine List.pairwise_map.mpr (hsr.imp fun {x y} h => ?_)
        exact lexB_fst h
      generalize ys.map (pk He) = rs at *
      have gi : GI (spot + e) ps := by
        refine ⟨hP, hl6, fun x h => ?_, ?_⟩
        · have := hx x h; omega
        · refine List.Pairwise.imp_of_mem (fun {x y} h1 h2 h => ⟨h, ?_⟩) hw
          have := hx x h1; have := hx y h2; omega
      have g2 := gi.turn pm sd
      have gv := g2.gv (by_ := by_) (by omega)
      have hby : by_ ≠ 0 := by omega
      have bby : B 17 by_ := B.of (by omega)
      have bf : ∀ x ∈ rs, B 21 x.1 ∧ B 21 x.2 := fun x h => by
        have := g2.fit x h
        exact ⟨B.of (by omega), B.of (by omega)⟩
      have hlr : rs.length ≤ 6 := g2.len
      have hyP := hyP.imp (fun u x h => IsP.same sL h)
      have hL : upd He L (.lst ys) L = some (.lst ys) := upd_same
      have mE := (mA.trans (.same mA.b (se.trans sL)))
      generalize upd He L (.lst ys) = Hf at *
      -- the rows as fractions
      refine ⟨_, rfl, L, rfl, ⟨_, .inl (.inl hL)⟩, fun M nM => ?_⟩
      have ely : ys.length = rs.length := hyP.len
      refine lc_map (K := K) (walk_list (xs := ys)) ((rs.map (qsp by_)).map dsp) nM (by rw [List.length_map, List.length_map, ely]) (by omega) (noLs_dsp _) (fun H' s => .inl (.inl (s _ _ hL))) ?_ ?_
      · rintro i x d H4 H5 hi hd s4 ⟨rfl, hxi⟩ R k
        obtain ⟨p, hpi, ip⟩ := hyP.get hxi
        have hdz : d = dsp (qsp by_ p) := by
          rw [List.getElem?_map, List.getElem?_map, hpi] at hd; exact (Option.some.inj hd).symm
        subst hdz
        obtain ⟨t, rfl, ht⟩ := ip.same s4
        have bp := bf p (List.mem_of_getElem? hpi)
        refine ⟨t, _, rfl, .inl (.inl ht), rfl, _, _, rfl, _, _, rfl, rfl, rfl, ?_⟩
        refine ⟨_, rfl, _, rfl, u_red hby bp.1.mono bby.mono fun v1 H6 s6 f6 => ?_⟩
        refine ⟨_, rfl, _, rfl, u_red hby bp.2.mono bby.mono fun v2 H7 s7 f7 => ?_⟩
        refine ⟨sizeLine2 (by simp), fun c nc => ?_⟩
        exact k _ _ ((s6.trans s7).trans (same_upd nc)) (dp_new nc (.cons (Dp_same s7 f6) (.cons f7 .nil)))
      · intro H4 ls s4 hM hls
        refine ⟨_, rfl, _, rfl, _, rfl, u_red hby (B.of (n := 21) (by omega)).mono bby.mono fun v5 H5 s5 f5 => ?_⟩
        refine ⟨_, rfl, M, ls, rfl, .inl ⟨.inl (.inl (s5 _ _ hM)), fun t nt => ?_⟩⟩
        have s6 := same_upd (o := HO.tup ls) nt
        refine ⟨sizeLine2 (by simp), fun c nc => ?_⟩
        have s7 := same_upd (o := HO.tup [vpl, v5, .ref t]) nc
        have mF := mE.trans (.same mE.b (((s4.trans s5).trans s6).trans s7))
        refine q _ _ _ _ mF (dp_new nc (.cons (Dp_same (((s4.trans s5).trans s6)) (Dp_mo mE hpl (noL_dq _))) (.cons (Dp_same s6 f5) (.cons (dp_new nt (DpAll_same s5 hls)) .nil)))) ⟨gv, ?_, fun x hx => ?_⟩
        · exact (b_qsp (n := 21) (k := 17) hby (B.of (by omega)) bby (by decide) (by decide)).mono
        · obtain ⟨p, hp, rfl⟩ := List.mem_map.mp hx
          exact ⟨(b_qsp hby (bf p hp).1 bby (by decide) (by decide)).mono, (b_qsp hby (bf p hp).2 bby (by decide) (by decide)).mono⟩
def spCopied (K : PySem.W.Frag) : Sp := fun vs H Q _ => ∃ (r : Addr) (v : V) (pl P : Rat) (xs : Sps), vs = [.ref r, v] ∧ Rng H r ∧ Dp K H v (dG pl P xs) ∧ Gs 40 P xs ∧ ∀ v' P' xs' H', Mo r H H' → Dp K H' v' (dG pl P' xs') → Gs 90 P' xs' → Q v' H'
theorem Gs.mono {n m : Nat} {P : Rat} {xs : Sps} (g : Gs n P xs) (h : n ≤ m := by decide) : Gs m P xs := ⟨g.g, g.p.mono h, fun x hx => ⟨(g.b x hx).1.mono h, (g.b x hx).2.mono h⟩⟩
theorem ok_l_copied_gate (T : Txt K mg) : FnOk P w K mg base CX0 4 T.f_l_copied_gate T.d_l_copied_gate Ps_l_copied_gate (spCopied K) := by
  refine T.F_l_copied_gate.ok sc_l_copied_gate (fun vs H Q E h => ?_) (fun cdv A outer s H vs Q E hr h => ?_)
  · obtain ⟨r, _, _, _, _, rfl, _⟩ := h; rfl
  · obtain ⟨r, v, pl, P, xs, rfl, hR, hv, G, q⟩ := h
    refine ⟨_, (pss_cons (ps_set (i := 2) sc_l_copied_gate.nd rfl (Or.inl rfl) (pe_call (ok_l_choice T) (hr.mono (by decide)) (by rfl) T.g_l_choice T.F_l_choice.kp T.b_l_choice .nil pass0 (pa_cons (pv 0) (pa_cons (pe_lst (pa_cons pe_int (pa_cons pe_int (pa_cons pe_int (pa_cons pe_int pa_nil))))) pa_nil))))
      (pss_cons (ps_asg (pv 1) (pg_tup (by rfl) (pgs_cons (pg_name (i := 3) sc_l_copied_gate.nd rfl (Or.inl rfl)) (pgs_cons (pg_name (i := 4) sc_l_copied_gate.nd rfl (Or.inr rfl)) (pgs_cons (pg_name (i := 5) sc_l_copied_gate.nd rfl (Or.inl rfl)) pgs_nil)))))
      (pss_cons (ps_if (pt_cmpR op_gt (pe_op op_mulW (pv 2) (pe_callB call_len_seq (by rfl) T.m_len PySem.boot_len (pa_cons (pv 5) pa_nil))) pe_int (nomark _)) (pss_one (ps_ret (pv 1))) pss_nil)
      (pss_cons (ps_set (i := 6) sc_l_copied_gate.nd rfl (Or.inl rfl) (pe_lst pa_nil))
      (pss_cons (ps_for PassesOwn.never rfl (pi_range1 rfl T.m_range (pa_cons (pv 2) pa_nil)) (pg_name (i := 7) sc_l_copied_gate.nd rfl (Or.inr rfl)) (pss_one (ps_expr (pe_bm PySem.F.plainAttrs_list PySem.F.slot_list_extend PySem.F.type_list_extend mt_extend (pv 6) (pa_cons (pe_lc (own := [("_law_begin", 8), ("_law_length", 9)]) (g := (gTup K 2 (gCons (gName 8) (gCons (gName 9) gNil)))) (tt := tYes) rfl sc_l_copied_gate.nd (pi_tup (pv 5)) (blkOk_by (N := N_l_copied_gate) (sc := defScope s_l_copied_gate) (by decide +kernel)) (fun _ _ _ _ _ => (pg_tup rfl (pgs_cons (pg_name (i := 8) sc_l_copied_gate.nd rfl (Or.inl rfl)) (pgs_cons (pg_name (i := 9) sc_l_copied_gate.nd rfl (Or.inl rfl)) pgs_nil)))) (fun _ _ _ _ _ => pts_nil) (fun _ _ _ _ _ => (pe_tup (pa_cons (pe_call (ok_l_add T) hr (by rfl) T.g_l_add T.F_l_add.kp T.b_l_add .nil pass0 (pa_cons (pv 8) (pa_cons (pe_call (ok_l_times T) hr (by rfl) T.g_l_times T.F_l_times.kp T.b_l_times .nil pass0 (pa_cons (pv 7) (pa_cons (pv 4) pa_nil))) pa_nil))) (pa_cons (pv 9) pa_nil))))) pa_nil)))))
      (pss_one (ps_ret (pe_tup (pa_cons (pv 3) (pa_cons (pe_call (ok_l_times T) hr (by rfl) T.g_l_times T.F_l_times.kp T.b_l_times .nil pass0 (pa_cons (pv 2) (pa_cons (pv 4) pa_nil))) (pa_cons (pe_callTy call_tuple_of (by rfl) T.m_tuple (by decide +kernel) (pa_cons (pv 6) pa_nil)) pa_nil))))))))))), ?_⟩
    refine ⟨_, rfl, sizeLine2 (by simp), fun l nl => ?_⟩
    have m1 := Mo.new (o := HO.lst [.int 1, .int 1, .int 2, .int 3]) hR nl
    refine ⟨r, l, _, rfl, .inl (.inl upd_same), hR.ne nl, by simp, by simp, m1.b, fun z H1 hz m2 => ?_⟩
    have m3 := m1.trans m2
    obtain ⟨c, rfl, c0, c1⟩ : ∃ c : Nat, z = .int c ∧ 0 < c ∧ c ≤ 3 := by
      simp only [List.mem_cons, List.not_mem_nil, or_false] at hz
      rcases hz with rfl | rfl | rfl | rfl
      · exact ⟨1, rfl, by omega, by omega⟩
      · exact ⟨1, rfl, by omega, by omega⟩
      · exact ⟨2, rfl, by omega, by omega⟩
      · exact ⟨3, rfl, by omega, by omega⟩
    have hv1 := Dp_mo m3 hv (noL_dG _ _ _)
    obtain ⟨U, v1, v2, v3, rfl, hU, d1, d2, d3⟩ := dp_three hv1
    obtain ⟨a, us, rfl, ha, hu⟩ := dp_tup d3
    have el : us.length = xs.length := by rw [DpAll_len hu, List.length_map]
    have hl6 := G.g.len
    have hP := G.g.pos
    refine ⟨_, rfl, U, _, rfl, hU, rfl, _, _, rfl, _, _, rfl, _, _, rfl, rfl, ?_⟩
    refine ⟨_, rfl, _, rfl, a, us, rfl, .inr ha, _, _, rfl, rfl, cm (n := 4) (m := 10) (B.of (by omega)) (B.of (by omega)), _, _, rfl, rfl, _, rfl, brI (fun h => ?_) (fun h => ?_)⟩
    · exact ⟨_, rfl, q _ _ _ _ m3 hv1 G.mono⟩
    have hcl : c * xs.length ≤ 6 := by
      have : ((c * us.length : Nat) : Int) ≤ 6 := by rw [Int.natCast_mul]; omega
      rw [el] at this; omega
    refine ⟨sizeLine2 (by simp), fun S nS => ?_⟩
    refine ⟨_, rfl, c, rfl, by omega, by omega, ?_⟩
    refine for_range (lo := 0) (fun i σ H' => Same H1 H' ∧ ∃ (ws : List V) (z6 z7 z8 z9 : Option V), σ = [some (.ref r), some (.ref U), some (.int c), some v1, some v2, some (.ref a), some (.ref S), z6, z7, z8] ∧ H' S = some (.lst ws) ∧ DpAll K H' ws ((cpQ P xs i).map dsp)) ⟨same_upd nS, [], _, _, _, none, rfl, upd_same, .nil⟩ ?_ ?_
    · rintro i σ H2 hi ⟨s2, ws, z6, z7, z8, z9, rfl, hS, hws⟩
      rw [Int.toNat_natCast] at hi
      refine ⟨_, rfl, .inl ⟨rfl, ws, .inl (.inl hS)⟩, ?_⟩
      refine ⟨_, rfl, a, rfl, ⟨_, Evl.ex_t s2 ha⟩, fun D nD => ?_⟩
      refine lc_map (K := K) (walk_tup (xs := us)) ((xs.map fun x => (x.1 + ((i : Int) : Rat) * P, x.2)).map dsp) nD (by rw [List.length_map, List.length_map, el]) (by omega) (noLs_dsp _) (fun H' s => Evl.ex_t (s2.trans s) ha) ?_ ?_
      · rintro j x d H3 H4 hj hd s3 ⟨rfl, hx⟩ R k
        obtain ⟨z, hz, dz⟩ := get_map hu hx
        have hdz : d = dsp (z.1 + ((i : Int) : Rat) * P, z.2) := by
          rw [List.getElem?_map, List.getElem?_map, hz] at hd; exact (Option.some.inj hd).symm
        subst hdz
        have bz := G.b z (List.mem_of_getElem? hz)
        have s23 := s2.trans s3
        obtain ⟨V', w1, w2, rfl, hV, e1, e2⟩ := dp_two (Dp_same s23 dz)
        refine ⟨V', _, rfl, hV, rfl, _, _, rfl, _, _, rfl, rfl, rfl, ?_⟩
        have bi : B 3 (0 + (i : Int)) := B.of (by omega)
        refine ⟨_, rfl, _, rfl, _, rfl, u_times (Dp_same s23 d2) bi.mono G.p.mono fun v4 H5 s5 f5 => ?_⟩
        refine u_add (Dp_same s5 e1) f5 bz.1.mono (Bq.times bi G.p).mono fun v5 H6 s6 f6 => ?_
        rw [Int.zero_add] at f6
        refine ⟨_, rfl, sizeLine2 (by simp), fun t nt => ?_⟩
        exact k _ _ ((s5.trans s6).trans (same_upd nt)) (dp_new nt (.cons f6 (.cons (Dp_same (s5.trans s6) e2) .nil)))
      · intro H3 ls s3 hD hls
        have hS3 := s3 _ _ hS
        have e1 := DpAll_len hls
        have e2 := DpAll_len hws
        rw [List.length_map, List.length_map] at e1
        rw [List.length_map, cp_len] at e2
        have : i * xs.length ≤ 3 * 6 := Nat.mul_le_mul (by omega) hl6
        refine ⟨S, D, ws, ls, rfl, rfl, hS3, hD, sizeLine2 (by omega), ?_⟩
        have nS0 : H1 S = none := nS
        refine ⟨fun b o e => by rw [upd_ne (ne_of_none e nS0)]; exact s3 _ _ (s2 _ _ e), ws ++ ls, _, _, _, none, rfl, upd_same, ?_⟩
        rw [cpQ, List.map_append]
        exact DpAll_mut hS3 (DpAll_append hls (DpAll_same s3 hws)) (by rw [← List.map_append]; exact noLs_dsp _)
    · rintro σ H2 ⟨s2, ws, z6, z7, z8, z9, rfl, hS, hws⟩
      rw [Int.toNat_natCast] at hws
      have bc : B 3 (c : Int) := B.of (by omega)
      refine ⟨_, rfl, _, rfl, _, rfl, u_times (Dp_same s2 d2) bc.mono G.p.mono fun v4 H5 s5 f5 => ?_⟩
      refine ⟨_, rfl, S, ws, rfl, .inl ⟨.inl (.inl (s5 _ _ hS)), fun t nt => ?_⟩⟩
      have s6 := same_upd (o := HO.tup ws) nt
      refine ⟨sizeLine2 (by simp), fun p np => ?_⟩
      have s7 := same_upd (o := HO.tup [v1, v4, .ref t]) np
      have sA := ((s2.trans s5).trans s6).trans s7
      refine q _ _ _ _ (m3.trans (.same m3.b sA)) (dp_new np (.cons (Dp_same ((s2.trans s5).trans s6) d1) (.cons (Dp_same s6 f5) (.cons (dp_new nt (DpAll_same s5 hws)) .nil)))) ⟨G.g.copies c0 hcl, (Bq.times bc G.p).mono, fun x hx => ?_⟩
      obtain ⟨y, hy, j, hj, rfl⟩ := cp_mem hx
      have by_ := G.b y hy
      exact ⟨(by_.1.add (Bq.times (n := 3) (k := (j : Int)) (B.of (by omega)) G.p)).mono, by_.2.mono⟩
def spShutBy (K : PySem.W.Frag) : Sp := fun vs H Q _ => ∃ (v vm : V) (pl P : Rat) (xs : Sps) (m : Rat), vs = [v, vm] ∧ Dp K H v (dG pl P xs) ∧ Gd P xs ∧ Dp K H vm (dq m) ∧ Bq 1190 m ∧ (∀ H', Same H H' → shutQ P xs m = none → Q .non H') ∧ (∀ (i : Nat) x H', Same H H' → xs[i]? = some x → lateB P m x = true → shutQ P xs m = some (till P m x) → Q (.int i) H')
theorem num_pos {q : Rat} : 0 < q.num ↔ 0 < q := by
  rw [Rat.lt_iff]
  show _ ↔ (0 : Int) * _ < q.num * 1
  rw [Int.zero_mul, Int.mul_one]
theorem ok_l_shut_by (T : Txt K mg) : FnOk P w K mg base CX0 5 T.f_l_shut_by T.d_l_shut_by Ps_l_shut_by (spShutBy K) := by
  refine T.F_l_shut_by.ok sc_l_shut_by (fun vs H Q E h => ?_) (fun cdv A outer s H vs Q E hr h => ?_)
  · obtain ⟨x, _, _, _, _, _, rfl, _⟩ := h; rfl
  · obtain ⟨v, vm, pl, P, xs, m, rfl, hv, G, hm, bm, q1, q2⟩ := h
    refine ⟨_, (pss_cons (ps_asg (pv 0) (pg_tup (by rfl) (pgs_cons (pg_name (i := 2) sc_l_shut_by.nd rfl (Or.inl rfl)) (pgs_cons (pg_name (i := 3) sc_l_shut_by.nd rfl (Or.inl rfl)) (pgs_cons (pg_name (i := 4) sc_l_shut_by.nd rfl (Or.inl rfl)) pgs_nil)))))
      (pss_cons (ps_for PassesOwn.never rfl (pi_range1 rfl T.m_range (pa_cons (pe_callB call_len_seq (by rfl) T.m_len PySem.boot_len (pa_cons (pv 4) pa_nil)) pa_nil)) (pg_name (i := 5) sc_l_shut_by.nd rfl (Or.inl rfl)) (pss_cons (ps_asg (pe_ix ix_tup (pv 4) (pv 5) (fun _ _ => rfl)) (pg_tup (by rfl) (pgs_cons (pg_name (i := 6) sc_l_shut_by.nd rfl (Or.inl rfl)) (pgs_cons (pg_name (i := 7) sc_l_shut_by.nd rfl (Or.inl rfl)) pgs_nil))))
      (pss_cons (ps_set (i := 8) sc_l_shut_by.nd rfl (Or.inl rfl) (pe_call (ok_l_rest T) hr (by rfl) T.g_l_rest T.F_l_rest.kp T.b_l_rest .nil pass0 (pa_cons (pe_call (ok_l_subtract T) (hr.mono (by decide)) (by rfl) T.g_l_subtract T.F_l_subtract.kp T.b_l_subtract .nil pass0 (pa_cons (pv 1) (pa_cons (pv 6) pa_nil))) (pa_cons (pv 3) pa_nil))))
      (pss_one (ps_if (PW.pt (pw_and (pt_cmpR op_gt (pe_ix ix_tup (pv 8) pe_int (fun _ _ => rfl)) pe_int (nomark _)) (pw_and1 (pt_val (pe_call (ok_l_lessQ T) (hr.mono (by decide)) (by rfl) T.g_l_less T.F_l_less.kp T.b_l_less .nil pass0 (pa_cons (pv 8) (pa_cons (pv 7) pa_nil))))))) (pss_one (ps_ret (pv 5))) pss_nil)))))
      (pss_one (ps_ret pe_non)))), ?_⟩
    obtain ⟨U, v1, v2, v3, rfl, hU, d1, d2, d3⟩ := dp_three hv
    obtain ⟨a, us, rfl, ha, hu⟩ := dp_tup d3
    have el : us.length = xs.length := by rw [DpAll_len hu, List.length_map]
    have hl6 := G.g.len
    have hP0 := G.g.pos
    refine ⟨_, rfl, U, _, rfl, hU, rfl, _, _, rfl, _, _, rfl, _, _, rfl, rfl, ?_⟩
    refine ⟨_, rfl, a, us, rfl, .inr ha, _, rfl, by omega, by omega, ?_⟩
    refine for_range (lo := 0) (fun i σ H' => Same H H' ∧ (xs.take i).find? (lateB P m) = none ∧ ∃ z5 z6 z7 z8, σ = [some (.ref U), some vm, some v1, some v2, some (.ref a), z5, z6, z7, z8]) ⟨Same.refl _, rfl, _, _, _, _, rfl⟩ ?_ ?_
    · rintro i σ H2 hi ⟨s2, hn, z5, z6, z7, z8, rfl⟩
      rw [Int.toNat_natCast] at hi
      have hil : i < xs.length := by omega
      obtain ⟨z, hz, dz⟩ := get_map hu (List.getElem?_eq_getElem hi)
      have bz := G.b z (List.mem_of_getElem? hz)
      obtain ⟨V', w1, w2, eV, hV, e1, e2⟩ := dp_two (Dp_same s2 dz)
      refine ⟨_, rfl, _, rfl, a, us, _, us[i], rfl, rfl, Evl.ex_t s2 ha, (by rw [Int.zero_add]; exact atI_nat (List.getElem?_eq_getElem hi)), ?_⟩
      rw [eV]
      refine ⟨V', _, rfl, hV, rfl, _, _, rfl, _, _, rfl, rfl, ?_⟩
      refine ⟨_, rfl, _, rfl, u_sub (Dp_same s2 hm) e1 bm.mono bz.1.mono fun v4 H3 s3 f3 => ?_⟩
      refine ⟨_, rfl, _, _, _, _, rfl, f3, Dp_same (s2.trans s3) d2, hP0, ((bm.sub bz.1).mono), G.p.mono, fun v5 H4 s4 f4 => ?_⟩
      have s24 := s3.trans s4
      have br : Bq 1430 (remQ (m - z.1) P) := (Bq.rem hP0 (bm.sub bz.1) G.p).mono
      have tk : xs.take (i + 1) = xs.take i ++ [z] := by rw [List.take_add_one, hz]; rfl
      have lt : lateB P m z = (decide (remQ (m - z.1) P ≠ 0) && decide (remQ (m - z.1) P < z.2)) := rfl
      have nn := remQ_nn (p := m - z.1) hP0
      obtain ⟨p5, rfl, h5⟩ := dq_fr f4
      refine ⟨_, rfl, _, _, _, _, rfl, rfl, h5, ix0, _, _, rfl, rfl, _, rfl, brI (fun c => ?_) (fun c => ?_)⟩
      · have c := num_pos.mp c
        refine ⟨_, rfl, _, rfl, _, _, _, _, rfl, f4, Dp_same s24 e2, br.mono, bz.2.mono, ?_⟩
        rintro _ _ rfl rfl
        refine ⟨_, rfl, brI (fun c2 => ?_) (fun c2 => ?_)⟩
        · have l1 : lateB P m z = true := by rw [lt, decide_eq_true (show remQ (m - z.1) P ≠ 0 by grind), decide_eq_true c2]; rfl
          have : shutQ P xs m = some (till P m z) := by
            unfold shutQ
            have : xs = xs.take i ++ (z :: xs.drop (i + 1)) := by
              have h := List.take_append_drop (i + 1) xs
              rw [tk, List.append_assoc] at h; exact h.symm
            rw [this, List.find?_append, hn, List.find?_cons_of_pos l1]; rfl
          refine ⟨_, rfl, ?_⟩
          show Q (.int (0 + (i : Int))) _
          rw [Int.zero_add]
          exact q2 i z _ (s2.trans s24) hz l1 this
        · have l1 : lateB P m z = false := by rw [lt, decide_eq_false c2, Bool.and_false]
          refine ⟨s2.trans s24, ?_, _, _, _, _, rfl⟩
          rw [tk, List.find?_append, hn, List.find?_cons_of_neg (by rw [l1]; decide)]; rfl
      · have c : remQ (m - z.1) P = 0 := by
          have : ¬ 0 < remQ (m - z.1) P := fun h => c (num_pos.mpr h)
          grind
        have l1 : lateB P m z = false := by rw [lt, decide_eq_false (fun h => h c), Bool.false_and]
        refine ⟨s2.trans s24, ?_, _, _, _, _, rfl⟩
        rw [tk, List.find?_append, hn, List.find?_cons_of_neg (by rw [l1]; decide)]; rfl
    · rintro σ H2 ⟨s2, hn, z5, z6, z7, z8, rfl⟩
      rw [Int.toNat_natCast, el, List.take_length] at hn
      exact q1 _ s2 (by unfold shutQ; rw [hn]; rfl)
theorem ok_l_is_open (T : Txt K mg) : FnOk P w K mg base CX0 6 T.f_l_is_open T.d_l_is_open Ps_l_is_open (spOpen K) := by
  refine T.F_l_is_open.ok sc_l_is_open (fun vs H Q E h => ?_) (fun cdv A outer s H vs Q E hr h => ?_)
  · obtain ⟨x, _, _, _, _, _, rfl, _⟩ := h; rfl
  · obtain ⟨v, vm, pl, P, xs, m, rfl, hv, G, hm, bm, q⟩ := h
    refine ⟨_, (pss_one (ps_ret (pe_cmpR op_isN (pe_call (ok_l_shut_by T) hr (by rfl) T.g_l_shut_by T.F_l_shut_by.kp T.b_l_shut_by .nil pass0 (pa_cons (pv 0) (pa_cons (pv 1) pa_nil))) pe_non (nomark _)))), ?_⟩
    refine ⟨_, rfl, _, rfl, v, vm, pl, P, xs, m, rfl, hv, G, hm, bm, fun H1 s1 e => ?_, fun i x H1 s1 hi hx e => ?_⟩
    · refine ⟨rfl, q _ _ s1 (by rw [e]; rfl)⟩
    · refine ⟨rfl, q _ _ s1 (by rw [e]; rfl)⟩
def spNear (K : PySem.W.Frag) : Sp := fun vs H Q _ => ∃ (r : Addr) (v : V) (pl P : Rat) (xs : Sps), vs = [.ref r, v] ∧ Rng H r ∧ Dp K H v (dG pl P xs) ∧ Gs 90 P xs ∧ ∀ v' m H', Mo r H H' → Dp K H' v' (dq m) → Bq 300 m → Q v' H'
theorem DpAll_mem {H : Hp} {α : Type} {f : α → PyData} {us : List V} {xs : List α} {u : V} (h : DpAll K H us (xs.map f)) (e : u ∈ us) : ∃ x ∈ xs, Dp K H u (f x) := by
  obtain ⟨i, hi⟩ := List.mem_iff_getElem?.mp e
  obtain ⟨x, hx, d⟩ := get_map h hi
  exact ⟨x, List.mem_of_getElem? hx, d⟩
theorem ok_l_near_moment (T : Txt K mg) : FnOk P w K mg base CX0 4 T.f_l_near_moment T.d_l_near_moment Ps_l_near_moment (spNear K) := by
  refine T.F_l_near_moment.ok sc_l_near_moment (fun vs H Q E h => ?_) (fun cdv A outer s H vs Q E hr h => ?_)
  · obtain ⟨r, _, _, _, _, rfl, _⟩ := h; rfl
  · obtain ⟨r, v, pl, P, xs, rfl, hR, hv, G, q⟩ := h
    refine ⟨_, (pss_cons (ps_set (i := 2) sc_l_near_moment.nd rfl (Or.inl rfl) (pe_call (ok_l_times T) hr (by rfl) T.g_l_times T.F_l_times.kp T.b_l_times .nil pass0 (pa_cons (pe_call (ok_l_choice T) (hr.mono (by decide)) (by rfl) T.g_l_choice T.F_l_choice.kp T.b_l_choice .nil pass0 (pa_cons (pv 0) (pa_cons (pe_lst (pa_cons pe_int (pa_cons pe_int (pa_cons (pe_un un_neg pe_int) (pa_cons (pe_op op_sub (pe_call (ok_l_draw T) (hr.mono (by decide)) (by rfl) T.g_l_draw T.F_l_draw.kp T.b_l_draw .nil pass0 (pa_cons (pv 0) (pa_cons pe_int pa_nil))) pe_int) pa_nil))))) pa_nil))) (pa_cons (pe_ix ix_tup (pv 1) pe_int (fun _ _ => rfl)) pa_nil))))
      (pss_cons (ps_if (pt_cmpR op_eq (pe_callB call_len_seq (by rfl) T.m_len PySem.boot_len (pa_cons (pe_ix ix_tup (pv 1) pe_int (fun _ _ => rfl)) pa_nil)) pe_int (nomark _)) (pss_one (ps_ret (pe_call (ok_l_add T) hr (by rfl) T.g_l_add T.F_l_add.kp T.b_l_add .nil pass0 (pa_cons (pv 2) (pa_cons (pe_call (ok_l_smallQ T) hr (by rfl) T.g_l_small T.F_l_small.kp T.b_l_small .nil pass0 (pa_cons (pv 0) pa_nil)) pa_nil))))) pss_nil)
      (pss_cons (ps_asg (pe_call (ok_l_choice T) (hr.mono (by decide)) (by rfl) T.g_l_choice T.F_l_choice.kp T.b_l_choice .nil pass0 (pa_cons (pv 0) (pa_cons (pe_callTy call_list_of (by rfl) T.m_list (by decide +kernel) (pa_cons (pe_ix ix_tup (pv 1) pe_int (fun _ _ => rfl)) pa_nil)) pa_nil))) (pg_tup (by rfl) (pgs_cons (pg_name (i := 3) sc_l_near_moment.nd rfl (Or.inl rfl)) (pgs_cons (pg_name (i := 4) sc_l_near_moment.nd rfl (Or.inl rfl)) pgs_nil))))
      (pss_cons (ps_set (i := 5) sc_l_near_moment.nd rfl (Or.inl rfl) (pe_call (ok_l_choice T) (hr.mono (by decide)) (by rfl) T.g_l_choice T.F_l_choice.kp T.b_l_choice .nil pass0 (pa_cons (pv 0) (pa_cons (pe_lst (pa_cons (pv 3) (pa_cons (pe_call (ok_l_add T) hr (by rfl) T.g_l_add T.F_l_add.kp T.b_l_add .nil pass0 (pa_cons (pv 3) (pa_cons (pv 4) pa_nil))) (pa_cons (pe_call (ok_l_add T) hr (by rfl) T.g_l_add T.F_l_add.kp T.b_l_add .nil pass0 (pa_cons (pv 3) (pa_cons (pe_call (ok_l_multiply T) hr (by rfl) T.g_l_multiply T.F_l_multiply.kp T.b_l_multiply .nil pass0 (pa_cons (pv 4) (pa_cons (pe_tup (pa_cons pe_int (pa_cons pe_int pa_nil))) pa_nil))) pa_nil))) (pa_cons (pe_call (ok_l_subtract T) hr (by rfl) T.g_l_subtract T.F_l_subtract.kp T.b_l_subtract .nil pass0 (pa_cons (pv 3) (pa_cons (pe_tup (pa_cons pe_int (pa_cons pe_int pa_nil))) pa_nil))) (pa_cons (pe_call (ok_l_add T) hr (by rfl) T.g_l_add T.F_l_add.kp T.b_l_add .nil pass0 (pa_cons (pe_call (ok_l_add T) hr (by rfl) T.g_l_add T.F_l_add.kp T.b_l_add .nil pass0 (pa_cons (pv 3) (pa_cons (pv 4) pa_nil))) (pa_cons (pe_tup (pa_cons pe_int (pa_cons pe_int pa_nil))) pa_nil))) pa_nil)))))) pa_nil))))
      (pss_one (ps_ret (pe_call (ok_l_add T) hr (by rfl) T.g_l_add T.F_l_add.kp T.b_l_add .nil pass0 (pa_cons (pv 5) (pa_cons (pv 2) pa_nil))))))))), ?_⟩
    refine ⟨_, rfl, _, rfl, _, rfl, r, 9, rfl, by decide, (B.of (n := 10) (by decide)).mono, hR, fun x H1 x0 x1 m1 => ?_⟩
    refine ⟨_, _, rfl, rfl, sizeLine2 (by simp), fun l nl => ?_⟩
    have m2 := Mo.new (o := HO.lst [.int 0, .int 1, .int (-2), .int (x - 4)]) m1.b nl
    refine ⟨r, l, _, rfl, .inl (.inl upd_same), m1.b.ne nl, by simp, by simp, m2.b, fun z H2 hz m3 => ?_⟩
    have mm := (m1.trans m2).trans m3
    obtain ⟨k, rfl, bk⟩ : ∃ k : Int, z = .int k ∧ B 3 k := by
      simp only [List.mem_cons, List.not_mem_nil, or_false] at hz
      rcases hz with rfl | rfl | rfl | rfl
      · exact ⟨_, rfl, B.of (by decide)⟩
      · exact ⟨_, rfl, B.of (by decide)⟩
      · exact ⟨_, rfl, B.of (by decide)⟩
      · exact ⟨_, rfl, B.of (by omega)⟩
    have hv2 := Dp_mo mm hv (noL_dG _ _ _)
    obtain ⟨U, v1, v2, v3, rfl, hU, d1, d2, d3⟩ := dp_three hv2
    obtain ⟨a, us, rfl, ha, hu⟩ := dp_tup d3
    refine ⟨_, rfl, U, _, _, _, rfl, rfl, hU, ix1, u_times d2 bk.mono G.p.mono fun v4 H3 s3 f3 => ?_⟩
    have b3 : Bq 93 ((k : Rat) * P) := Bq.times bk G.p
    have m4 := mm.trans (.same mm.b s3)
    have hU3 := Evl.ex_t s3 hU
    have ha3 := Evl.ex_t s3 ha
    have hu3 := DpAll_same s3 hu
    refine ⟨_, rfl, U, _, _, _, rfl, rfl, hU3, ix2, a, us, rfl, .inr ha3, rfl, _, rfl, brEq (fun h0 => ?_) (fun h0 => ?_)⟩
    · refine ⟨_, rfl, _, rfl, r, rfl, m4.b, fun v5 p5 H5 m5 f5 b5 => ?_⟩
      refine u_add (Dp_mo m5 f3 (noL_dq _)) f5 b3.mono b5.mono fun v6 H6 s6 f6 => ?_
      exact q _ _ _ ((m4.trans m5).trans (.same m5.b s6)) f6 (b3.add b5).mono
    · refine ⟨_, rfl, _, rfl, U, _, _, _, rfl, rfl, hU3, ix2, a, us, rfl, .inr ha3, fun L nL => ?_⟩
      have m5 := Mo.new (o := HO.lst us) m4.b nL
      have s5 := same_upd (o := HO.lst us) nL
      refine ⟨r, L, us, rfl, .inl (.inl upd_same), m4.b.ne nL, by omega, by have := DpAll_len hu; have := G.g.len; rw [List.length_map] at *; omega, m5.b, fun y H5 hy m6 => ?_⟩
      obtain ⟨z, hz, dz⟩ := DpAll_mem hu3 hy
      have m56 := m5.trans m6
      have bz := G.b z hz
      obtain ⟨V', w1, w2, rfl, hV, e1, e2⟩ := dp_two (Dp_mo m56 dz (noL_dsp _))
      refine ⟨V', _, rfl, hV, rfl, _, _, rfl, _, _, rfl, rfl, ?_⟩
      have f3' := Dp_mo m56 f3 (noL_dq _)
      have m7 := m4.trans m56
      clear m56 m5 m6 s5 nL
      refine ⟨_, rfl, _, rfl, _, rfl, _, rfl, u_add e1 e2 bz.1.mono bz.2.mono fun vA HA sA fA => ?_⟩
      have bA : Bq 181 (z.1 + z.2) := bz.1.add bz.2
      refine ⟨_, rfl, _, rfl, sizeLine2 (by simp), fun ph nh => ?_⟩
      have sh := same_upd (o := HO.tup [.int 1, .int 2]) nh
      have fh : Dp K _ (.ref ph) (dq (1 / 2 : Rat)) := dq_lit (a := 1) (b := 2) nh (by decide +kernel) (by decide +kernel)
      have bh : Bq 3 (1 / 2 : Rat) := ⟨B.of (by decide +kernel), B.of (by decide +kernel)⟩
      refine u_mul (Dp_same (sA.trans sh) e2) fh bz.2.mono bh.mono fun vB HB sB fB => ?_
      have bB : Bq 93 (z.2 * (1 / 2)) := bz.2.mul bh
      have sAB := (sA.trans sh).trans sB
      refine u_add (Dp_same sAB e1) fB bz.1.mono bB.mono fun vC HC sC fC => ?_
      have bC : Bq 184 (z.1 + z.2 * (1 / 2)) := bz.1.add bB
      have sAC := sAB.trans sC
      refine ⟨_, rfl, sizeLine2 (by simp), fun pq nq => ?_⟩
      have sq := same_upd (o := HO.tup [.int 1, .int 4]) nq
      have fq : Dp K _ (.ref pq) (dq (1 / 4 : Rat)) := dq_lit (a := 1) (b := 4) nq (by decide +kernel) (by decide +kernel)
      have bq : Bq 4 (1 / 4 : Rat) := ⟨B.of (by decide +kernel), B.of (by decide +kernel)⟩
      refine u_sub (Dp_same (sAC.trans sq) e1) fq bz.1.mono bq.mono fun vD HD sD fD => ?_
      have bD : Bq 95 (z.1 - 1 / 4) := bz.1.sub bq
      have sAD := (sAC.trans sq).trans sD
      refine ⟨_, rfl, _, rfl, u_add (Dp_same sAD e1) (Dp_same sAD e2) bz.1.mono bz.2.mono fun vE HE sE fE => ?_⟩
      have sAE := sAD.trans sE
      refine ⟨sizeLine2 (by simp), fun p8 n8 => ?_⟩
      have s8 := same_upd (o := HO.tup [.int 1, .int 8]) n8
      have f8 : Dp K _ (.ref p8) (dq (1 / 8 : Rat)) := dq_lit (a := 1) (b := 8) n8 (by decide +kernel) (by decide +kernel)
      have b8 : Bq 5 (1 / 8 : Rat) := ⟨B.of (by decide +kernel), B.of (by decide +kernel)⟩
      refine u_add (Dp_same s8 fE) f8 bA.mono b8.mono fun vF HF sF fF => ?_
      have bF : Bq 187 (z.1 + z.2 + 1 / 8) := bA.add b8
      have sAF := (sAE.trans s8).trans sF
      have fA' := Dp_same (((((((sh.trans sB).trans sC).trans sq).trans sD).trans sE).trans s8).trans sF) fA
      have fC' := Dp_same (((((sq.trans sD).trans sE).trans s8).trans sF)) fC
      have fD' := Dp_same (((sE.trans s8).trans sF)) fD
      refine ⟨sizeLine2 (by simp), fun L nL => ?_⟩
      have m8 := m7.trans (.same m7.b sAF)
      have m9 := Mo.new (o := HO.lst [w1, vA, vC, vD, vF]) m8.b nL
      refine ⟨r, L, _, rfl, .inl (.inl upd_same), m8.b.ne nL, by simp, by simp, m9.b, fun y HG hy m10 => ?_⟩
      have m910 := m9.trans m10
      obtain ⟨mq, fm, bm⟩ : ∃ mq : Rat, Dp K HG y (dq mq) ∧ Bq 190 mq := by
        simp only [List.mem_cons, List.not_mem_nil, or_false] at hy
        rcases hy with rfl | rfl | rfl | rfl | rfl
        · exact ⟨_, Dp_mo m910 (Dp_same sAF e1) (noL_dq _), bz.1.mono⟩
        · exact ⟨_, Dp_mo m910 fA' (noL_dq _), bA.mono⟩
        · exact ⟨_, Dp_mo m910 fC' (noL_dq _), bC.mono⟩
        · exact ⟨_, Dp_mo m910 fD' (noL_dq _), bD.mono⟩
        · exact ⟨_, Dp_mo m910 fF (noL_dq _), bF.mono⟩
      refine ⟨_, rfl, _, rfl, u_add fm (Dp_mo m910 (Dp_same sAF f3') (noL_dq _)) bm.mono b3.mono fun v6 H6 s6 f6 => ?_⟩
      exact q _ _ _ ((m8.trans m910).trans (.same m910.b s6)) f6 (bm.add b3).mono
end
end EP
namespace EP
open PySem PySem.Spec PyProof.Rows L2
section
variable {P : Program} {w : World} {K : PySem.W.Frag} {mg : Str → Option Value} {base : Heap}
def spNormL (K : PySem.W.Frag) : Sp := fun vs H Q _ => ∃ (v : V) (pl P : Rat) (xs : Sps), vs = [v] ∧ Dp K H v (dG pl P xs) ∧ Gd P xs ∧ ∀ v' H', Same H H' → Dp K H' v' (dG pl (lfQ P xs).1 (lfQ P xs).2) → Q v' H'
theorem ok_l_normal (T : Txt K mg) : FnOk P w K mg base CX0 5 T.f_l_normal T.d_l_normal Ps_l_normal (spNormL K) := by
  refine T.F_l_normal.ok sc_l_normal (fun vs H Q E h => ?_) (fun cdv A outer s H vs Q E hr h => ?_)
  · obtain ⟨x, _, _, _, rfl, _⟩ := h; rfl
  · obtain ⟨v, pl, P, xs, rfl, hv, G, q⟩ := h
    have hl : xs.length < 900 := by have := G.g.len; omega
    have bP := G.p
    have hb := G.b
    refine ⟨_, (pss_cons (ps_asg (pv 0) (pg_tup (by rfl) (pgs_cons (pg_name (i := 1) sc_l_normal.nd rfl (Or.inl rfl)) (pgs_cons (pg_name (i := 2) sc_l_normal.nd rfl (Or.inr rfl)) (pgs_cons (pg_name (i := 3) sc_l_normal.nd rfl (Or.inl rfl)) pgs_nil)))))
      (pss_cons (ps_if (pt_cmpR op_eq (pe_callB call_len_seq (by rfl) T.m_len PySem.boot_len (pa_cons (pv 3) pa_nil)) pe_int (nomark _)) (pss_one (ps_ret (pe_tup (pa_cons (pv 1) (pa_cons (pe_tup (pa_cons pe_int (pa_cons pe_int pa_nil))) (pa_cons (pe_tup pa_nil) pa_nil)))))) pss_nil)
      (pss_cons (ps_for PassesOwn.never rfl (pi_range2 rfl T.m_range (pa_cons pe_int (pa_cons (pe_callB call_len_seq (by rfl) T.m_len PySem.boot_len (pa_cons (pv 3) pa_nil)) pa_nil))) (pg_name (i := 4) sc_l_normal.nd rfl (Or.inl rfl)) (pss_cons (ps_set (i := 5) sc_l_normal.nd rfl (Or.inr rfl) (pe_call (ok_l_divide T) (hr.mono (by decide)) (by rfl) T.g_l_divide T.F_l_divide.kp T.b_l_divide .nil pass0 (pa_cons (pe_call (ok_l_times T) (hr.mono (by decide)) (by rfl) T.g_l_times T.F_l_times.kp T.b_l_times .nil pass0 (pa_cons (pv 4) (pa_cons (pv 2) pa_nil))) (pa_cons (pe_tup (pa_cons (pe_callB call_len_seq (by rfl) T.m_len PySem.boot_len (pa_cons (pv 3) pa_nil)) (pa_cons pe_int pa_nil))) pa_nil))))
      (pss_cons (ps_set (i := 6) sc_l_normal.nd rfl (Or.inr rfl) (pe_lc (own := [("_law_begin", 7), ("_law_length", 8)]) (g := (gTup K 2 (gCons (gName 7) (gCons (gName 8) gNil)))) (tt := tYes) rfl sc_l_normal.nd (pi_tup (pv 3)) (blkOk_by (N := N_l_normal) (sc := defScope s_l_normal) (by decide +kernel)) (fun _ _ _ _ _ => (pg_tup rfl (pgs_cons (pg_name (i := 7) sc_l_normal.nd rfl (Or.inl rfl)) (pgs_cons (pg_name (i := 8) sc_l_normal.nd rfl (Or.inl rfl)) pgs_nil)))) (fun _ _ _ _ _ => pts_nil) (fun _ _ _ _ _ => (pe_tup (pa_cons (pe_call (ok_l_rest T) hr (by rfl) T.g_l_rest T.F_l_rest.kp T.b_l_rest .nil pass0 (pa_cons (pe_call (ok_l_add T) (hr.mono (by decide)) (by rfl) T.g_l_add T.F_l_add.kp T.b_l_add .nil pass0 (pa_cons (pv 7) (pa_cons (pv 5) pa_nil))) (pa_cons (pv 2) pa_nil))) (pa_cons (pv 8) pa_nil))))))
      (pss_one (ps_if (PW.pt (pw_and (pt_cmpR op_eq (pe_op op_mod (pe_callB call_len_seq (by rfl) T.m_len PySem.boot_len (pa_cons (pv 3) pa_nil)) (pv 4)) pe_int (nomark _)) (pw_and1 (pt_val (pe_callB (cr_all rfl) (by rfl) T.m_all (by decide +kernel) (pa_cons (pe_lc (own := [("_law_span", 9)]) (g := (gName 9)) (tt := tYes) rfl sc_l_normal.nd (pi_tup (pv 3)) (blkOk_by (N := N_l_normal) (sc := defScope s_l_normal) (by decide +kernel)) (fun _ _ _ _ _ => (pg_name (i := 9) sc_l_normal.nd rfl (Or.inl rfl))) (fun _ _ _ _ _ => pts_nil) (fun _ _ _ _ _ => (pe_cmpR (r := rInD K) (op_inD (u65 hr)) (pv 9) (pv 6) (by rfl)))) pa_nil)))))) (pss_one (ps_ret (pe_tup (pa_cons (pv 1) (pa_cons (pv 5) (pa_cons (pe_callTy call_tuple_of (by rfl) T.m_tuple (by decide +kernel) (pa_cons (pe_slice sl_tupB (pv 3) po_none (po_some (pv 4))) pa_nil)) pa_nil)))))) pss_nil)))))
      (pss_one (ps_ret (pe_tup (pa_cons (pv 1) (pa_cons (pv 2) (pa_cons (pe_callTy call_tuple_of (by rfl) T.m_tuple (by decide +kernel) (pa_cons (pv 3) pa_nil)) pa_nil))))))))), ?_⟩
    obtain ⟨U, vpl, vP, v3, rfl, hU, hpl, hP, d3⟩ := dp_three hv
    obtain ⟨a, us, rfl, ha, hu⟩ := dp_tup d3
    have el : us.length = xs.length := by rw [DpAll_len hu, List.length_map]
    refine ⟨_, rfl, U, _, rfl, hU, rfl, _, _, rfl, _, _, rfl, _, _, rfl, rfl, ?_⟩
    refine ⟨_, rfl, a, us, rfl, .inr ha, rfl, _, rfl, brEq (fun h0 => ?_) (fun h0 => ?_)⟩
    · have h0 : xs.length = 0 := by omega
      have e : lfQ P xs = (1, []) := by unfold lfQ; rw [if_pos h0]
      rw [e] at q
      refine ⟨_, rfl, sizeLine2 (by simp), fun c1 nc1 => ?_⟩
      have s0 := same_upd (o := HO.tup [.int 1, .int 1]) nc1
      refine ⟨sizeLine2 (by simp), fun c nc => ?_⟩
      have s1 := same_upd (o := HO.tup []) nc
      refine ⟨sizeLine2 (by simp), fun c2 nc2 => ?_⟩
      have o1 : Dp K _ (.ref c1) (dq 1) := dq_lit (a := 1) (b := 1) nc1 rfl rfl
      refine q _ _ ((s0.trans s1).trans (same_upd nc2)) (dp_new nc2 (.cons (Dp_same (s0.trans s1) hpl) (.cons (Dp_same s1 o1) (.cons (dp_new nc .nil) .nil))))
    · have h0 : xs.length ≠ 0 := by omega
      refine ⟨_, rfl, a, us, rfl, .inr ha, _, _, rfl, ⟨by decide, by decide, by omega, by omega⟩, ?_⟩
      refine for_range (lo := 1) (fun i σ H' => Same H H' ∧ (List.range' 1 i).find? (hitB P xs) = none ∧ ∃ z4 z5 z6 z7 z8 z9, σ = [some (.ref U), some vpl, some vP, some (.ref a), z4, z5, z6, z7, z8, z9]) ⟨Same.refl _, rfl, _, _, _, _, _, _, rfl⟩ ?_ ?_
      · rintro i σ H1 hi ⟨s1, hn, z4, z5, z6, z7, z8, z9, rfl⟩
        have hi2 : i + 1 < xs.length := by omega
        have hn0 : ((us.length : Int) : Rat) ≠ 0 := fun e => by have := Rat.intCast_eq_zero_iff.mp e; omega
        have b1 : B 10 (1 + (i : Int)) := B.of (by omega)
        refine ⟨_, rfl, _, rfl, u_times (Dp_same s1 hP) b1.mono bP.mono fun v2 H2 s2 f2 => ?_⟩
        have s02 := s1.trans s2
        refine ⟨_, rfl, a, us, rfl, .inr (Evl.ex_t s02 ha), sizeLine2 (by simp), fun cl ncl => ?_⟩
        have s3 := same_upd (o := HO.tup [.int (us.length : Int), .int 1]) ncl
        have fl : Dp K _ (.ref cl) (dq (((us.length : Int)) : Rat)) := dq_lit (a := (us.length : Int)) (b := 1) ncl rfl rfl
        have bn : Bq 10 (((us.length : Int)) : Rat) := Bq.int (B.of (by omega))
        refine u_div (Dp_same s3 f2) fl hn0 (Bq.times b1 bP).mono bn.mono fun vp H3 s4 f3 => ?_
        have ep : ((1 + (i : Int) : Int) : Rat) * P / ((us.length : Int) : Rat) = partQ P xs (1 + i) := by
          unfold partQ; rw [el]
          have : ((1 + (i : Int) : Int) : Rat) = (((1 + i : Nat) : Int) : Rat) := rfl
          rw [this, Rat.div_def, Rat.div_def]; grind
        rw [ep] at f3
        have bp : Bq 130 (partQ P xs (1 + i)) := b_part h0 hl (by omega) bP
        have s03 := (s02.trans s3).trans s4
        have hP0 := G.g.pos
        -- later
        refine ⟨_, rfl, a, rfl, ⟨_, Evl.ex_t s03 ha⟩, fun D nD => ?_⟩
        refine lc_map (K := K) (walk_tup (xs := us)) ((laterQ P (partQ P xs (1 + i)) xs).map dsp) nD (by rw [List.length_map, laterQ, List.length_map, el]) (by omega) (noLs_dsp _) (fun H' s => Evl.ex_t (s03.trans s) ha) ?_ ?_
        · rintro j x d H5 H6 hj hd s5 ⟨rfl, hx⟩ R k
          obtain ⟨z, hz, dz⟩ := get_map hu hx
          have hdz : d = dsp (remQ (z.1 + partQ P xs (1 + i)) P, z.2) := by
            rw [List.getElem?_map, laterQ, List.getElem?_map, hz] at hd; exact (Option.some.inj hd).symm
          subst hdz
          have bz := hb z (List.mem_of_getElem? hz)
          have s05 := s03.trans s5
          obtain ⟨V', w1, w2, rfl, hV, e1, e2⟩ := dp_two (Dp_same s05 dz)
          refine ⟨V', _, rfl, hV, rfl, _, _, rfl, _, _, rfl, rfl, rfl, ?_⟩
          refine ⟨_, rfl, _, rfl, u_add e1 (Dp_same s5 f3) bz.1.mono bp.mono fun v6 H7 s7 f7 => ?_⟩
          refine ⟨_, rfl, _, _, _, _, rfl, f7, Dp_same (s05.trans s7) hP, hP0, (bz.1.add bp).mono, bP.mono, fun v8 H8 s8 f8 => ?_⟩
          refine ⟨_, rfl, sizeLine2 (by simp), fun t nt => ?_⟩
          exact k _ _ ((s7.trans s8).trans (same_upd nt)) (dp_new nt (.cons f8 (.cons (Dp_same (s7.trans s8) e2) .nil)))
        intro H5 ls s5 hD hls
        have s05 := s03.trans s5
        have f3 := Dp_same s5 f3
        have dL : Dp K H5 (.ref D) (.list ((laterQ P (partQ P xs (1 + i)) xs).map dsp)) := .lst (.inl (.inl hD)) hls
        refine ⟨_, rfl, a, us, rfl, .inr (Evl.ex_t s05 ha), _, rfl, _, _, rfl, rfl, (show (0 : Int) < 1 + i by omega), rfl, _, rfl, brEq (fun hm => ?_) (fun hm => ?_)⟩
        · have hm' : xs.length % (1 + i) = 0 := by
            have : ((us.length % (1 + i) : Nat) : Int) = 0 := by rw [Int.natCast_emod]; exact hm
            rw [el] at this; omega
          refine ⟨_, rfl, a, rfl, ⟨_, Evl.ex_t s05 ha⟩, fun M nM => ?_⟩
          refine lc_map (K := K) (walk_tup (xs := us)) ((xs.map fun x => decide (x ∈ laterQ P (partQ P xs (1 + i)) xs)).map PyData.bool) nM (by rw [List.length_map, List.length_map, el]) (by omega) (noLs_bl _) (fun H' s => Evl.ex_t (s05.trans s) ha) ?_ ?_
          · rintro j x d H6 H7 hj hd s6 ⟨rfl, hx⟩ R k
            obtain ⟨z, hz, dz⟩ := get_map hu hx
            have hdz : d = .bool (decide (z ∈ laterQ P (partQ P xs (1 + i)) xs)) := by
              rw [List.getElem?_map, List.getElem?_map, hz] at hd; exact (Option.some.inj hd).symm
            subst hdz
            refine ⟨rfl, _, rfl, _, rfl, _, _, Dp_same (s05.trans s6) dz, Dp_same s6 dL, sh_dsp _, sh_Ldsp _, ?_⟩
            rw [any_dsp]
            exact k _ _ (Same.refl _) (.bl _)
          intro H6 bs s6 hM hbs
          have e := DpAll_bl hbs
          subst e
          have s06 := s05.trans s6
          have f3 := Dp_same s6 f3
          refine ⟨M, _, rfl, .inl (.inl hM), ?_⟩
          have ea : (xs.map fun x => decide (x ∈ laterQ P (partQ P xs (1 + i)) xs)).all id = repB xs (1 + i) (partQ P xs (1 + i)) := by
            rw [← law_part G.g (by omega) (by omega) hm', List.all_map]; rfl
          rw [ea]
          refine ⟨_, rfl, brB (fun hr => ?_) (fun hr => ?_)⟩
          · have hh := hit_of hm' hr
            rw [lf_some hi2 hn hh] at q
            refine ⟨_, rfl, _, rfl, _, rfl, _, rfl, _, rfl, a, us, rfl, Evl.ex_t s06 ha, fun t H7 s7 ht => ?_⟩
            rw [show (1 + (i : Int)) = ((1 + i : Nat) : Int) by omega, cut_to] at ht
            refine ⟨t, _, rfl, .inr ⟨ht, ?_⟩⟩
            refine ⟨sizeLine2 (by simp), fun c nc => ?_⟩
            have s8 := same_upd (o := HO.tup [vpl, vp, .ref t]) nc
            refine q _ _ ((s06.trans s7).trans s8) (dp_new nc (.cons (Dp_same (s06.trans s7) hpl) (.cons (Dp_same s7 f3) (.cons (.tup ht ?_) .nil))))
            rw [List.map_take]; exact DpAll_take _ (DpAll_same (s06.trans s7) hu)
          · have hh : hitB P xs (1 + i) = false := by unfold hitB; rw [hr, Bool.and_false]
            refine ⟨s06, ?_, _, _, _, _, _, _, rfl⟩
            rw [List.range'_1_concat, List.find?_append, hn, List.find?_cons_of_neg (by rw [hh]; decide)]; rfl
        · have hm : decide (xs.length % (1 + i) = 0) = false := decide_eq_false (fun e => hm (by
            have : ((us.length % (1 + i) : Nat) : Int) = 0 := by rw [el]; omega
            rw [Int.natCast_emod] at this; exact this))
          have hh : hitB P xs (1 + i) = false := by unfold hitB; rw [hm]; rfl
          refine ⟨s05, ?_, _, _, _, _, _, _, rfl⟩
          rw [List.range'_1_concat, List.find?_append, hn, List.find?_cons_of_neg (by rw [hh]; decide)]; rfl
      · rintro σ H1 ⟨s1, hn, z4, z5, z6, z7, z8, z9, rfl⟩
        have e : ((us.length : Int) - 1).toNat = xs.length - 1 := by omega
        rw [e] at hn
        rw [lf_none h0 hn] at q
        refine ⟨_, rfl, _, rfl, _, rfl, a, us, rfl, .inr ⟨Evl.ex_t s1 ha, sizeLine2 (by simp), fun c nc => ?_⟩⟩
        refine q _ _ (s1.trans (same_upd nc)) (dp_new nc (.cons (Dp_same s1 hpl) (.cons (Dp_same s1 hP) (.cons (.tup (Evl.ex_t s1 ha) (DpAll_same s1 hu)) .nil))))
theorem DpAll_of {H : Hp} : ∀ {us : List V} {ds : List PyData}, us.length = ds.length → (∀ (i : Nat) (u : V) (d : PyData), us[i]? = some u → ds[i]? = some d → Dp K H u d) → DpAll K H us ds
  | [], [], _, _ => .nil
  | [], _ :: _, h, _ => by simp at h
  | _ :: _, [], h, _ => by simp at h
  | u :: us, d :: ds, h, k => .cons (k 0 u d rfl rfl) (DpAll_of (by simpa using h) fun i v e h1 h2 => k (i + 1) v e h1 h2)
def spFirstW (K : PySem.W.Frag) : Sp := fun vs H Q _ => ∃ (v : V) (pl P : Rat) (xs : Sps), vs = [v] ∧ Dp K H v (dG pl P xs) ∧ Gd P xs ∧ 0 < (lfQ P xs).2.length ∧ ∀ v' H', Same H H' → Dp K H' v' (.tuple [dq (lfQ P xs).1, .list ((wins (lfQ P xs).1 (lfQ P xs).2).map dsp)]) → Q v' H'
theorem ok_first_windows (T : Txt K mg) : FnOk P w K mg base CX0 7 T.f_first_windows T.d_first_windows Ps_first_windows (spFirstW K) := by
  refine T.F_first_windows.ok sc_first_windows (fun vs H Q E h => ?_) (fun cdv A outer s H vs Q E hr h => ?_)
  · obtain ⟨x, _, _, _, rfl, _⟩ := h; rfl
  · obtain ⟨v, pl, P, xs, rfl, hv, G, h0, q⟩ := h
    refine ⟨_, PSs.nox ((pss_cons (ps_asg (pe_call (ok_normal_gate T) hr (by rfl) T.g_normal_gate T.F_normal_gate.kp T.b_normal_gate .nil pass0 (pa_cons (pv 0) pa_nil)) (pg_tup (by rfl) (pgs_cons (pg_name (i := 1) sc_first_windows.nd rfl (Or.inl rfl)) (pgs_cons (pg_name (i := 2) sc_first_windows.nd rfl (Or.inl rfl)) (pgs_cons (pg_name (i := 3) sc_first_windows.nd rfl (Or.inl rfl)) pgs_nil)))))
      (pss_cons (ps_if (pt_cmpR op_eq (pe_callB call_len_seq (by rfl) T.m_len PySem.boot_len (pa_cons (pv 3) pa_nil)) pe_int (nomark _)) (pss_one ps_never) pss_nil)
      (pss_one (ps_ret (pe_tup (pa_cons (pv 2) (pa_cons (EPZ.pe_listZip rfl (by rfl) T.m_list (by rfl) T.m_zip (pa_cons (pe_call (ok_span_ends T) (hr.mono (by decide)) (by rfl) T.g_span_ends T.F_span_ends.kp T.b_span_ends .nil pass0 (pa_cons (pv 3) pa_nil)) (pa_cons (pe_call (ok_next_begins T) (hr.mono (by decide)) (by rfl) T.g_next_begins T.F_next_begins.kp T.b_next_begins .nil pass0 (pa_cons (pv 2) (pa_cons (pv 3) pa_nil))) pa_nil))) pa_nil)))))))), ?_⟩
    refine ⟨_, rfl, v, pl, P, xs, rfl, hv, G, fun v' H1 s1 h1 => ?_⟩
    obtain ⟨g', sh⟩ := lf_ok G.g
    have lb := lf_bits G.g.len G.p (by decide)
    obtain ⟨_, bx⟩ := lf_b G
    generalize (lfQ P xs).1 = P' at *
    generalize (lfQ P xs).2 = ys at *
    obtain ⟨U, v1, v2, v3, rfl, hU, d1, d2, d3⟩ := dp_three h1
    obtain ⟨a, us, rfl, ha, hu⟩ := dp_tup d3
    have el : us.length = ys.length := by rw [DpAll_len hu, List.length_map]
    have l6 := g'.len
    refine ⟨U, _, rfl, hU, rfl, _, _, rfl, _, _, rfl, _, _, rfl, rfl, ?_⟩
    refine ⟨_, rfl, a, us, rfl, .inr ha, rfl, _, rfl, brEq (fun z => ?_) (fun _ => ?_)⟩
    · omega
    refine ⟨_, rfl, _, rfl, a, us, ys, rfl, ha, hu, by omega, bx, fun D es H2 s2 hD hes => ?_⟩
    refine ⟨_, rfl, _, rfl, _, P', a, us, ys, rfl, Dp_same s2 d2, lb.mono, Evl.ex_t s2 ha, DpAll_same s2 hu, by omega, bx, fun D2 ns H3 s3 hD2 hns => ?_⟩
    have e1 : es.length = ys.length := by rw [DpAll_len hes, List.length_map, ends_len]
    have e2 : ns.length = ys.length := by rw [DpAll_len hns, List.length_map, nexts_len]
    have hes := DpAll_same s3 hes
    refine ⟨D, D2, es, ns, rfl, .inl (.inl (s3 _ _ hD)), .inl (.inl hD2), fun H4 p ts s4 hp hl ht => ?_⟩
    have hw : DpAll K H4 (ts.map V.ref) ((wins P' ys).map dsp) := by
      refine DpAll_of (by rw [List.length_map, List.length_map, wins_len]; omega) fun i u d hi hd => ?_
      rw [List.getElem?_map] at hi hd
      obtain ⟨t, ht1, rfl⟩ := Option.map_eq_some_iff.mp hi
      obtain ⟨x, hx1, rfl⟩ := Option.map_eq_some_iff.mp hd
      have hit : i < ts.length := (List.getElem?_eq_some_iff.mp ht1).1
      have h1i : i < es.length := by omega
      have h2i : i < ns.length := by omega
      have hT := ht i t _ _ ht1 (List.getElem?_eq_getElem h1i) (List.getElem?_eq_getElem h2i)
      obtain ⟨z1, hz1, dz1⟩ := get_map hes (List.getElem?_eq_getElem h1i)
      obtain ⟨z2, hz2, dz2⟩ := get_map hns (List.getElem?_eq_getElem h2i)
      have hx : x = (z1, z2) := by
        have := (List.getElem?_zip_eq_some (z := (z1, z2))).mpr ⟨hz1, hz2⟩
        unfold wins at hx1
        rw [hx1] at this; exact Option.some.inj this
      subst hx
      exact .tup (.inl (.inl hT)) (.cons (Dp_same s4 dz1) (.cons (Dp_same s4 dz2) .nil))
    refine ⟨sizeLine2 (by simp), fun c nc => ?_⟩
    have s5 := same_upd (o := HO.tup [v2, .ref p]) nc
    refine q _ _ ((((s1.trans s2).trans s3).trans s4).trans s5) (dp_new nc (.cons (Dp_same ((s2.trans s3).trans s4) d2) (.cons (.lst (.inl (.inl hp)) hw) .nil)))
def spLaterP (K : PySem.W.Frag) : Sp := fun vs H Q _ => ∃ (vm vP : V) (m P : Rat) (n : Int), vs = [vm, .int n, vP] ∧ Dp K H vm (dq m) ∧ Dp K H vP (dq P) ∧ Bq 400 m ∧ Bq 130 P ∧ B 1600 n ∧ ∀ v' H', Same H H' → Dp K H' v' (dq (m + (n : Rat) * P)) → Q v' H'
theorem ok_periods_later (T : Txt K mg) : FnOk P w K mg base CX0 4 T.f_periods_later T.d_periods_later Ps_periods_later (spLaterP K) := by
  refine T.F_periods_later.ok sc_periods_later (fun vs H Q E h => ?_) (fun cdv A outer s H vs Q E hr h => ?_)
  · obtain ⟨x, _, _, _, _, rfl, _⟩ := h; rfl
  · obtain ⟨vm, vP, m, P, n, rfl, hm, hP, bm, bP, bn, q⟩ := h
    refine ⟨_, (pss_one (ps_ret (pe_call (ok_add T) hr (by rfl) T.g_add T.F_add.kp T.b_add .nil pass0 (pa_cons (pv 0) (pa_cons (pe_call (ok_multiply T) hr (by rfl) T.g_multiply T.F_multiply.kp T.b_multiply .nil pass0 (pa_cons (pe_tup (pa_cons (pv 1) (pa_cons pe_int pa_nil))) (pa_cons (pv 2) pa_nil))) pa_nil))))), ?_⟩
    refine ⟨_, rfl, _, rfl, sizeLine2 (by simp), fun c nc => ?_⟩
    have s1 := same_upd (o := HO.tup [.int n, .int 1]) nc
    have fn : Dp K _ (.ref c) (dq (n : Rat)) := dq_lit (a := n) (b := 1) nc rfl rfl
    have bN : Bq 1600 (n : Rat) := Bq.int bn
    refine ⟨_, rfl, u_mul fn (Dp_same s1 hP) bN.mono bP.mono fun v2 H2 s2 f2 => ?_⟩
    exact u_add (Dp_same (s1.trans s2) hm) f2 bm.mono (bN.mul bP).mono fun v3 H3 s3 f3 => q _ _ ((s1.trans s2).trans s3) f3
def spWin (K : PySem.W.Frag) : Sp := fun vs H Q _ => ∃ (v : V) (pl P : Rat) (xs : Sps) (n : Int), vs = [v, .int n] ∧ Dp K H v (dG pl P xs) ∧ Gd P xs ∧ 0 < (lfQ P xs).2.length ∧ B 1500 n ∧ ∀ v' H', Same H H' → Dp K H' v' (dsp (winQ (lfQ P xs).1 (lfQ P xs).2 n)) → Q v' H'
theorem b_wins {P : Rat} {xs : Sps} (bP : Bq 103 P) (b : ∀ x ∈ xs, Bq 100 x.1 ∧ Bq 100 x.2) {x : Rat × Rat} (h : x ∈ wins P xs) : Bq 204 x.1 ∧ Bq 204 x.2 := by
  obtain ⟨h1, h2⟩ := List.of_mem_zip h
  constructor
  · obtain ⟨w, hw, e⟩ := List.mem_map.mp h1
    rw [← e]; exact ((b w hw).1.add (b w hw).2).mono
  · unfold nexts at h2
    rcases List.mem_append.mp h2 with h | h
    · obtain ⟨w, hw, e⟩ := List.mem_map.mp (List.mem_of_mem_drop h)
      rw [← e]; exact (b w hw).1.mono
    · obtain ⟨y, hy, e⟩ := List.mem_map.mp h
      obtain ⟨w, hw, rfl⟩ := List.mem_map.mp (List.mem_of_mem_take hy)
      rw [← e]; exact ((b w hw).1.add bP).mono
theorem ok_window (T : Txt K mg) : FnOk P w K mg base CX0 8 T.f_window T.d_window Ps_window (spWin K) := by
  refine T.F_window.ok sc_window (fun vs H Q E h => ?_) (fun cdv A outer s H vs Q E hr h => ?_)
  · obtain ⟨x, _, _, _, _, rfl, _⟩ := h; rfl
  · obtain ⟨v, pl, P, xs, n, rfl, hv, G, h0, bn, q⟩ := h
    refine ⟨_, (pss_cons (ps_asg (pe_call (ok_first_windows T) hr (by rfl) T.g_first_windows T.F_first_windows.kp T.b_first_windows .nil pass0 (pa_cons (pv 0) pa_nil)) (pg_tup (by rfl) (pgs_cons (pg_name (i := 2) sc_window.nd rfl (Or.inl rfl)) (pgs_cons (pg_name (i := 3) sc_window.nd rfl (Or.inl rfl)) pgs_nil))))
      (pss_cons (ps_asg (pe_callB call_divmod (by rfl) T.m_divmod (by decide +kernel) (pa_cons (pv 1) (pa_cons (pe_callB call_len_seq (by rfl) T.m_len PySem.boot_len (pa_cons (pv 3) pa_nil)) pa_nil))) (pg_tup (by rfl) (pgs_cons (pg_name (i := 4) sc_window.nd rfl (Or.inl rfl)) (pgs_cons (pg_name (i := 5) sc_window.nd rfl (Or.inl rfl)) pgs_nil))))
      (pss_cons (ps_asg (pe_ix ix_list (pv 3) (pv 5) (fun _ _ => rfl)) (pg_tup (by rfl) (pgs_cons (pg_name (i := 6) sc_window.nd rfl (Or.inl rfl)) (pgs_cons (pg_name (i := 7) sc_window.nd rfl (Or.inl rfl)) pgs_nil))))
      (pss_one (ps_ret (pe_tup (pa_cons (pe_call (ok_periods_later T) (hr.mono (by decide)) (by rfl) T.g_periods_later T.F_periods_later.kp T.b_periods_later .nil pass0 (pa_cons (pv 6) (pa_cons (pv 4) (pa_cons (pv 2) pa_nil)))) (pa_cons (pe_call (ok_periods_later T) (hr.mono (by decide)) (by rfl) T.g_periods_later T.F_periods_later.kp T.b_periods_later .nil pass0 (pa_cons (pv 7) (pa_cons (pv 4) (pa_cons (pv 2) pa_nil)))) pa_nil)))))))), ?_⟩
    refine ⟨_, rfl, v, pl, P, xs, rfl, hv, G, h0, fun v' H1 s1 h1 => ?_⟩
    have g' := (lf_ok G.g).1
    have lb := lf_bits G.g.len G.p (by decide)
    obtain ⟨_, bx⟩ := lf_b G
    generalize (lfQ P xs).1 = P' at *
    generalize (lfQ P xs).2 = ys at *
    obtain ⟨U, v1, v2, rfl, hU, d1, d2⟩ := dp_two h1
    obtain ⟨a, us, rfl, ha, hu⟩ := dp_lst d2
    have el : us.length = ys.length := by rw [DpAll_len hu, List.length_map, wins_len]
    have l6 := g'.len
    refine ⟨U, _, rfl, hU, rfl, _, _, rfl, _, _, rfl, rfl, ?_⟩
    refine ⟨_, rfl, _, rfl, a, us, rfl, .inl ha, n, (us.length : Int), rfl, ⟨by omega, by omega⟩, fun c nc => ?_⟩
    have s2 := same_upd (o := HO.tup [.int (n / (us.length : Int)), .int (n % (us.length : Int))]) nc
    refine ⟨c, _, rfl, .inl (.inl upd_same), rfl, _, _, rfl, _, _, rfl, rfl, ?_⟩
    have hk := wNo_lt h0 n
    have ek : n % (us.length : Int) = ((wNo ys n : Nat) : Int) := by
      rw [el]; unfold wNo
      have := Int.emod_nonneg n (show (ys.length : Int) ≠ 0 by omega)
      omega
    have ej : n / (us.length : Int) = wPer ys n := by rw [el]; rfl
    rw [ek, ej]
    have hi : wNo ys n < us.length := by omega
    obtain ⟨z, hz, dz⟩ := get_map hu (List.getElem?_eq_getElem hi)
    have ez : z = (wB ys (wNo ys n), wE P' ys (wNo ys n)) := by rw [wins_at hk] at hz; exact (Option.some.inj hz).symm
    have bz := b_wins lb bx (List.mem_of_getElem? hz)
    rw [ez] at dz bz
    obtain ⟨V', w1, w2, eV, hV, f1, f2⟩ := dp_two (Dp_same s2 dz)
    rw [ek, ej] at s2 hV
    refine ⟨_, rfl, _, rfl, a, us, _, us[wNo ys n], rfl, rfl, Evl.ex_l s2 ha, atI_nat (List.getElem?_eq_getElem hi), ?_⟩
    rw [eV]
    refine ⟨V', _, rfl, hV, rfl, _, _, rfl, _, _, rfl, rfl, ?_⟩
    have bj : B 1500 (wPer ys n) := bn.le (div_abs (by omega))
    have f1 := f1; have f2 := f2
    rw [ek, ej] at f1 f2
    refine ⟨_, rfl, _, rfl, _, rfl, _, _, _, _, _, rfl, f1, Dp_same s2 d1, bz.1.mono, lb.mono, bj.mono, fun v3 H3 s3 f3 => ?_⟩
    refine ⟨_, rfl, _, rfl, _, rfl, _, _, _, _, _, rfl, Dp_same s3 f2, Dp_same (s2.trans s3) d1, bz.2.mono, lb.mono, bj.mono, fun v4 H4 s4 f4 => ?_⟩
    refine ⟨sizeLine2 (by simp), fun c2 nc2 => ?_⟩
    exact q _ _ ((((s1.trans s2).trans s3).trans s4).trans (same_upd nc2)) (dp_new nc2 (.cons (Dp_same s4 f3) (.cons f4 .nil)))
def vI : Option Int → V
  | none => .non
  | some n => .int n
def spWinAt (K : PySem.W.Frag) : Sp := fun vs H Q _ => ∃ (v vm : V) (pl P : Rat) (xs : Sps) (m : Rat), vs = [v, vm] ∧ Dp K H v (dG pl P xs) ∧ Gd P xs ∧ 0 < (lfQ P xs).2.length ∧ Dp K H vm (dq m) ∧ Bq 1190 m ∧ ∀ v' o H', Same H H' → v' = vI o → WAns (lfQ P xs).1 (lfQ P xs).2 m o → (∀ n, o = some n → B 1600 n) → Q v' H'
theorem ok_window_at (T : Txt K mg) : FnOk P w K mg base CX0 8 T.f_window_at T.d_window_at Ps_window_at (spWinAt K) := by
  refine T.F_window_at.ok sc_window_at (fun vs H Q E h => ?_) (fun cdv A outer s H vs Q E hr h => ?_)
  · obtain ⟨x, _, _, _, _, _, rfl, _⟩ := h; rfl
  · obtain ⟨v, vm, pl, P, xs, m, rfl, hv, G, h0, hm, bm, q⟩ := h
    refine ⟨_, (pss_cons (ps_asg (pe_call (ok_first_windows T) hr (by rfl) T.g_first_windows T.F_first_windows.kp T.b_first_windows .nil pass0 (pa_cons (pv 0) pa_nil)) (pg_tup (by rfl) (pgs_cons (pg_name (i := 2) sc_window_at.nd rfl (Or.inl rfl)) (pgs_cons (pg_name (i := 3) sc_window_at.nd rfl (Or.inl rfl)) pgs_nil))))
      (pss_cons (ps_for PassesOwn.never rfl (pi_enum (by rfl) T.m_enumerate (pa_cons (pv 3) pa_nil)) (pg_tup (by rfl) (pgs_cons (pg_name (i := 4) sc_window_at.nd rfl (Or.inl rfl)) (pgs_cons (pg_tup (by rfl) (pgs_cons (pg_name (i := 5) sc_window_at.nd rfl (Or.inl rfl)) (pgs_cons (pg_name (i := 6) sc_window_at.nd rfl (Or.inl rfl)) pgs_nil))) pgs_nil))) (pss_cons (ps_set (i := 7) sc_window_at.nd rfl (Or.inl rfl) (pe_call (ok_floor_ofQ T) (hr.mono (by decide)) (by rfl) T.g_floor_of T.F_floor_of.kp T.b_floor_of .nil pass0 (pa_cons (pe_call (ok_divide T) (hr.mono (by decide)) (by rfl) T.g_divide T.F_divide.kp T.b_divide .nil pass0 (pa_cons (pe_call (ok_subtract T) (hr.mono (by decide)) (by rfl) T.g_subtract T.F_subtract.kp T.b_subtract .nil pass0 (pa_cons (pv 1) (pa_cons (pv 5) pa_nil))) (pa_cons (pv 2) pa_nil))) pa_nil)))
      (pss_one (ps_if (pt_not (pt_val (pe_call (ok_is_lessQ T) (hr.mono (by decide)) (by rfl) T.g_is_less T.F_is_less.kp T.b_is_less .nil pass0 (pa_cons (pe_call (ok_periods_later T) (hr.mono (by decide)) (by rfl) T.g_periods_later T.F_periods_later.kp T.b_periods_later .nil pass0 (pa_cons (pv 6) (pa_cons (pv 7) (pa_cons (pv 2) pa_nil)))) (pa_cons (pv 1) pa_nil))))) (pss_one (ps_ret (pe_op op_add (pv 4) (pe_op op_mulW (pv 7) (pe_callB call_len_seq (by rfl) T.m_len PySem.boot_len (pa_cons (pv 3) pa_nil)))))) pss_nil))))
      (pss_one (ps_ret pe_non)))), ?_⟩
    refine ⟨_, rfl, v, pl, P, xs, rfl, hv, G, h0, fun v' H1 s1 h1 => ?_⟩
    have g' := (lf_ok G.g).1
    have lb := lf_bits G.g.len G.p (by decide)
    obtain ⟨_, bx⟩ := lf_b G
    generalize (lfQ P xs).1 = P' at *
    generalize (lfQ P xs).2 = ys at *
    have hP := g'.pos
    have hne : P' ≠ 0 := by grind
    obtain ⟨U, v1, v2, rfl, hU, d1, d2⟩ := dp_two h1
    obtain ⟨a, us, rfl, ha, hu⟩ := dp_lst d2
    have el : us.length = ys.length := by rw [DpAll_len hu, List.length_map, wins_len]
    have l6 := g'.len
    refine ⟨U, _, rfl, hU, rfl, _, _, rfl, _, _, rfl, rfl, ?_⟩
    refine ⟨_, rfl, a, us, rfl, ha, ?_⟩
    refine for_it (walk_enum (xs := us)) (fun i σ H' => Same H1 H' ∧ (∀ k, k < i → k < ys.length → ∀ j, ¬ Win P' ys m k j) ∧ ∃ z4 z5 z6 z7, σ = [some v, some vm, some v1, some (.ref a), z4, z5, z6, z7]) ⟨Same.refl _, (fun k h => by omega), _, _, _, _, rfl⟩ (fun i σ H' _ h => Evl.ex_l h.1 ha) ?_ ?_
    · rintro i x σ H2 H3 hi ⟨s2, hn, z4, z5, z6, z7, rfl⟩ ⟨C, x1, x2, rfl, nC, rfl, g1, g2⟩
      cases g1
      have s3 := same_upd (o := HO.tup [.int (i : Int), x2]) nC
      have hi' : i < ys.length := by omega
      obtain ⟨z, hz, dz⟩ := get_map hu g2
      have ez : z = (wB ys i, wE P' ys i) := by rw [wins_at hi'] at hz; exact (Option.some.inj hz).symm
      have bz := b_wins lb bx (List.mem_of_getElem? hz)
      subst ez
      have s23 := s2.trans s3
      obtain ⟨V', w1, w2, rfl, hV, f1, f2⟩ := dp_two (Dp_same s23 dz)
      refine ⟨C, _, rfl, .inl (.inl upd_same), rfl, _, _, rfl, _, _, rfl, V', _, rfl, hV, rfl, _, _, rfl, _, _, rfl, rfl, rfl, ?_⟩
      have s03 := s1.trans s23
      refine ⟨_, rfl, _, rfl, u_sub (Dp_same s03 hm) f1 bm.mono bz.1.mono fun v4 H4 s4 f4 => ?_⟩
      have b4 : Bq 1395 (m - wB ys i) := bm.sub bz.1
      refine ⟨_, rfl, u_div f4 (Dp_same (s23.trans s4) d1) hne b4.mono lb.mono fun v5 H5 s5 f5 => ?_⟩
      have b5 : Bq 1498 ((m - wB ys i) / P') := Bq.div hne b4 lb
      refine ⟨v5, _, rfl, f5, b5.mono, ?_⟩
      rintro _ _ rfl rfl
      have bf := b5.floor
      have s25 := s23.trans (s4.trans s5)
      have fl1 := Rat.floor_le ((m - wB ys i) / P')
      have fl2 := Rat.lt_floor_add_one ((m - wB ys i) / P')
      have dv : (m - wB ys i) / P' * P' = m - wB ys i := Rat.div_mul_cancel hne
      generalize hj : ((m - wB ys i) / P').floor = j at *
      have m1 := Rat.mul_le_mul_of_nonneg_right fl1 (Rat.le_of_lt hP)
      have m2 := Rat.mul_lt_mul_of_pos_right fl2 hP
      rw [dv] at m1 m2
      refine ⟨_, rfl, _, rfl, _, rfl, _, _, _, _, _, rfl, Dp_same (s4.trans s5) f2, Dp_same s25 d1, bz.2.mono, lb.mono, bf.mono, fun v6 H6 s6 f6 => ?_⟩
      have b6 : Bq 1806 (wE P' ys i + (j : Rat) * P') := bz.2.add (Bq.times bf lb)
      have s26 := s25.trans s6
      refine ⟨_, rfl, _, _, _, _, rfl, f6, Dp_same (s1.trans s26) hm, b6.mono, bm.mono, ?_⟩
      rintro _ _ rfl rfl
      refine ⟨_, rfl, brNB (fun c => ?_) (fun c => ?_)⟩
      · have c := of_decide_eq_false c
        refine ⟨_, rfl, _, rfl, _, rfl, a, us, rfl, .inl (Evl.ex_l s26 ha), _, _, rfl, rfl, cm (n := 1498) (m := 10) bf (B.of (by omega)), _, _, rfl, rfl, ?_⟩
        refine q _ (some ((i : Int) + j * (us.length : Int))) _ (s1.trans s26) rfl (.inl ⟨i, j, ⟨hi', by grind, by grind⟩, by rw [el]⟩) (fun n hn => ?_)
        cases Option.some.inj hn
        have b1 : B 1508 (j * (us.length : Int)) := bf.mul (m := 10) (B.of (by omega))
        exact ((B.mono (n := 10) (B.of (by omega)) (by decide) : B 1508 (i : Int)).add b1).mono
      · have c := of_decide_eq_true c
        refine ⟨s26, fun k hk hl j' wj => ?_, _, _, _, _, rfl⟩
        rcases Nat.lt_or_ge k i with z | z
        · exact hn k z hl j' wj
        · have : k = i := by omega
          subst this
          have w1 := wj.lo; have w2 := wj.hi
          have le : j' ≤ j := by
            rcases (show j' ≤ j ∨ j + 1 ≤ j' by omega) with y | y
            · exact y
            · have := cast_le (Rat.le_of_lt hP) y
              rw [Rat.intCast_add, Rat.intCast_one] at this
              grind
          have := cast_le (Rat.le_of_lt hP) le
          grind
    · rintro σ H2 ⟨s2, hn, z4, z5, z6, z7, rfl⟩
      refine q _ none _ (s1.trans s2) rfl (.inr ⟨rfl, fun o => ?_⟩) (fun n h => nomatch h)
      obtain ⟨k, j, wj⟩ := g'.win h0 o
      exact hn k (by rw [el]; exact wj.lt) wj.lt j wj
end
end EP
namespace EP
open PySem PySem.Spec PyProof.Rows L2
section
variable {P : Program} {w : World} {K : PySem.W.Frag} {mg : Str → Option Value} {base : Heap}
def spLWin (K : PySem.W.Frag) : Sp := fun vs H Q _ => ∃ (v : V) (pl P : Rat) (xs : Sps) (n : Int), vs = [v, .int n] ∧ Dp K H v (dG pl P xs) ∧ Gd P xs ∧ 0 < xs.length ∧ B 1700 n ∧ ∀ v' H', Same H H' → Dp K H' v' (dsp (winQ P xs n)) → Q v' H'
theorem ok_l_window (T : Txt K mg) : FnOk P w K mg base CX0 4 T.f_l_window T.d_l_window Ps_l_window (spLWin K) := by
  refine T.F_l_window.ok sc_l_window (fun vs H Q E h => ?_) (fun cdv A outer s H vs Q E hr h => ?_)
  · obtain ⟨x, _, _, _, _, rfl, _⟩ := h; rfl
  · obtain ⟨v, pl, P, xs, n, rfl, hv, G, h0, bn, q⟩ := h
    refine ⟨_, (pss_cons (ps_asg (pv 0) (pg_tup (by rfl) (pgs_cons (pg_name (i := 2) sc_l_window.nd rfl (Or.inl rfl)) (pgs_cons (pg_name (i := 3) sc_l_window.nd rfl (Or.inl rfl)) (pgs_cons (pg_name (i := 4) sc_l_window.nd rfl (Or.inl rfl)) pgs_nil)))))
      (pss_cons (ps_par (i := 5) (j := 6) (by rfl) sc_l_window.nd rfl rfl (by decide) rfl rfl (pa_cons (pe_op op_fdivW (pv 1) (pe_callB call_len_seq (by rfl) T.m_len PySem.boot_len (pa_cons (pv 4) pa_nil))) (pa_cons (pe_op op_mod (pv 1) (pe_callB call_len_seq (by rfl) T.m_len PySem.boot_len (pa_cons (pv 4) pa_nil))) pa_nil)) (by rfl))
      (pss_cons (ps_set (i := 7) sc_l_window.nd rfl (Or.inl rfl) (pe_ifExp (pt_cmpR op_lt (pe_op op_add (pv 6) pe_int) (pe_callB call_len_seq (by rfl) T.m_len PySem.boot_len (pa_cons (pv 4) pa_nil)) (nomark _)) (pe_ix ix_tup (pe_ix ix_tup (pv 4) (pe_op op_add (pv 6) pe_int) (fun _ _ => rfl)) pe_int (fun _ _ => rfl)) (pe_call (ok_l_add T) hr (by rfl) T.g_l_add T.F_l_add.kp T.b_l_add .nil pass0 (pa_cons (pe_ix ix_tup (pe_ix ix_tup (pv 4) pe_int (fun _ _ => rfl)) pe_int (fun _ _ => rfl)) (pa_cons (pv 3) pa_nil)))))
      (pss_cons (ps_set (i := 8) sc_l_window.nd rfl (Or.inl rfl) (pe_call (ok_l_times T) hr (by rfl) T.g_l_times T.F_l_times.kp T.b_l_times .nil pass0 (pa_cons (pv 5) (pa_cons (pv 3) pa_nil))))
      (pss_one (ps_ret (pe_tup (pa_cons (pe_call (ok_l_add T) hr (by rfl) T.g_l_add T.F_l_add.kp T.b_l_add .nil pass0 (pa_cons (pe_call (ok_l_add T) hr (by rfl) T.g_l_add T.F_l_add.kp T.b_l_add .nil pass0 (pa_cons (pe_ix ix_tup (pe_ix ix_tup (pv 4) (pv 6) (fun _ _ => rfl)) pe_int (fun _ _ => rfl)) (pa_cons (pe_ix ix_tup (pe_ix ix_tup (pv 4) (pv 6) (fun _ _ => rfl)) pe_int (fun _ _ => rfl)) pa_nil))) (pa_cons (pv 8) pa_nil))) (pa_cons (pe_call (ok_l_add T) hr (by rfl) T.g_l_add T.F_l_add.kp T.b_l_add .nil pass0 (pa_cons (pv 7) (pa_cons (pv 8) pa_nil))) pa_nil))))))))), ?_⟩
    obtain ⟨U, v1, v2, v3, rfl, hU, d1, d2, d3⟩ := dp_three hv
    obtain ⟨a, us, rfl, ha, hu⟩ := dp_tup d3
    have el : us.length = xs.length := by rw [DpAll_len hu, List.length_map]
    have l6 := G.g.len
    have hk := wNo_lt h0 n
    have hP := G.g.pos
    refine ⟨_, rfl, U, _, rfl, hU, rfl, _, _, rfl, _, _, rfl, _, _, rfl, rfl, ?_⟩
    refine ⟨_, rfl, _, rfl, a, us, rfl, .inr ha, _, _, rfl, rfl, cdW (n := 10) (by omega) (B.of (by omega)), ?_⟩
    refine ⟨_, rfl, _, rfl, a, us, rfl, .inr ha, _, _, rfl, rfl, (show (0 : Int) < us.length by omega), ?_⟩
    have ek : n % (us.length : Int) = ((wNo xs n : Nat) : Int) := by
      rw [el]; unfold wNo
      have := Int.emod_nonneg n (show (xs.length : Int) ≠ 0 by omega)
      omega
    have ejd : n / (us.length : Int) = wPer xs n := by rw [el]; rfl
    refine ⟨.int (wPer xs n), .int ((wNo xs n : Nat) : Int), (by rw [← ek, ← ejd]), ?_⟩
    have sp : ∀ (i : Nat), i < xs.length → ∃ (u : V) (V' : Addr) (w1 w2 : V), us[i]? = some u ∧ u = .ref V' ∧ SqT K H V' [w1, w2] ∧ Dp K H w1 (dq (at0 xs i).1) ∧ Dp K H w2 (dq (at0 xs i).2) := fun i hi => by
      have hi' : i < us.length := by omega
      obtain ⟨z, hz, dz⟩ := get_map hu (List.getElem?_eq_getElem hi')
      obtain ⟨V', w1, w2, eV, hV, f1, f2⟩ := dp_two dz
      have e : at0 xs i = z := by unfold at0; rw [List.getD_eq_getElem?_getD, hz]; rfl
      rw [← e] at f1 f2
      exact ⟨us[i], V', w1, w2, List.getElem?_eq_getElem hi', eV, hV, f1, f2⟩
    have bat : ∀ i, i < xs.length → Bq 100 (at0 xs i).1 ∧ Bq 100 (at0 xs i).2 := fun i hi => G.b _ (at0_mem hi)
    have bj : B 1700 (wPer xs n) := bn.le (div_abs (by omega))
    have bE : Bq 201 (wE P xs (wNo xs n)) := by
      unfold wE
      by_cases c : wNo xs n + 1 < xs.length
      · rw [if_pos c]; exact (bat _ c).1.mono
      · rw [if_neg c]; exact (bat 0 h0).1.add G.p
    obtain ⟨u0, V0, w01, w02, hu0, eu0, hV0, f01, f02⟩ := sp 0 h0
    obtain ⟨uk, Vk, wk1, wk2, huk, euk, hVk, fk1, fk2⟩ := sp _ hk
    refine ⟨_, rfl, _, _, rfl, rfl, _, rfl, a, us, rfl, .inr ha, _, _, rfl, rfl, _, rfl, brI (fun c => ?A) (fun c => ?B)⟩
    case' A =>
      have c' : wNo xs n + 1 < xs.length := by omega
      obtain ⟨u1, V1, w11, w12, hu1, eu1, hV1, f11, f12⟩ := sp _ c'
      refine ⟨_, rfl, _, rfl, _, _, rfl, rfl, a, us, _, u1, rfl, rfl, ha, (by rw [show (wNo xs n : Int) + 1 = ((wNo xs n + 1 : Nat) : Int) by omega]; exact atI_nat hu1), V1, _, _, _, eu1, rfl, hV1, ix0, ?_⟩
      have fE : Dp K H w11 (dq (wE P xs (wNo xs n))) := by unfold wE; rw [if_pos c']; exact f11
      have sE : Same H H := Same.refl H
    case' B =>
      have c' : ¬ wNo xs n + 1 < xs.length := by omega
      refine ⟨_, rfl, a, us, _, u0, rfl, rfl, ha, atI_nat (j := 0) hu0, V0, _, _, _, eu0, rfl, hV0, ix0, _, rfl, u_add f01 d2 (bat 0 h0).1.mono G.p.mono fun vE HE sE fE => ?_⟩
      have fE : Dp K HE vE (dq (wE P xs (wNo xs n))) := by unfold wE; rw [if_neg c']; exact fE
    all_goals
      refine ⟨_, rfl, _, rfl, u_times (Dp_same sE d2) bj.mono G.p.mono fun vS HS sS fS => ?_⟩
      have bS : Bq 1800 ((wPer xs n : Rat) * P) := Bq.times bj G.p
      have sES := sE.trans sS
      refine ⟨_, rfl, _, rfl, a, us, _, uk, rfl, rfl, Evl.ex_t sES ha, atI_nat huk, Vk, _, _, _, euk, rfl, Evl.ex_t sES hVk, ix0, _, rfl, _, rfl, a, us, _, uk, rfl, rfl, Evl.ex_t sES ha, atI_nat huk, Vk, _, _, _, euk, rfl, Evl.ex_t sES hVk, ix1, ?_⟩
      refine u_add (Dp_same sES fk1) (Dp_same sES fk2) (bat _ hk).1.mono (bat _ hk).2.mono fun vA HA sA fA => ?_
      have bA : Bq 201 ((at0 xs (wNo xs n)).1 + (at0 xs (wNo xs n)).2) := (bat _ hk).1.add (bat _ hk).2
      refine ⟨_, rfl, u_add fA (Dp_same sA fS) bA.mono bS.mono fun vB HB sB fB => ?_⟩
      refine ⟨_, rfl, _, rfl, u_add (Dp_same ((sS.trans sA).trans sB) fE) (Dp_same (sA.trans sB) fS) bE.mono bS.mono fun vC HC sC fC => ?_⟩
      refine ⟨sizeLine2 (by simp), fun c2 nc2 => ?_⟩
      exact q _ _ ((((sES.trans sA).trans sB).trans sC).trans (same_upd nc2)) (dp_new nc2 (.cons (Dp_same sC fB) (.cons fC .nil)))
end
end EP
namespace EP
open PySem PySem.Spec PyProof.Rows L2
section
variable {P : Program} {w : World} {K : PySem.W.Frag} {mg : Str → Option Value} {base : Heap}
def spLaw (K : PySem.W.Frag) : Sp := fun vs H Q _ => ∃ (a : Addr) (ns : List Int), vs = [.ref a] ∧ SqL K H a (ns.map V.int) ∧ ns.length ≤ 63 ∧ ∀ H', Q (.bl true) H'
theorem Gs.gd {n : Nat} {P : Rat} {xs : Sps} (g : Gs n P xs) (h : n ≤ 100 := by decide) : Gd P xs := ⟨g.g, g.p.mono h, fun x hx => ⟨(g.b x hx).1.mono h, (g.b x hx).2.mono h⟩⟩
theorem lf_gs {n : Nat} {P : Rat} {xs : Sps} (g : Gs n P xs) (h0 : 0 < n) : Gs (n + 3) (lfQ P xs).1 (lfQ P xs).2 := by
  refine ⟨(lf_ok g.g).1, lf_bits g.g.len g.p h0, fun x hx => ?_⟩
  have : x ∈ xs := by
    unfold lfQ at hx
    by_cases h : xs.length = 0
    · rw [if_pos h] at hx; cases hx
    · rw [if_neg h] at hx
      cases hf : (List.range' 1 (xs.length - 1)).find? (hitB P xs) with
      | none => rw [hf] at hx; exact hx
      | some d => rw [hf] at hx; exact List.mem_of_mem_take hx
  exact ⟨(g.b x this).1.mono (by omega), (g.b x this).2.mono (by omega)⟩
theorem lf_pos {P : Rat} {xs : Sps} (h : 0 < xs.length) : 0 < (lfQ P xs).2.length := by
  unfold lfQ
  rw [if_neg (by omega)]
  cases hf : (List.range' 1 (xs.length - 1)).find? (hitB P xs) with
  | none => exact h
  | some d =>
    have h2 := List.mem_range'_1.mp (List.mem_of_find?_eq_some hf)
    show 0 < (xs.take d).length
    rw [List.length_take]; omega
theorem one_span {P : Rat} (n : Nat) (hP : 0 < P) (b : Bq n P) (hn : 0 < n) : Gs n P [(0, P)] := by
  refine ⟨⟨hP, by simp, fun x hx => ?_, List.pairwise_singleton _ _⟩, b, fun x hx => ?_⟩
  · obtain rfl := List.mem_singleton.mp hx
    exact ⟨Rat.le_refl, hP, hP, Rat.le_refl⟩
  · obtain rfl := List.mem_singleton.mp hx
    exact ⟨b_zero.mono hn, b⟩
theorem b_win {P : Rat} {xs : Sps} (g : Gs 93 P xs) (h0 : 0 < xs.length) {n : Int} {k : Nat} (bn : B k n) : Bq (k + 281) (winQ P xs n).1 ∧ Bq (k + 281) (winQ P xs n).2 := by
  have bj : B k (wPer xs n) := bn.le (div_abs (by omega))
  have hk := wNo_lt h0 n
  have bS : Bq (k + 93) ((wPer xs n : Rat) * P) := Bq.times bj g.p
  have bat : ∀ i, i < xs.length → Bq 93 (at0 xs i).1 ∧ Bq 93 (at0 xs i).2 := fun i hi => g.b _ (at0_mem hi)
  have bB : Bq 187 (wB xs (wNo xs n)) := (bat _ hk).1.add (bat _ hk).2
  have bE : Bq 187 (wE P xs (wNo xs n)) := by
    unfold wE
    by_cases c : wNo xs n + 1 < xs.length
    · rw [if_pos c]; exact (bat _ c).1.mono
    · rw [if_neg c]; exact (bat 0 h0).1.add g.p
  exact ⟨(bB.add bS).mono (by omega), (bE.add bS).mono (by omega)⟩
theorem b_half : Bq 3 (1 / 2 : Rat) := ⟨B.of (by decide +kernel), B.of (by decide +kernel)⟩
theorem brF {b : Bool} {A B : Prop} (h : b = false) (k : B) : if b = true then A else B := by subst h; exact k
theorem vI_none (o : Option Int) : decide (vI o = V.non) = o.isNone := by cases o <;> rfl
set_option maxHeartbeats 8000000 in
theorem ok_law (T : Txt K mg) : FnOk P w K mg base CX0 9 T.f_law T.d_law Ps_law (spLaw K) := by
  refine T.F_law.ok sc_law (fun vs H Q E h => ?_) (fun cdv A outer s H vs Q E hr h => ?_)
  · obtain ⟨a, ns, rfl, _⟩ := h; rfl
  · obtain ⟨sc, ns, rfl, hS, hlen, q⟩ := h
    refine ⟨_, (pss_cons (ps_set (i := 1) sc_law.nd rfl (Or.inl rfl) (pe_call (ok_l_source T) (hr.mono (by decide)) (by rfl) T.g_l_source T.F_l_source.kp T.b_l_source .nil pass0 (pa_cons (pv 0) pa_nil)))
      (pss_cons (ps_for PassesOwn.never rfl (pi_range1 rfl T.m_range (pa_cons pe_int pa_nil)) (pg_name (i := 2) sc_law.nd rfl (Or.inl rfl)) (pss_cons (ps_set (i := 3) sc_law.nd rfl (Or.inl rfl) (pe_call (ok_l_copied_gate T) (hr.mono (by decide)) (by rfl) T.g_l_copied_gate T.F_l_copied_gate.kp T.b_l_copied_gate .nil pass0 (pa_cons (pv 1) (pa_cons (pe_call (ok_l_gate T) (hr.mono (by decide)) (by rfl) T.g_l_gate T.F_l_gate.kp T.b_l_gate .nil pass0 (pa_cons (pv 1) (pa_cons (pe_call (ok_l_smallQ T) (hr.mono (by decide)) (by rfl) T.g_l_small T.F_l_small.kp T.b_l_small .nil pass0 (pa_cons (pv 1) pa_nil)) (pa_cons pe_int pa_nil)))) pa_nil))))
      (pss_cons (ps_if (pt_cmpR op_eq (pe_callB call_len_seq (by rfl) T.m_len PySem.boot_len (pa_cons (pe_ix ix_tup (pv 3) pe_int (fun _ _ => rfl)) pa_nil)) pe_int (nomark _)) (pss_one (ps_set (i := 3) sc_law.nd rfl (Or.inl rfl) (pe_tup (pa_cons (pe_ix ix_tup (pv 3) pe_int (fun _ _ => rfl)) (pa_cons (pe_ix ix_tup (pv 3) pe_int (fun _ _ => rfl)) (pa_cons (pe_tup (pa_cons (pe_tup (pa_cons (pe_tup (pa_cons pe_int (pa_cons pe_int pa_nil))) (pa_cons (pe_ix ix_tup (pv 3) pe_int (fun _ _ => rfl)) pa_nil))) pa_nil)) pa_nil)))))) pss_nil)
      (pss_cons (ps_set (i := 4) sc_law.nd rfl (Or.inl rfl) (pe_call (ok_l_normal T) (hr.mono (by decide)) (by rfl) T.g_l_normal T.F_l_normal.kp T.b_l_normal .nil pass0 (pa_cons (pv 3) pa_nil)))
      (pss_cons (ps_set (i := 5) sc_law.nd rfl (Or.inl rfl) (pe_call (ok_l_choice T) (hr.mono (by decide)) (by rfl) T.g_l_choice T.F_l_choice.kp T.b_l_choice .nil pass0 (pa_cons (pv 1) (pa_cons (pe_lst (pa_cons (pe_op op_sub (pe_call (ok_l_draw T) (hr.mono (by decide)) (by rfl) T.g_l_draw T.F_l_draw.kp T.b_l_draw .nil pass0 (pa_cons (pv 1) (pa_cons (pe_op op_mulW pe_int (pe_op op_pow pe_int pe_int)) pa_nil))) (pe_op op_pow pe_int pe_int)) (pa_cons (pe_op op_sub (pe_op op_mulW (pe_op op_pow pe_int pe_int) (pe_op op_pow pe_int pe_int)) (pe_call (ok_l_draw T) (hr.mono (by decide)) (by rfl) T.g_l_draw T.F_l_draw.kp T.b_l_draw .nil pass0 (pa_cons (pv 1) (pa_cons (pe_op op_pow pe_int pe_int) pa_nil)))) pa_nil))) pa_nil))))
      (pss_cons (ps_for PassesOwn.never rfl (pi_tup (pe_tup (pa_cons (pe_op op_sub (pe_call (ok_l_draw T) (hr.mono (by decide)) (by rfl) T.g_l_draw T.F_l_draw.kp T.b_l_draw .nil pass0 (pa_cons (pv 1) (pa_cons pe_int pa_nil))) pe_int) (pa_cons (pv 5) pa_nil)))) (pg_name (i := 6) sc_law.nd rfl (Or.inl rfl)) (pss_cons (ps_asg (pe_call (ok_l_window T) (hr.mono (by decide)) (by rfl) T.g_l_window T.F_l_window.kp T.b_l_window .nil pass0 (pa_cons (pv 4) (pa_cons (pv 6) pa_nil))) (pg_tup (by rfl) (pgs_cons (pg_name (i := 7) sc_law.nd rfl (Or.inl rfl)) (pgs_cons (pg_name (i := 8) sc_law.nd rfl (Or.inl rfl)) pgs_nil))))
      (pss_cons (ps_set (i := 9) sc_law.nd rfl (Or.inl rfl) (pe_ix ix_tup (pe_call (ok_l_window T) (hr.mono (by decide)) (by rfl) T.g_l_window T.F_l_window.kp T.b_l_window .nil pass0 (pa_cons (pv 4) (pa_cons (pe_op op_add (pv 6) pe_int) pa_nil))) pe_int (fun _ _ => rfl)))
      (pss_cons (ps_if (pt_not (pt_val (pe_call (ok_l_equal T 4) (hr.mono (by decide)) (by rfl) T.g_l_equal T.F_l_equal.kp T.b_l_equal .nil pass0 (pa_cons (pe_call (ok_window T) (hr.mono (by decide)) (by rfl) T.g_window T.F_window.kp T.b_window .nil pass0 (pa_cons (pv 3) (pa_cons (pv 6) pa_nil))) (pa_cons (pe_tup (pa_cons (pv 7) (pa_cons (pv 8) pa_nil))) pa_nil))))) (pss_one (ps_ret pe_bl)) pss_nil)
      (pss_cons (ps_set (i := 10) sc_law.nd rfl (Or.inl rfl) (pe_call (ok_l_multiply T) (hr.mono (by decide)) (by rfl) T.g_l_multiply T.F_l_multiply.kp T.b_l_multiply .nil pass0 (pa_cons (pe_call (ok_l_add T) (hr.mono (by decide)) (by rfl) T.g_l_add T.F_l_add.kp T.b_l_add .nil pass0 (pa_cons (pv 7) (pa_cons (pv 8) pa_nil))) (pa_cons (pe_tup (pa_cons pe_int (pa_cons pe_int pa_nil))) pa_nil))))
      (pss_cons (ps_set (i := 11) sc_law.nd rfl (Or.inl rfl) (pe_lst (pa_cons (pe_call (ok_window_at T) (hr.mono (by decide)) (by rfl) T.g_window_at T.F_window_at.kp T.b_window_at .nil pass0 (pa_cons (pv 3) (pa_cons (pv 7) pa_nil))) (pa_cons (pe_call (ok_window_at T) (hr.mono (by decide)) (by rfl) T.g_window_at T.F_window_at.kp T.b_window_at .nil pass0 (pa_cons (pv 3) (pa_cons (pv 10) pa_nil))) (pa_cons (pe_call (ok_window_at T) (hr.mono (by decide)) (by rfl) T.g_window_at T.F_window_at.kp T.b_window_at .nil pass0 (pa_cons (pv 3) (pa_cons (pv 8) pa_nil))) (pa_cons (pe_call (ok_window_at T) (hr.mono (by decide)) (by rfl) T.g_window_at T.F_window_at.kp T.b_window_at .nil pass0 (pa_cons (pv 3) (pa_cons (pv 9) pa_nil))) pa_nil))))))
      (pss_cons (ps_if (pt_not (pt_val (pe_call (ok_l_equal T 4) (hr.mono (by decide)) (by rfl) T.g_l_equal T.F_l_equal.kp T.b_l_equal .nil pass0 (pa_cons (pv 11) (pa_cons (pe_lst (pa_cons (pv 6) (pa_cons (pv 6) (pa_cons (pv 6) (pa_cons (pe_op op_add (pv 6) pe_int) pa_nil))))) pa_nil))))) (pss_one (ps_ret pe_bl)) pss_nil)
      (pss_cons (ps_set (i := 12) sc_law.nd rfl (Or.inl rfl) (pe_call (ok_l_multiply T) (hr.mono (by decide)) (by rfl) T.g_l_multiply T.F_l_multiply.kp T.b_l_multiply .nil pass0 (pa_cons (pe_call (ok_l_add T) (hr.mono (by decide)) (by rfl) T.g_l_add T.F_l_add.kp T.b_l_add .nil pass0 (pa_cons (pv 8) (pa_cons (pv 9) pa_nil))) (pa_cons (pe_tup (pa_cons pe_int (pa_cons pe_int pa_nil))) pa_nil))))
      (pss_one (ps_if (PW.pt (pw_or (pt_cmpR op_notN (pe_call (ok_window_at T) (hr.mono (by decide)) (by rfl) T.g_window_at T.F_window_at.kp T.b_window_at .nil pass0 (pa_cons (pv 3) (pa_cons (pv 12) pa_nil))) pe_non (nomark _)) (pw_or1 (pt_val (pe_call (ok_is_open T) (hr.mono (by decide)) (by rfl) T.g_is_open T.F_is_open.kp T.b_is_open .nil pass0 (pa_cons (pv 3) (pa_cons (pv 12) pa_nil))))))) (pss_one (ps_ret pe_bl)) pss_nil))))))))))
      (pss_cons (ps_set (i := 13) sc_law.nd rfl (Or.inl rfl) (pe_call (ok_l_choice T) (hr.mono (by decide)) (by rfl) T.g_l_choice T.F_l_choice.kp T.b_l_choice .nil pass0 (pa_cons (pv 1) (pa_cons (pe_lst (pa_cons (pe_call (ok_l_near_moment T) (hr.mono (by decide)) (by rfl) T.g_l_near_moment T.F_l_near_moment.kp T.b_l_near_moment .nil pass0 (pa_cons (pv 1) (pa_cons (pv 3) pa_nil))) (pa_cons (pe_call (ok_l_wideQ T) (hr.mono (by decide)) (by rfl) T.g_l_wide T.F_l_wide.kp T.b_l_wide .nil pass0 (pa_cons (pv 1) pa_nil)) pa_nil))) pa_nil))))
      (pss_cons (ps_set (i := 6) sc_law.nd rfl (Or.inl rfl) (pe_call (ok_window_at T) (hr.mono (by decide)) (by rfl) T.g_window_at T.F_window_at.kp T.b_window_at .nil pass0 (pa_cons (pv 3) (pa_cons (pv 13) pa_nil))))
      (pss_cons (ps_if (pt_cmpR op_eq (pe_cmpR op_isN (pv 6) pe_non (nomark _)) (pe_call (ok_l_is_open T) (hr.mono (by decide)) (by rfl) T.g_l_is_open T.F_l_is_open.kp T.b_l_is_open .nil pass0 (pa_cons (pv 3) (pa_cons (pv 13) pa_nil))) (nomark _)) (pss_one (ps_ret pe_bl)) pss_nil)
      (pss_one (ps_if (pt_cmpR op_notN (pv 6) pe_non (nomark _)) (pss_cons (ps_asg (pe_call (ok_l_window T) (hr.mono (by decide)) (by rfl) T.g_l_window T.F_l_window.kp T.b_l_window .nil pass0 (pa_cons (pv 4) (pa_cons (pv 6) pa_nil))) (pg_tup (by rfl) (pgs_cons (pg_name (i := 7) sc_law.nd rfl (Or.inl rfl)) (pgs_cons (pg_name (i := 8) sc_law.nd rfl (Or.inl rfl)) pgs_nil))))
      (pss_one (ps_if (PW.pt (pw_or (pt_val (pe_call (ok_l_lessQ T) (hr.mono (by decide)) (by rfl) T.g_l_less T.F_l_less.kp T.b_l_less .nil pass0 (pa_cons (pv 13) (pa_cons (pv 7) pa_nil)))) (pw_or1 (pt_val (pe_call (ok_l_lessQ T) (hr.mono (by decide)) (by rfl) T.g_l_less T.F_l_less.kp T.b_l_less .nil pass0 (pa_cons (pv 8) (pa_cons (pv 13) pa_nil))))))) (pss_one (ps_ret pe_bl)) pss_nil))) pss_nil)))))))))))
      (pss_one (ps_ret pe_bl)))), ?_⟩
    have c20 : CPow 10 20 := ⟨by decide, by decide, by decide⟩
    have c40 : CPow 10 40 := ⟨by decide, by decide, by decide⟩
    have c9 : CPow 10 9 := ⟨by decide, by decide, by decide⟩
    have b40 : B 133 (10 ^ (40 : Int).toNat : Int) := B.of (by decide)
    refine ⟨_, rfl, sc, ns, rfl, hS, hlen, fun r H0 s0 hR => ?_⟩
    refine ⟨4, rfl, by decide, by decide, ?_⟩
    refine for_range (n := 4) (fun i σ H' => Rng H' r ∧ ∃ z2 z3 z4 z5 z6 z7 z8 z9 z10 z11 z12 z13, σ = [some (.ref sc), some (.ref r), z2, z3, z4, z5, z6, z7, z8, z9, z10, z11, z12, z13]) ⟨hR, _, _, _, _, _, _, _, _, _, _, _, _, rfl⟩ ?_ ?_
    · rintro i σ Hi hi ⟨hR, z2, z3, z4, z5, z6, z7, z8, z9, z10, z11, z12, z13, rfl⟩
      refine ⟨_, rfl, _, rfl, _, rfl, r, rfl, hR, fun vpl pl H1 m1 f1 b1 => ?_⟩
      refine ⟨r, vpl, pl, 6, rfl, m1.b, f1, by decide, by decide, fun vg0 P0 xs0 H2 m2 g0 G0 => ?_⟩
      refine ⟨r, vg0, pl, P0, xs0, rfl, m2.b, g0, G0, fun vg Pg xs H3 m3 g G => ?_⟩
      have hR3 := m3.b
      clear m1 f1 m2 g0 G0 m3
      obtain ⟨U, v1, v2, v3, rfl, hU, d1, d2, d3⟩ := dp_three g
      obtain ⟨a, us, rfl, ha, hu⟩ := dp_tup d3
      have el : us.length = xs.length := by rw [DpAll_len hu, List.length_map]
      dsimp only [gName]
      refine seq_by (t := tIfS _ _ _) (u := tSeq _ _) (fun σ H' => Rng H' r ∧ ∃ vg P xs z2 z4 z5 z6 z7 z8 z9 z10 z11 z12 z13, Dp K H' vg (dG pl P xs) ∧ Gs 90 P xs ∧ 0 < xs.length ∧ σ = [some (.ref sc), some (.ref r), z2, some vg, z4, z5, z6, z7, z8, z9, z10, z11, z12, z13]) (fun σ H3 h => ?_) (fun k => ?_)
      rotate_left
      · refine ⟨_, rfl, U, _, _, _, rfl, rfl, hU, ix2, a, us, rfl, .inr ha, rfl, _, rfl, brEq (fun h0 => ?_) (fun h0 => ?_)⟩
        · refine ⟨_, rfl, U, _, _, _, rfl, rfl, hU, ix0, _, rfl, U, _, _, _, rfl, rfl, hU, ix1, ?_⟩
          refine ⟨sizeLine2 (by simp), fun c1 n1 => ?_⟩
          have s1 := same_upd (o := HO.tup [.int 0, .int 1]) n1
          have f0 : Dp K _ (.ref c1) (dq 0) := dq_lit (a := 0) (b := 1) n1 rfl rfl
          refine ⟨_, rfl, U, _, _, _, rfl, rfl, Evl.ex_t s1 hU, ix1, ?_⟩
          refine ⟨sizeLine2 (by simp), fun c2 n2 => ?_⟩
          have s2 := same_upd (o := HO.tup [.ref c1, v2]) n2
          refine ⟨sizeLine2 (by simp), fun c3 n3 => ?_⟩
          have s3 := same_upd (o := HO.tup [.ref c2]) n3
          refine ⟨sizeLine2 (by simp), fun c4 n4 => ?_⟩
          have s4 := same_upd (o := HO.tup [v1, v2, .ref c3]) n4
          have sA := (s1.trans s2).trans s3
          refine k _ _ ⟨hR3.same (sA.trans s4), .ref c4, Pg, [(0, Pg)], _, _, _, _, _, _, _, _, _, _, _, dp_new n4 (.cons (Dp_same sA d1) (.cons (Dp_same sA d2) (.cons (dp_new n3 (.cons (dp_new n2 (.cons f0 (.cons (Dp_same s1 d2) .nil))) .nil)) .nil))), one_span 90 G.g.pos G.p (by decide), by simp, rfl⟩
        · exact k _ _ ⟨hR3, .ref U, Pg, xs, _, _, _, _, _, _, _, _, _, _, _, g, G, by omega, rfl⟩
      clear g G d1 d2 d3 ha hu el hU
      obtain ⟨hR3, vg, Pg, xs, z2, z4, z5, z6, z7, z8, z9, z10, z11, z12, z13, g, G, h0, rfl⟩ := h
      have Gg := G.gd
      refine ⟨_, rfl, _, pl, Pg, xs, rfl, g, Gg, fun vn H4 s4 fn => ?_⟩
      have h0l := lf_pos (P := Pg) h0
      have Gn := lf_gs G (by decide)
      have sh := (lf_ok G.g).2
      have Gn' : Gs 93 (lfQ Pg xs).1 (lfQ Pg xs).2 := Gn
      clear Gn
      have g4 := Dp_same s4 g
      have hR4 := hR3.same s4
      clear g hR3 s4
      refine ⟨_, rfl, _, rfl, _, _, rfl, rfl, c20, _, _, rfl, rfl, cm (n := 2) (m := 67) (B.of (by decide)) (B.of (by decide)), r, _, rfl, by decide, (B.of (n := 69) (by decide)).mono, hR4, fun x H5 x0 x1 m5 => ?_⟩
      simp only [Int.reduceToNat, Int.reducePow, Int.reduceMul] at x1
      refine ⟨_, _, rfl, rfl, c20, _, _, rfl, rfl, _, _, rfl, rfl, c40, _, _, rfl, rfl, c40, _, _, rfl, rfl, cm b40 b40, _, rfl, _, _, rfl, rfl, c9, r, _, rfl, by decide, (B.of (n := 30) (by decide)).mono, m5.b, fun y H6 y0 y1 m6 => ?_⟩
      simp only [Int.reduceToNat, Int.reducePow] at y1
      refine ⟨_, _, rfl, rfl, sizeLine2 (by simp), fun l nl => ?_⟩
      have m56 := m5.trans m6
      have m7 := Mo.new (o := HO.lst [.int (x - 10 ^ (20 : Int).toNat), .int (10 ^ (40 : Int).toNat * 10 ^ (40 : Int).toNat - y)]) m6.b nl
      refine ⟨r, l, _, rfl, .inl (.inl upd_same), m6.b.ne nl, by simp, by simp, m7.b, fun z H8 hz m8 => ?_⟩
      have m48 := m56.trans (m7.trans m8)
      obtain ⟨far, rfl, bfar⟩ : ∃ n : Int, z = .int n ∧ B 267 n := by
        simp only [List.mem_cons, List.not_mem_nil, or_false] at hz
        rcases hz with rfl | rfl
        · refine ⟨_, rfl, B.of ?_⟩
          simp only [Int.reduceToNat, Int.reducePow]; omega
        · refine ⟨_, rfl, B.of ?_⟩
          simp only [Int.reduceToNat, Int.reducePow, Int.reduceMul]; omega
      have g8 := Dp_mo m48 g4 (noL_dG _ _ _)
      have fn8 := Dp_mo m48 fn (noL_dG _ _ _)
      have hR8 := m48.b
      clear m48 m56 m7 m8 m5 m6 nl hz g4 fn hR4 x0 x1 y0 y1
      refine ⟨_, rfl, r, 81, rfl, by decide, (B.of (n := 10) (by decide)).mono, hR8, fun n0 H9 n00 n01 m9 => ?_⟩
      refine ⟨_, _, rfl, rfl, _, rfl, sizeLine2 (by simp), fun t nt => ?_⟩
      have s10 := same_upd (o := HO.tup [.int (n0 - 40), .int far]) nt
      refine ⟨t, rfl, ⟨_, .inl (.inl upd_same)⟩, ?_⟩
      have g10 := Dp_same s10 (Dp_mo m9 g8 (noL_dG _ _ _))
      have fn10 := Dp_same s10 (Dp_mo m9 fn8 (noL_dG _ _ _))
      have hR10 := m9.b.same s10
      generalize hP' : (lfQ Pg xs).1 = P' at *
      generalize hys : (lfQ Pg xs).2 = ys at *
      have gn := Gn'.g
      have Gd' := Gn'.gd
      have l6 := gn.len
      refine for_tup (K := K) (xs := [.int (n0 - 40), .int far]) (fun i σ H' => Rng H' r ∧ Dp K H' vg (dG pl Pg xs) ∧ Dp K H' vn (dG pl P' ys) ∧ SqT K H' t [.int (n0 - 40), .int far] ∧ ∃ z2 z6 z7 z8 z9 z10 z11 z12 z13, σ = [some (.ref sc), some (.ref r), z2, some vg, some vn, some (.int far), z6, z7, z8, z9, z10, z11, z12, z13]) ⟨hR10, g10, fn10, .inl (.inl upd_same), _, _, _, _, _, _, _, _, _, rfl⟩ (fun i σ H' _ h => h.2.2.2.1) ?_ ?_
      · clear g8 fn8 hR8 g10 fn10 hR10 m9 s10 nt
        rintro iN xN σ Ha hx ⟨hR, g, fn, ht, z2, z6, z7, z8, z9, z10, z11, z12, z13, rfl⟩
        obtain ⟨n, rfl, bn⟩ : ∃ n : Int, xN = .int n ∧ B 267 n := by
          have := List.mem_of_getElem? hx
          simp only [List.mem_cons, List.not_mem_nil, or_false] at this
          rcases this with rfl | rfl
          · exact ⟨_, rfl, (B.of (n := 10) (by omega) : B 10 _).mono⟩
          · exact ⟨_, rfl, bfar⟩
        clear hx
        have bn1 : B 268 (n + 1) := bn.add (B.one.mono)
        obtain ⟨bw1, bw2⟩ := b_win Gn' h0l bn
        obtain ⟨bw3, _⟩ := b_win Gn' h0l bn1
        have wle := gn.le h0l n
        have wle1 := gn.le h0l (n + 1)
        have gap := win_gap gn h0l n
        generalize hB : (winQ P' ys n).1 = wb at *
        generalize hE : (winQ P' ys n).2 = we at *
        generalize hL : (winQ P' ys (n + 1)).1 = wl at *
        have ew : winQ P' ys n = (wb, we) := Prod.ext hB hE
        have W1 : ∀ m, wb ≤ m → m ≤ we → Win P' ys m (wNo ys n) (wPer ys n) := fun m h1 h2 => win_mid h0l (by rw [hB]; exact h1) (by rw [hE]; exact h2)
        have W2 : Win P' ys wl (wNo ys (n + 1)) (wPer ys (n + 1)) := win_mid h0l (by rw [hL]; exact Rat.le_refl) wle1
        refine ⟨_, rfl, _, rfl, vn, pl, P', ys, n, rfl, fn, Gd', h0l, bn.mono, fun v1 H1 s1 f1 => ?_⟩
        rw [ew] at f1
        obtain ⟨V1, vb, ve, rfl, hV1, fb, fe⟩ := dp_two f1
        refine ⟨V1, _, rfl, hV1, rfl, _, _, rfl, _, _, rfl, rfl, ?_⟩
        refine ⟨_, rfl, _, rfl, _, _, rfl, rfl, vn, pl, P', ys, n + 1, rfl, Dp_same s1 fn, Gd', h0l, bn1.mono, fun v2 H2 s2 f2 => ?_⟩
        obtain ⟨V2, vl, ve2, rfl, hV2, fl, fe2⟩ := dp_two f2
        rw [hL] at fl
        refine ⟨V2, _, _, _, rfl, rfl, hV2, ix0, ?_⟩
        have s12 := s1.trans s2
        refine ⟨_, rfl, _, rfl, vg, pl, Pg, xs, n, rfl, Dp_same s12 g, Gg, by rw [hys]; exact h0l, bn.mono, fun v3 H3 s3 f3 => ?_⟩
        rw [hP', hys, ew] at f3
        have s23 := s2.trans s3
        refine ⟨_, rfl, _, rfl, sizeLine2 (by simp), fun c nc => ?_⟩
        have s4 := same_upd (o := HO.tup [vb, ve]) nc
        have s24 := s23.trans s4
        refine ⟨_, _, dsp (wb, we), rfl, Dp_same s4 f3, dp_new nc (.cons (Dp_same s23 fb) (.cons (Dp_same s23 fe) .nil)), by simp [dsp, dq, dep, deps], by simp [dsp, dq, wd, wds], fun H5 s5 => ⟨_, rfl, iteF ?_⟩⟩
        have s15 := s24.trans s5
        have fb := Dp_same s15 fb
        have fe := Dp_same s15 fe
        have fl := Dp_same ((s3.trans s4).trans s5) fl
        have s05 := s1.trans s15
        have g := Dp_same s05 g
        have fn := Dp_same s05 fn
        have ht := Evl.ex_t s05 ht
        have hR := hR.same s05
        clear s05 s15 s5 s24 s4 nc s23 s3 f3 s12 hV2 fe2 f2 s2 hV1 f1 s1
        refine ⟨_, rfl, _, rfl, u_add fb fe bw1.mono bw2.mono fun v1 H1 s1 f1 => ?_⟩
        have bA : Bq 1097 (wb + we) := bw1.add bw2
        refine ⟨sizeLine2 (by simp), fun ph nh => ?_⟩
        have sh1 := same_upd (o := HO.tup [.int 1, .int 2]) nh
        have fh : Dp K _ (.ref ph) (dq (1 / 2 : Rat)) := dq_lit (a := 1) (b := 2) nh (by decide +kernel) (by decide +kernel)
        refine u_mul (Dp_same sh1 f1) fh bA.mono b_half.mono fun vm H2 s2 fm => ?_
        have bM : Bq 1100 ((wb + we) * (1 / 2)) := bA.mul b_half
        have s02 := (s1.trans sh1).trans s2
        have g := Dp_same s02 g
        have fb := Dp_same s02 fb
        have fe := Dp_same s02 fe
        have fl := Dp_same s02 fl
        refine ⟨_, rfl, _, rfl, _, _, pl, Pg, xs, wb, rfl, g, Gg, by rw [hys]; exact h0l, fb, bw1.mono, fun va oa H3 s3 ea wa _ => ?_⟩
        rw [hP', hys] at wa
        refine ⟨_, rfl, _, rfl, _, _, pl, Pg, xs, _, rfl, Dp_same s3 g, Gg, by rw [hys]; exact h0l, Dp_same s3 fm, bM.mono, fun vb2 ob H4 s4 eb wb2 _ => ?_⟩
        rw [hP', hys] at wb2
        have s34 := s3.trans s4
        refine ⟨_, rfl, _, rfl, _, _, pl, Pg, xs, we, rfl, Dp_same s34 g, Gg, by rw [hys]; exact h0l, Dp_same s34 fe, bw2.mono, fun vc oc H5 s5 ec wc _ => ?_⟩
        rw [hP', hys] at wc
        have s35 := s34.trans s5
        refine ⟨_, rfl, _, rfl, _, _, pl, Pg, xs, wl, rfl, Dp_same s35 g, Gg, by rw [hys]; exact h0l, Dp_same s35 fl, bw3.mono, fun vd od H6 s6 ed wd2 _ => ?_⟩
        rw [hP', hys] at wd2
        have oa' := wa.of gn h0l (n := n) (W1 _ Rat.le_refl wle)
        have ob' := wb2.of gn h0l (n := n) (W1 _ (by grind) (by grind))
        have oc' := wc.of gn h0l (n := n) (W1 _ wle Rat.le_refl)
        have od' := wd2.of gn h0l (n := n + 1) W2
        subst oa' ob' oc' od' ea eb ec ed
        refine ⟨sizeLine2 (by simp), fun l1 n1 => ?_⟩
        have s7 := same_upd (o := HO.lst [vI (some n), vI (some n), vI (some n), vI (some (n + 1))]) n1
        refine ⟨_, rfl, _, rfl, _, rfl, _, rfl, _, rfl, _, _, rfl, rfl, sizeLine2 (by simp), fun l2 n2 => ?_⟩
        have s8 := same_upd (o := HO.lst [.int n, .int n, .int n, .int (n + 1)]) n2
        refine ⟨_, _, .list [.int n, .int n, .int n, .int (n + 1)], rfl, .lst (.inl (.inl (s8 _ _ upd_same))) (.cons (.int _) (.cons (.int _) (.cons (.int _) (.cons (.int _) .nil)))), .lst (.inl (.inl upd_same)) (.cons (.int _) (.cons (.int _) (.cons (.int _) (.cons (.int _) .nil)))), by simp [dep, deps], by simp [wd, wds], fun H9 s9 => ⟨_, rfl, iteF ?_⟩⟩
        have s39 := (((s35.trans s6).trans s7).trans s8).trans s9
        refine ⟨_, rfl, _, rfl, u_add (Dp_same s39 fe) (Dp_same s39 fl) bw2.mono bw3.mono fun v1 H10 s10 f10 => ?_⟩
        have bS : Bq 1098 (we + wl) := bw2.add bw3
        refine ⟨sizeLine2 (by simp), fun pk nk => ?_⟩
        have sk := same_upd (o := HO.tup [.int 1, .int 2]) nk
        have fk : Dp K _ (.ref pk) (dq (1 / 2 : Rat)) := dq_lit (a := 1) (b := 2) nk (by decide +kernel) (by decide +kernel)
        refine u_mul (Dp_same sk f10) fk bS.mono b_half.mono fun vs H11 s11 fs => ?_
        have bS2 : Bq 1101 ((we + wl) * (1 / 2)) := bS.mul b_half
        have s311 := ((s39.trans s10).trans sk).trans s11
        refine ⟨_, rfl, _, rfl, _, _, pl, Pg, xs, _, rfl, Dp_same s311 g, Gg, by rw [hys]; exact h0l, fs, bS2.mono, fun ve1 oe H12 s12 ee we1 _ => ?_⟩
        rw [hP', hys] at we1
        have oe' := we1.shut gn gap
        subst oe' ee
        refine ⟨rfl, _, rfl, iteF ?_⟩
        refine ⟨_, rfl, _, rfl, _, _, pl, Pg, xs, _, rfl, Dp_same (s311.trans s12) g, Gg, Dp_same s12 fs, bS2.mono, fun v13 H13 s13 e13 => ?_⟩
        have : (shutQ Pg xs ((we + wl) * (1 / 2))).isNone = false := by
          rw [← sh]
          cases hs : shutQ P' ys ((we + wl) * (1 / 2)) with
          | none => exact absurd hs gap
          | some _ => rfl
        rw [this] at e13
        subst e13
        refine ⟨_, rfl, iteF ?_⟩
        have sZ := s02.trans ((s311.trans s12).trans s13)
        exact ⟨hR.same sZ, Dp_same ((s311.trans s12).trans s13) g, Dp_same sZ fn, Evl.ex_t sZ ht, _, _, _, _, _, _, _, _, _, rfl⟩
      · rintro σ Ha ⟨hR, g, fn, ht, z2, z6, z7, z8, z9, z10, z11, z12, z13, rfl⟩
        refine ⟨_, rfl, _, rfl, _, rfl, r, vg, pl, Pg, xs, rfl, hR, g, G, fun vn1 mn H1 m1 fn1 bn1 => ?_⟩
        refine ⟨_, rfl, r, rfl, m1.b, fun vw mw H2 m2 fw bw => ?_⟩
        refine ⟨sizeLine2 (by simp), fun l nl => ?_⟩
        have m3 := Mo.new (o := HO.lst [vn1, vw]) m2.b nl
        refine ⟨r, l, _, rfl, .inl (.inl upd_same), m2.b.ne nl, by simp, by simp, m3.b, fun y H4 hy m4 => ?_⟩
        have m34 := m3.trans m4
        obtain ⟨m, fm, bm⟩ : ∃ m : Rat, Dp K H4 y (dq m) ∧ Bq 300 m := by
          simp only [List.mem_cons, List.not_mem_nil, or_false] at hy
          rcases hy with rfl | rfl
          · exact ⟨_, Dp_mo (m2.trans m34) fn1 (noL_dq _), bn1.mono⟩
          · exact ⟨_, Dp_mo m34 fw (noL_dq _), bw.mono⟩
        have mA := (m1.trans m2).trans m34
        have g := Dp_mo mA g (noL_dG _ _ _)
        have fn := Dp_mo mA fn (noL_dG _ _ _)
        have hR := mA.b
        refine ⟨_, rfl, _, rfl, _, _, pl, Pg, xs, m, rfl, g, Gg, by rw [hys]; exact h0l, fm, bm.mono, fun vo o H5 s5 eo wo bo => ?_⟩
        rw [hP', hys] at wo
        subst eo
        refine ⟨_, rfl, rfl, ?_⟩
        refine ⟨_, rfl, _, rfl, _, _, pl, Pg, xs, m, rfl, Dp_same s5 g, Gg, Dp_same s5 fm, bm.mono, fun v6 H6 s6 e6 => ?_⟩
        subst e6
        have ni := wo.none_iff gn
        rw [sh] at ni
        refine ⟨rfl, _, rfl, ?_⟩
        refine brF (by rw [vI_none, ni]; cases (shutQ Pg xs m).isNone <;> decide) ?_
        have s56 := s5.trans s6
        refine ⟨_, rfl, rfl, _, rfl, ?_⟩
        rcases wo with ⟨k, j, wkj, rfl⟩ | ⟨rfl, _⟩
        · refine iteT ?_
          have bo := bo _ rfl
          obtain ⟨e1, e2⟩ := wkj.num
          have w1 := wkj.lo; have w2 := wkj.hi
          generalize (k : Int) + j * (ys.length : Int) = n at *
          obtain ⟨bw1, bw2⟩ := b_win Gn' h0l bo
          have ew : winQ P' ys n = (wB ys k + (j : Rat) * P', wE P' ys k + (j : Rat) * P') := by unfold winQ; rw [e1, e2]
          refine ⟨_, rfl, _, rfl, vn, pl, P', ys, n, rfl, Dp_same s56 fn, Gd', h0l, bo.mono, fun v7 H7 s7 f7 => ?_⟩
          rw [ew] at f7 bw1 bw2
          obtain ⟨V1, vb, ve, rfl, hV1, fb, fe⟩ := dp_two f7
          refine ⟨V1, _, rfl, hV1, rfl, _, _, rfl, _, _, rfl, rfl, ?_⟩
          refine ⟨_, rfl, _, rfl, _, _, _, _, rfl, Dp_same (s56.trans s7) fm, fb, bm.mono, bw1.mono, ?_⟩
          rintro _ _ rfl rfl
          refine ⟨_, rfl, brI (fun c => absurd c (by grind)) (fun _ => ?_)⟩
          refine ⟨_, rfl, _, rfl, _, _, _, _, rfl, fe, Dp_same (s56.trans s7) fm, bw2.mono, bm.mono, ?_⟩
          rintro _ _ rfl rfl
          refine ⟨_, rfl, brI (fun c => absurd c (by grind)) (fun _ => ?_)⟩
          exact ⟨hR.same (s56.trans s7), _, _, _, _, _, _, _, _, _, _, _, _, rfl⟩
        · refine iteF ?_
          exact ⟨hR.same s56, _, _, _, _, _, _, _, _, _, _, _, _, rfl⟩
    · rintro σ H' ⟨hR, z2, z3, z4, z5, z6, z7, z8, z9, z10, z11, z12, z13, rfl⟩
      exact q _
end
end EP
namespace EP
open PySem PySem.Spec PyProof.Rows L2
set_option maxHeartbeats 8000000 in
theorem all_mk {l : PySem.W.OpenLaw} {w : World} {K : PySem.W.Frag} {h : Heap} {mg : Str → Option Value} {fa : Addr} (X : K.In h) (G : h.Ns mainGlobals mg) (hfa : mg "law" = some (.ref fa))
    {k_ZERO : Addr} {odk_ZERO : Option Addr} {nk_ZERO : Nat} {slk_ZERO : Array (Option Value)} {tk_ZERO0 : Tok} {tk_ZERO1 : Tok} (ak_ZERO : PySem.W.nsIn K mainGlobals "ZERO" = some (some (.ref k_ZERO))) (lk_ZERO : K.lookup k_ZERO = some ⟨.type "tuple", odk_ZERO, .seq #[.int 0 tk_ZERO0, .int 1 tk_ZERO1] nk_ZERO, slk_ZERO⟩)
    {k_ONE : Addr} {odk_ONE : Option Addr} {nk_ONE : Nat} {slk_ONE : Array (Option Value)} {tk_ONE0 : Tok} {tk_ONE1 : Tok} (ak_ONE : PySem.W.nsIn K mainGlobals "ONE" = some (some (.ref k_ONE))) (lk_ONE : K.lookup k_ONE = some ⟨.type "tuple", odk_ONE, .seq #[.int 1 tk_ONE0, .int 1 tk_ONE1] nk_ONE, slk_ONE⟩)
    {tk_MAX_SPANS : Tok} (ak_MAX_SPANS : PySem.W.nsIn K mainGlobals "MAX_SPANS" = some (some (.int 6 tk_MAX_SPANS)))
    {f0 : Addr} {od0 an0 : Option Addr} {sl0 : Array (Option Value)} {oc0 kV0 dc0 pm0 cd0 ct0 : Value}
    (a0 : PySem.W.nsIn K mainGlobals "gcd" = some (some (.ref f0))) (l0 : K.lookup f0 = some ⟨oc0, od0, .func (PySem.W.fnOf "gcd" "gcd" (defArgs s_gcd) (defBody s_gcd) (defScope s_gcd) .none kV0 dc0 pm0 an0 cd0 ct0), sl0⟩) (c0 : PySem.W.codeIn K cd0 "gcd" = true) (k0 : PySem.W.keepIn K (.ref f0) = true)
    {f1 T1 : Addr} {od1 an1 odT1 : Option Addr} {sl1 slT1 : Array (Option Value)} {oc1 kV1 dc1 pm1 cd1 ct1 ocT1 : Value} {nT1 : Nat} {tk1_0 : Tok}
    (a1 : PySem.W.nsIn K mainGlobals "fraction" = some (some (.ref f1))) (l1 : K.lookup f1 = some ⟨oc1, od1, .func (PySem.W.fnOf "fraction" "fraction" (defArgs s_fraction) (defBody s_fraction) (defScope s_fraction) (.ref T1) kV1 dc1 pm1 an1 cd1 ct1), sl1⟩) (c1 : PySem.W.codeIn K cd1 "fraction" = true) (k1 : PySem.W.keepIn K (.ref f1) = true) (t1 : K.lookup T1 = some ⟨ocT1, odT1, .seq #[.int 1 tk1_0] nT1, slT1⟩)
    {f2 : Addr} {od2 an2 : Option Addr} {sl2 : Array (Option Value)} {oc2 kV2 dc2 pm2 cd2 ct2 : Value}
    (a2 : PySem.W.nsIn K mainGlobals "add" = some (some (.ref f2))) (l2 : K.lookup f2 = some ⟨oc2, od2, .func (PySem.W.fnOf "add" "add" (defArgs s_add) (defBody s_add) (defScope s_add) .none kV2 dc2 pm2 an2 cd2 ct2), sl2⟩) (c2 : PySem.W.codeIn K cd2 "add" = true) (k2 : PySem.W.keepIn K (.ref f2) = true)
    {f3 : Addr} {od3 an3 : Option Addr} {sl3 : Array (Option Value)} {oc3 kV3 dc3 pm3 cd3 ct3 : Value}
    (a3 : PySem.W.nsIn K mainGlobals "subtract" = some (some (.ref f3))) (l3 : K.lookup f3 = some ⟨oc3, od3, .func (PySem.W.fnOf "subtract" "subtract" (defArgs s_subtract) (defBody s_subtract) (defScope s_subtract) .none kV3 dc3 pm3 an3 cd3 ct3), sl3⟩) (c3 : PySem.W.codeIn K cd3 "subtract" = true) (k3 : PySem.W.keepIn K (.ref f3) = true)
    {f4 : Addr} {od4 an4 : Option Addr} {sl4 : Array (Option Value)} {oc4 kV4 dc4 pm4 cd4 ct4 : Value}
    (a4 : PySem.W.nsIn K mainGlobals "multiply" = some (some (.ref f4))) (l4 : K.lookup f4 = some ⟨oc4, od4, .func (PySem.W.fnOf "multiply" "multiply" (defArgs s_multiply) (defBody s_multiply) (defScope s_multiply) .none kV4 dc4 pm4 an4 cd4 ct4), sl4⟩) (c4 : PySem.W.codeIn K cd4 "multiply" = true) (k4 : PySem.W.keepIn K (.ref f4) = true)
    {f5 : Addr} {od5 an5 : Option Addr} {sl5 : Array (Option Value)} {oc5 kV5 dc5 pm5 cd5 ct5 : Value}
    (a5 : PySem.W.nsIn K mainGlobals "divide" = some (some (.ref f5))) (l5 : K.lookup f5 = some ⟨oc5, od5, .func (PySem.W.fnOf "divide" "divide" (defArgs s_divide) (defBody s_divide) (defScope s_divide) .none kV5 dc5 pm5 an5 cd5 ct5), sl5⟩) (c5 : PySem.W.codeIn K cd5 "divide" = true) (k5 : PySem.W.keepIn K (.ref f5) = true)
    {f6 : Addr} {od6 an6 : Option Addr} {sl6 : Array (Option Value)} {oc6 kV6 dc6 pm6 cd6 ct6 : Value}
    (a6 : PySem.W.nsIn K mainGlobals "is_less" = some (some (.ref f6))) (l6 : K.lookup f6 = some ⟨oc6, od6, .func (PySem.W.fnOf "is_less" "is_less" (defArgs s_is_less) (defBody s_is_less) (defScope s_is_less) .none kV6 dc6 pm6 an6 cd6 ct6), sl6⟩) (c6 : PySem.W.codeIn K cd6 "is_less" = true) (k6 : PySem.W.keepIn K (.ref f6) = true)
    {f7 : Addr} {od7 an7 : Option Addr} {sl7 : Array (Option Value)} {oc7 kV7 dc7 pm7 cd7 ct7 : Value}
    (a7 : PySem.W.nsIn K mainGlobals "floor_of" = some (some (.ref f7))) (l7 : K.lookup f7 = some ⟨oc7, od7, .func (PySem.W.fnOf "floor_of" "floor_of" (defArgs s_floor_of) (defBody s_floor_of) (defScope s_floor_of) .none kV7 dc7 pm7 an7 cd7 ct7), sl7⟩) (c7 : PySem.W.codeIn K cd7 "floor_of" = true) (k7 : PySem.W.keepIn K (.ref f7) = true)
    {f8 : Addr} {od8 an8 : Option Addr} {sl8 : Array (Option Value)} {oc8 kV8 dc8 pm8 cd8 ct8 : Value}
    (a8 : PySem.W.nsIn K mainGlobals "remainder" = some (some (.ref f8))) (l8 : K.lookup f8 = some ⟨oc8, od8, .func (PySem.W.fnOf "remainder" "remainder" (defArgs s_remainder) (defBody s_remainder) (defScope s_remainder) .none kV8 dc8 pm8 an8 cd8 ct8), sl8⟩) (c8 : PySem.W.codeIn K cd8 "remainder" = true) (k8 : PySem.W.keepIn K (.ref f8) = true)
    {f9 : Addr} {od9 an9 : Option Addr} {sl9 : Array (Option Value)} {oc9 kV9 dc9 pm9 cd9 ct9 : Value}
    (a9 : PySem.W.nsIn K mainGlobals "span_ends" = some (some (.ref f9))) (l9 : K.lookup f9 = some ⟨oc9, od9, .func (PySem.W.fnOf "span_ends" "span_ends" (defArgs s_span_ends) (defBody s_span_ends) (defScope s_span_ends) .none kV9 dc9 pm9 an9 cd9 ct9), sl9⟩) (c9 : PySem.W.codeIn K cd9 "span_ends" = true) (k9 : PySem.W.keepIn K (.ref f9) = true)
    {f10 : Addr} {od10 an10 : Option Addr} {sl10 : Array (Option Value)} {oc10 kV10 dc10 pm10 cd10 ct10 : Value}
    (a10 : PySem.W.nsIn K mainGlobals "next_begins" = some (some (.ref f10))) (l10 : K.lookup f10 = some ⟨oc10, od10, .func (PySem.W.fnOf "next_begins" "next_begins" (defArgs s_next_begins) (defBody s_next_begins) (defScope s_next_begins) .none kV10 dc10 pm10 an10 cd10 ct10), sl10⟩) (c10 : PySem.W.codeIn K cd10 "next_begins" = true) (k10 : PySem.W.keepIn K (.ref f10) = true)
    {f11 : Addr} {od11 an11 : Option Addr} {sl11 : Array (Option Value)} {oc11 kV11 dc11 pm11 cd11 ct11 : Value}
    (a11 : PySem.W.nsIn K mainGlobals "fits" = some (some (.ref f11))) (l11 : K.lookup f11 = some ⟨oc11, od11, .func (PySem.W.fnOf "fits" "fits" (defArgs s_fits) (defBody s_fits) (defScope s_fits) .none kV11 dc11 pm11 an11 cd11 ct11), sl11⟩) (c11 : PySem.W.codeIn K cd11 "fits" = true) (k11 : PySem.W.keepIn K (.ref f11) = true)
    {f12 : Addr} {od12 an12 : Option Addr} {sl12 : Array (Option Value)} {oc12 kV12 dc12 pm12 cd12 ct12 : Value}
    (a12 : PySem.W.nsIn K mainGlobals "is_gate" = some (some (.ref f12))) (l12 : K.lookup f12 = some ⟨oc12, od12, .func (PySem.W.fnOf "is_gate" "is_gate" (defArgs s_is_gate) (defBody s_is_gate) (defScope s_is_gate) .none kV12 dc12 pm12 an12 cd12 ct12), sl12⟩) (c12 : PySem.W.codeIn K cd12 "is_gate" = true) (k12 : PySem.W.keepIn K (.ref f12) = true)
    {f13 : Addr} {od13 an13 : Option Addr} {sl13 : Array (Option Value)} {oc13 kV13 dc13 pm13 cd13 ct13 : Value}
    (a13 : PySem.W.nsIn K mainGlobals "repeats" = some (some (.ref f13))) (l13 : K.lookup f13 = some ⟨oc13, od13, .func (PySem.W.fnOf "repeats" "repeats" (defArgs s_repeats) (defBody s_repeats) (defScope s_repeats) .none kV13 dc13 pm13 an13 cd13 ct13), sl13⟩) (c13 : PySem.W.codeIn K cd13 "repeats" = true) (k13 : PySem.W.keepIn K (.ref f13) = true)
    {f14 : Addr} {od14 an14 : Option Addr} {sl14 : Array (Option Value)} {oc14 kV14 dc14 pm14 cd14 ct14 : Value}
    (a14 : PySem.W.nsIn K mainGlobals "least_form" = some (some (.ref f14))) (l14 : K.lookup f14 = some ⟨oc14, od14, .func (PySem.W.fnOf "least_form" "least_form" (defArgs s_least_form) (defBody s_least_form) (defScope s_least_form) .none kV14 dc14 pm14 an14 cd14 ct14), sl14⟩) (c14 : PySem.W.codeIn K cd14 "least_form" = true) (k14 : PySem.W.keepIn K (.ref f14) = true)
    {f15 : Addr} {od15 an15 : Option Addr} {sl15 : Array (Option Value)} {oc15 kV15 dc15 pm15 cd15 ct15 : Value}
    (a15 : PySem.W.nsIn K mainGlobals "normal_gate" = some (some (.ref f15))) (l15 : K.lookup f15 = some ⟨oc15, od15, .func (PySem.W.fnOf "normal_gate" "normal_gate" (defArgs s_normal_gate) (defBody s_normal_gate) (defScope s_normal_gate) .none kV15 dc15 pm15 an15 cd15 ct15), sl15⟩) (c15 : PySem.W.codeIn K cd15 "normal_gate" = true) (k15 : PySem.W.keepIn K (.ref f15) = true)
    {f16 : Addr} {od16 an16 : Option Addr} {sl16 : Array (Option Value)} {oc16 kV16 dc16 pm16 cd16 ct16 : Value}
    (a16 : PySem.W.nsIn K mainGlobals "shut_until" = some (some (.ref f16))) (l16 : K.lookup f16 = some ⟨oc16, od16, .func (PySem.W.fnOf "shut_until" "shut_until" (defArgs s_shut_until) (defBody s_shut_until) (defScope s_shut_until) .none kV16 dc16 pm16 an16 cd16 ct16), sl16⟩) (c16 : PySem.W.codeIn K cd16 "shut_until" = true) (k16 : PySem.W.keepIn K (.ref f16) = true)
    {f17 : Addr} {od17 an17 : Option Addr} {sl17 : Array (Option Value)} {oc17 kV17 dc17 pm17 cd17 ct17 : Value}
    (a17 : PySem.W.nsIn K mainGlobals "is_open" = some (some (.ref f17))) (l17 : K.lookup f17 = some ⟨oc17, od17, .func (PySem.W.fnOf "is_open" "is_open" (defArgs s_is_open) (defBody s_is_open) (defScope s_is_open) .none kV17 dc17 pm17 an17 cd17 ct17), sl17⟩) (c17 : PySem.W.codeIn K cd17 "is_open" = true) (k17 : PySem.W.keepIn K (.ref f17) = true)
    {f18 : Addr} {od18 an18 : Option Addr} {sl18 : Array (Option Value)} {oc18 kV18 dc18 pm18 cd18 ct18 : Value}
    (a18 : PySem.W.nsIn K mainGlobals "first_windows" = some (some (.ref f18))) (l18 : K.lookup f18 = some ⟨oc18, od18, .func (PySem.W.fnOf "first_windows" "first_windows" (defArgs s_first_windows) (defBody s_first_windows) (defScope s_first_windows) .none kV18 dc18 pm18 an18 cd18 ct18), sl18⟩) (c18 : PySem.W.codeIn K cd18 "first_windows" = true) (k18 : PySem.W.keepIn K (.ref f18) = true)
    {f19 : Addr} {od19 an19 : Option Addr} {sl19 : Array (Option Value)} {oc19 kV19 dc19 pm19 cd19 ct19 : Value}
    (a19 : PySem.W.nsIn K mainGlobals "periods_later" = some (some (.ref f19))) (l19 : K.lookup f19 = some ⟨oc19, od19, .func (PySem.W.fnOf "periods_later" "periods_later" (defArgs s_periods_later) (defBody s_periods_later) (defScope s_periods_later) .none kV19 dc19 pm19 an19 cd19 ct19), sl19⟩) (c19 : PySem.W.codeIn K cd19 "periods_later" = true) (k19 : PySem.W.keepIn K (.ref f19) = true)
    {f20 : Addr} {od20 an20 : Option Addr} {sl20 : Array (Option Value)} {oc20 kV20 dc20 pm20 cd20 ct20 : Value}
    (a20 : PySem.W.nsIn K mainGlobals "window" = some (some (.ref f20))) (l20 : K.lookup f20 = some ⟨oc20, od20, .func (PySem.W.fnOf "window" "window" (defArgs s_window) (defBody s_window) (defScope s_window) .none kV20 dc20 pm20 an20 cd20 ct20), sl20⟩) (c20 : PySem.W.codeIn K cd20 "window" = true) (k20 : PySem.W.keepIn K (.ref f20) = true)
    {f21 : Addr} {od21 an21 : Option Addr} {sl21 : Array (Option Value)} {oc21 kV21 dc21 pm21 cd21 ct21 : Value}
    (a21 : PySem.W.nsIn K mainGlobals "window_at" = some (some (.ref f21))) (l21 : K.lookup f21 = some ⟨oc21, od21, .func (PySem.W.fnOf "window_at" "window_at" (defArgs s_window_at) (defBody s_window_at) (defScope s_window_at) .none kV21 dc21 pm21 an21 cd21 ct21), sl21⟩) (c21 : PySem.W.codeIn K cd21 "window_at" = true) (k21 : PySem.W.keepIn K (.ref f21) = true)
    {f22 : Addr} {od22 an22 : Option Addr} {sl22 : Array (Option Value)} {oc22 kV22 dc22 pm22 cd22 ct22 : Value}
    (a22 : PySem.W.nsIn K mainGlobals "_law_source" = some (some (.ref f22))) (l22 : K.lookup f22 = some ⟨oc22, od22, .func (PySem.W.fnOf "_law_source" "_law_source" (defArgs s_l_source) (defBody s_l_source) (defScope s_l_source) .none kV22 dc22 pm22 an22 cd22 ct22), sl22⟩) (c22 : PySem.W.codeIn K cd22 "_law_source" = true) (k22 : PySem.W.keepIn K (.ref f22) = true)
    {f23 : Addr} {od23 an23 : Option Addr} {sl23 : Array (Option Value)} {oc23 kV23 dc23 pm23 cd23 ct23 : Value}
    (a23 : PySem.W.nsIn K mainGlobals "_law_draw" = some (some (.ref f23))) (l23 : K.lookup f23 = some ⟨oc23, od23, .func (PySem.W.fnOf "_law_draw" "_law_draw" (defArgs s_l_draw) (defBody s_l_draw) (defScope s_l_draw) .none kV23 dc23 pm23 an23 cd23 ct23), sl23⟩) (c23 : PySem.W.codeIn K cd23 "_law_draw" = true) (k23 : PySem.W.keepIn K (.ref f23) = true)
    {f24 : Addr} {od24 an24 : Option Addr} {sl24 : Array (Option Value)} {oc24 kV24 dc24 pm24 cd24 ct24 : Value}
    (a24 : PySem.W.nsIn K mainGlobals "_law_choice" = some (some (.ref f24))) (l24 : K.lookup f24 = some ⟨oc24, od24, .func (PySem.W.fnOf "_law_choice" "_law_choice" (defArgs s_l_choice) (defBody s_l_choice) (defScope s_l_choice) .none kV24 dc24 pm24 an24 cd24 ct24), sl24⟩) (c24 : PySem.W.codeIn K cd24 "_law_choice" = true) (k24 : PySem.W.keepIn K (.ref f24) = true)
    {f25 : Addr} {od25 an25 : Option Addr} {sl25 : Array (Option Value)} {oc25 kV25 dc25 pm25 cd25 ct25 : Value}
    (a25 : PySem.W.nsIn K mainGlobals "_law_equal" = some (some (.ref f25))) (l25 : K.lookup f25 = some ⟨oc25, od25, .func (PySem.W.fnOf "_law_equal" "_law_equal" (defArgs s_l_equal) (defBody s_l_equal) (defScope s_l_equal) .none kV25 dc25 pm25 an25 cd25 ct25), sl25⟩) (c25 : PySem.W.codeIn K cd25 "_law_equal" = true) (k25 : PySem.W.keepIn K (.ref f25) = true)
    {f26 : Addr} {od26 an26 : Option Addr} {sl26 : Array (Option Value)} {oc26 kV26 dc26 pm26 cd26 ct26 : Value}
    (a26 : PySem.W.nsIn K mainGlobals "_law_divisor" = some (some (.ref f26))) (l26 : K.lookup f26 = some ⟨oc26, od26, .func (PySem.W.fnOf "_law_divisor" "_law_divisor" (defArgs s_l_divisor) (defBody s_l_divisor) (defScope s_l_divisor) .none kV26 dc26 pm26 an26 cd26 ct26), sl26⟩) (c26 : PySem.W.codeIn K cd26 "_law_divisor" = true) (k26 : PySem.W.keepIn K (.ref f26) = true)
    {f27 : Addr} {od27 an27 : Option Addr} {sl27 : Array (Option Value)} {oc27 kV27 dc27 pm27 cd27 ct27 : Value}
    (a27 : PySem.W.nsIn K mainGlobals "_law_reduce" = some (some (.ref f27))) (l27 : K.lookup f27 = some ⟨oc27, od27, .func (PySem.W.fnOf "_law_reduce" "_law_reduce" (defArgs s_l_reduce) (defBody s_l_reduce) (defScope s_l_reduce) .none kV27 dc27 pm27 an27 cd27 ct27), sl27⟩) (c27 : PySem.W.codeIn K cd27 "_law_reduce" = true) (k27 : PySem.W.keepIn K (.ref f27) = true)
    {f28 : Addr} {od28 an28 : Option Addr} {sl28 : Array (Option Value)} {oc28 kV28 dc28 pm28 cd28 ct28 : Value}
    (a28 : PySem.W.nsIn K mainGlobals "_law_add" = some (some (.ref f28))) (l28 : K.lookup f28 = some ⟨oc28, od28, .func (PySem.W.fnOf "_law_add" "_law_add" (defArgs s_l_add) (defBody s_l_add) (defScope s_l_add) .none kV28 dc28 pm28 an28 cd28 ct28), sl28⟩) (c28 : PySem.W.codeIn K cd28 "_law_add" = true) (k28 : PySem.W.keepIn K (.ref f28) = true)
    {f29 : Addr} {od29 an29 : Option Addr} {sl29 : Array (Option Value)} {oc29 kV29 dc29 pm29 cd29 ct29 : Value}
    (a29 : PySem.W.nsIn K mainGlobals "_law_subtract" = some (some (.ref f29))) (l29 : K.lookup f29 = some ⟨oc29, od29, .func (PySem.W.fnOf "_law_subtract" "_law_subtract" (defArgs s_l_subtract) (defBody s_l_subtract) (defScope s_l_subtract) .none kV29 dc29 pm29 an29 cd29 ct29), sl29⟩) (c29 : PySem.W.codeIn K cd29 "_law_subtract" = true) (k29 : PySem.W.keepIn K (.ref f29) = true)
    {f30 : Addr} {od30 an30 : Option Addr} {sl30 : Array (Option Value)} {oc30 kV30 dc30 pm30 cd30 ct30 : Value}
    (a30 : PySem.W.nsIn K mainGlobals "_law_multiply" = some (some (.ref f30))) (l30 : K.lookup f30 = some ⟨oc30, od30, .func (PySem.W.fnOf "_law_multiply" "_law_multiply" (defArgs s_l_multiply) (defBody s_l_multiply) (defScope s_l_multiply) .none kV30 dc30 pm30 an30 cd30 ct30), sl30⟩) (c30 : PySem.W.codeIn K cd30 "_law_multiply" = true) (k30 : PySem.W.keepIn K (.ref f30) = true)
    {f31 : Addr} {od31 an31 : Option Addr} {sl31 : Array (Option Value)} {oc31 kV31 dc31 pm31 cd31 ct31 : Value}
    (a31 : PySem.W.nsIn K mainGlobals "_law_divide" = some (some (.ref f31))) (l31 : K.lookup f31 = some ⟨oc31, od31, .func (PySem.W.fnOf "_law_divide" "_law_divide" (defArgs s_l_divide) (defBody s_l_divide) (defScope s_l_divide) .none kV31 dc31 pm31 an31 cd31 ct31), sl31⟩) (c31 : PySem.W.codeIn K cd31 "_law_divide" = true) (k31 : PySem.W.keepIn K (.ref f31) = true)
    {f32 : Addr} {od32 an32 : Option Addr} {sl32 : Array (Option Value)} {oc32 kV32 dc32 pm32 cd32 ct32 : Value}
    (a32 : PySem.W.nsIn K mainGlobals "_law_less" = some (some (.ref f32))) (l32 : K.lookup f32 = some ⟨oc32, od32, .func (PySem.W.fnOf "_law_less" "_law_less" (defArgs s_l_less) (defBody s_l_less) (defScope s_l_less) .none kV32 dc32 pm32 an32 cd32 ct32), sl32⟩) (c32 : PySem.W.codeIn K cd32 "_law_less" = true) (k32 : PySem.W.keepIn K (.ref f32) = true)
    {f33 : Addr} {od33 an33 : Option Addr} {sl33 : Array (Option Value)} {oc33 kV33 dc33 pm33 cd33 ct33 : Value}
    (a33 : PySem.W.nsIn K mainGlobals "_law_times" = some (some (.ref f33))) (l33 : K.lookup f33 = some ⟨oc33, od33, .func (PySem.W.fnOf "_law_times" "_law_times" (defArgs s_l_times) (defBody s_l_times) (defScope s_l_times) .none kV33 dc33 pm33 an33 cd33 ct33), sl33⟩) (c33 : PySem.W.codeIn K cd33 "_law_times" = true) (k33 : PySem.W.keepIn K (.ref f33) = true)
    {f34 : Addr} {od34 an34 : Option Addr} {sl34 : Array (Option Value)} {oc34 kV34 dc34 pm34 cd34 ct34 : Value}
    (a34 : PySem.W.nsIn K mainGlobals "_law_floor" = some (some (.ref f34))) (l34 : K.lookup f34 = some ⟨oc34, od34, .func (PySem.W.fnOf "_law_floor" "_law_floor" (defArgs s_l_floor) (defBody s_l_floor) (defScope s_l_floor) .none kV34 dc34 pm34 an34 cd34 ct34), sl34⟩) (c34 : PySem.W.codeIn K cd34 "_law_floor" = true) (k34 : PySem.W.keepIn K (.ref f34) = true)
    {f35 : Addr} {od35 an35 : Option Addr} {sl35 : Array (Option Value)} {oc35 kV35 dc35 pm35 cd35 ct35 : Value}
    (a35 : PySem.W.nsIn K mainGlobals "_law_rest" = some (some (.ref f35))) (l35 : K.lookup f35 = some ⟨oc35, od35, .func (PySem.W.fnOf "_law_rest" "_law_rest" (defArgs s_l_rest) (defBody s_l_rest) (defScope s_l_rest) .none kV35 dc35 pm35 an35 cd35 ct35), sl35⟩) (c35 : PySem.W.codeIn K cd35 "_law_rest" = true) (k35 : PySem.W.keepIn K (.ref f35) = true)
    {f36 : Addr} {od36 an36 : Option Addr} {sl36 : Array (Option Value)} {oc36 kV36 dc36 pm36 cd36 ct36 : Value}
    (a36 : PySem.W.nsIn K mainGlobals "_law_small" = some (some (.ref f36))) (l36 : K.lookup f36 = some ⟨oc36, od36, .func (PySem.W.fnOf "_law_small" "_law_small" (defArgs s_l_small) (defBody s_l_small) (defScope s_l_small) .none kV36 dc36 pm36 an36 cd36 ct36), sl36⟩) (c36 : PySem.W.codeIn K cd36 "_law_small" = true) (k36 : PySem.W.keepIn K (.ref f36) = true)
    {f37 : Addr} {od37 an37 : Option Addr} {sl37 : Array (Option Value)} {oc37 kV37 dc37 pm37 cd37 ct37 : Value}
    (a37 : PySem.W.nsIn K mainGlobals "_law_wide" = some (some (.ref f37))) (l37 : K.lookup f37 = some ⟨oc37, od37, .func (PySem.W.fnOf "_law_wide" "_law_wide" (defArgs s_l_wide) (defBody s_l_wide) (defScope s_l_wide) .none kV37 dc37 pm37 an37 cd37 ct37), sl37⟩) (c37 : PySem.W.codeIn K cd37 "_law_wide" = true) (k37 : PySem.W.keepIn K (.ref f37) = true)
    {f38 : Addr} {od38 an38 : Option Addr} {sl38 : Array (Option Value)} {oc38 kV38 dc38 pm38 cd38 ct38 : Value}
    (a38 : PySem.W.nsIn K mainGlobals "_law_parts" = some (some (.ref f38))) (l38 : K.lookup f38 = some ⟨oc38, od38, .func (PySem.W.fnOf "_law_parts" "_law_parts" (defArgs s_l_parts) (defBody s_l_parts) (defScope s_l_parts) .none kV38 dc38 pm38 an38 cd38 ct38), sl38⟩) (c38 : PySem.W.codeIn K cd38 "_law_parts" = true) (k38 : PySem.W.keepIn K (.ref f38) = true)
    {f39 : Addr} {od39 an39 : Option Addr} {sl39 : Array (Option Value)} {oc39 kV39 dc39 pm39 cd39 ct39 : Value}
    (a39 : PySem.W.nsIn K mainGlobals "_law_gate" = some (some (.ref f39))) (l39 : K.lookup f39 = some ⟨oc39, od39, .func (PySem.W.fnOf "_law_gate" "_law_gate" (defArgs s_l_gate) (defBody s_l_gate) (defScope s_l_gate) .none kV39 dc39 pm39 an39 cd39 ct39), sl39⟩) (c39 : PySem.W.codeIn K cd39 "_law_gate" = true) (k39 : PySem.W.keepIn K (.ref f39) = true)
    {f40 : Addr} {od40 an40 : Option Addr} {sl40 : Array (Option Value)} {oc40 kV40 dc40 pm40 cd40 ct40 : Value}
    (a40 : PySem.W.nsIn K mainGlobals "_law_copied_gate" = some (some (.ref f40))) (l40 : K.lookup f40 = some ⟨oc40, od40, .func (PySem.W.fnOf "_law_copied_gate" "_law_copied_gate" (defArgs s_l_copied_gate) (defBody s_l_copied_gate) (defScope s_l_copied_gate) .none kV40 dc40 pm40 an40 cd40 ct40), sl40⟩) (c40 : PySem.W.codeIn K cd40 "_law_copied_gate" = true) (k40 : PySem.W.keepIn K (.ref f40) = true)
    {f41 : Addr} {od41 an41 : Option Addr} {sl41 : Array (Option Value)} {oc41 kV41 dc41 pm41 cd41 ct41 : Value}
    (a41 : PySem.W.nsIn K mainGlobals "_law_shut_by" = some (some (.ref f41))) (l41 : K.lookup f41 = some ⟨oc41, od41, .func (PySem.W.fnOf "_law_shut_by" "_law_shut_by" (defArgs s_l_shut_by) (defBody s_l_shut_by) (defScope s_l_shut_by) .none kV41 dc41 pm41 an41 cd41 ct41), sl41⟩) (c41 : PySem.W.codeIn K cd41 "_law_shut_by" = true) (k41 : PySem.W.keepIn K (.ref f41) = true)
    {f42 : Addr} {od42 an42 : Option Addr} {sl42 : Array (Option Value)} {oc42 kV42 dc42 pm42 cd42 ct42 : Value}
    (a42 : PySem.W.nsIn K mainGlobals "_law_is_open" = some (some (.ref f42))) (l42 : K.lookup f42 = some ⟨oc42, od42, .func (PySem.W.fnOf "_law_is_open" "_law_is_open" (defArgs s_l_is_open) (defBody s_l_is_open) (defScope s_l_is_open) .none kV42 dc42 pm42 an42 cd42 ct42), sl42⟩) (c42 : PySem.W.codeIn K cd42 "_law_is_open" = true) (k42 : PySem.W.keepIn K (.ref f42) = true)
    {f43 : Addr} {od43 an43 : Option Addr} {sl43 : Array (Option Value)} {oc43 kV43 dc43 pm43 cd43 ct43 : Value}
    (a43 : PySem.W.nsIn K mainGlobals "_law_normal" = some (some (.ref f43))) (l43 : K.lookup f43 = some ⟨oc43, od43, .func (PySem.W.fnOf "_law_normal" "_law_normal" (defArgs s_l_normal) (defBody s_l_normal) (defScope s_l_normal) .none kV43 dc43 pm43 an43 cd43 ct43), sl43⟩) (c43 : PySem.W.codeIn K cd43 "_law_normal" = true) (k43 : PySem.W.keepIn K (.ref f43) = true)
    {f44 : Addr} {od44 an44 : Option Addr} {sl44 : Array (Option Value)} {oc44 kV44 dc44 pm44 cd44 ct44 : Value}
    (a44 : PySem.W.nsIn K mainGlobals "_law_window" = some (some (.ref f44))) (l44 : K.lookup f44 = some ⟨oc44, od44, .func (PySem.W.fnOf "_law_window" "_law_window" (defArgs s_l_window) (defBody s_l_window) (defScope s_l_window) .none kV44 dc44 pm44 an44 cd44 ct44), sl44⟩) (c44 : PySem.W.codeIn K cd44 "_law_window" = true) (k44 : PySem.W.keepIn K (.ref f44) = true)
    {f45 : Addr} {od45 an45 : Option Addr} {sl45 : Array (Option Value)} {oc45 kV45 dc45 pm45 cd45 ct45 : Value}
    (a45 : PySem.W.nsIn K mainGlobals "_law_near_moment" = some (some (.ref f45))) (l45 : K.lookup f45 = some ⟨oc45, od45, .func (PySem.W.fnOf "_law_near_moment" "_law_near_moment" (defArgs s_l_near_moment) (defBody s_l_near_moment) (defScope s_l_near_moment) .none kV45 dc45 pm45 an45 cd45 ct45), sl45⟩) (c45 : PySem.W.codeIn K cd45 "_law_near_moment" = true) (k45 : PySem.W.keepIn K (.ref f45) = true)
    {f46 : Addr} {od46 an46 : Option Addr} {sl46 : Array (Option Value)} {oc46 kV46 dc46 pm46 cd46 ct46 : Value}
    (a46 : PySem.W.nsIn K mainGlobals "law" = some (some (.ref f46))) (l46 : K.lookup f46 = some ⟨oc46, od46, .func (PySem.W.fnOf "law" "law" (defArgs s_law) (defBody s_law) (defScope s_law) .none kV46 dc46 pm46 an46 cd46 ct46), sl46⟩) (c46 : PySem.W.codeIn K cd46 "law" = true) (k46 : PySem.W.keepIn K (.ref f46) = true)
    (z0 : PySem.W.nsIn K mainGlobals "abs" = some none)
    (z1 : PySem.W.nsIn K mainGlobals "len" = some none)
    (z2 : PySem.W.nsIn K mainGlobals "all" = some none)
    (z3 : PySem.W.nsIn K mainGlobals "any" = some none)
    (z4 : PySem.W.nsIn K mainGlobals "zip" = some none)
    (z5 : PySem.W.nsIn K mainGlobals "list" = some none)
    (z6 : PySem.W.nsIn K mainGlobals "range" = some none)
    (z7 : PySem.W.nsIn K mainGlobals "tuple" = some none)
    (z8 : PySem.W.nsIn K mainGlobals "divmod" = some none)
    (z9 : PySem.W.nsIn K mainGlobals "enumerate" = some none)
    (z10 : PySem.W.nsIn K mainGlobals "isinstance" = some none)
    (z11 : PySem.W.nsIn K mainGlobals "bool" = some none)
    (z12 : PySem.W.nsIn K mainGlobals "int" = some none)
    (z13 : PySem.W.nsIn K mainGlobals "str" = some none)
    (z14 : PySem.W.nsIn K mainGlobals "sorted" = some none)
    : ∃ fd : FuncData, (∀ (s : Shared) (v : Value), BindsTo s fd ⟨[v], []⟩ [("_law_script", v)]) ∧ ∀ base : Heap, K.In base → base.Ns mainGlobals mg → FnOk l.prog w K mg base CX0 9 fa fd ["_law_script"] (spLaw K) := by
  have e := hfa.symm.trans (PySem.W.mg_of X G a46)
  cases e
  have F0 := fun_mk (st := s_gcd) l0 c0 k0
  have b0 := F0.binds (ps := ["one", "other"]) fun _ _ _ _ _ _ us hl => match us, hl with | [_, _], _ => rfl
  have F1 : FunD K "fraction" "fraction" (defArgs s_fraction) (defBody s_fraction) (defScope s_fraction) [.int 1] [] f1 _ := ⟨⟨_, _, _, _, _, _, _, _, _, _, rfl, l1, c1, .inr ⟨by simp, _, _, _, _, rfl, t1, rfl, .cons ⟨_, rfl⟩ (.nil)⟩, .inl rfl⟩, k1⟩
  obtain ⟨ds1, vd1, b1⟩ := F1.binds1 (ps := ["num", "den"]) 2 1 (by simp) (by decide) (fun T kV dc pm an cd ct us its h1 h2 => match us, h1, its, h2 with | [_, _], _, [_], _ => ⟨_, rfl, rfl⟩)
  cases vd1
  have F2 := fun_mk (st := s_add) l2 c2 k2
  have b2 := F2.binds (ps := ["one", "other"]) fun _ _ _ _ _ _ us hl => match us, hl with | [_, _], _ => rfl
  have F3 := fun_mk (st := s_subtract) l3 c3 k3
  have b3 := F3.binds (ps := ["one", "other"]) fun _ _ _ _ _ _ us hl => match us, hl with | [_, _], _ => rfl
  have F4 := fun_mk (st := s_multiply) l4 c4 k4
  have b4 := F4.binds (ps := ["one", "other"]) fun _ _ _ _ _ _ us hl => match us, hl with | [_, _], _ => rfl
  have F5 := fun_mk (st := s_divide) l5 c5 k5
  have b5 := F5.binds (ps := ["one", "other"]) fun _ _ _ _ _ _ us hl => match us, hl with | [_, _], _ => rfl
  have F6 := fun_mk (st := s_is_less) l6 c6 k6
  have b6 := F6.binds (ps := ["one", "other"]) fun _ _ _ _ _ _ us hl => match us, hl with | [_, _], _ => rfl
  have F7 := fun_mk (st := s_floor_of) l7 c7 k7
  have b7 := F7.binds (ps := ["one"]) fun _ _ _ _ _ _ us hl => match us, hl with | [_], _ => rfl
  have F8 := fun_mk (st := s_remainder) l8 c8 k8
  have b8 := F8.binds (ps := ["one", "period"]) fun _ _ _ _ _ _ us hl => match us, hl with | [_, _], _ => rfl
  have F9 := fun_mk (st := s_span_ends) l9 c9 k9
  have b9 := F9.binds (ps := ["spans"]) fun _ _ _ _ _ _ us hl => match us, hl with | [_], _ => rfl
  have F10 := fun_mk (st := s_next_begins) l10 c10 k10
  have b10 := F10.binds (ps := ["period", "spans"]) fun _ _ _ _ _ _ us hl => match us, hl with | [_, _], _ => rfl
  have F11 := fun_mk (st := s_fits) l11 c11 k11
  have b11 := F11.binds (ps := ["span", "period"]) fun _ _ _ _ _ _ us hl => match us, hl with | [_, _], _ => rfl
  have F12 := fun_mk (st := s_is_gate) l12 c12 k12
  have b12 := F12.binds (ps := ["gate"]) fun _ _ _ _ _ _ us hl => match us, hl with | [_], _ => rfl
  have F13 := fun_mk (st := s_repeats) l13 c13 k13
  have b13 := F13.binds (ps := ["spans", "many", "period"]) fun _ _ _ _ _ _ us hl => match us, hl with | [_, _, _], _ => rfl
  have F14 := fun_mk (st := s_least_form) l14 c14 k14
  have b14 := F14.binds (ps := ["place", "period", "spans"]) fun _ _ _ _ _ _ us hl => match us, hl with | [_, _, _], _ => rfl
  have F15 := fun_mk (st := s_normal_gate) l15 c15 k15
  have b15 := F15.binds (ps := ["gate"]) fun _ _ _ _ _ _ us hl => match us, hl with | [_], _ => rfl
  have F16 := fun_mk (st := s_shut_until) l16 c16 k16
  have b16 := F16.binds (ps := ["gate", "moment"]) fun _ _ _ _ _ _ us hl => match us, hl with | [_, _], _ => rfl
  have F17 := fun_mk (st := s_is_open) l17 c17 k17
  have b17 := F17.binds (ps := ["gate", "moment"]) fun _ _ _ _ _ _ us hl => match us, hl with | [_, _], _ => rfl
  have F18 := fun_mk (st := s_first_windows) l18 c18 k18
  have b18 := F18.binds (ps := ["gate"]) fun _ _ _ _ _ _ us hl => match us, hl with | [_], _ => rfl
  have F19 := fun_mk (st := s_periods_later) l19 c19 k19
  have b19 := F19.binds (ps := ["moment", "periods", "period"]) fun _ _ _ _ _ _ us hl => match us, hl with | [_, _, _], _ => rfl
  have F20 := fun_mk (st := s_window) l20 c20 k20
  have b20 := F20.binds (ps := ["gate", "number"]) fun _ _ _ _ _ _ us hl => match us, hl with | [_, _], _ => rfl
  have F21 := fun_mk (st := s_window_at) l21 c21 k21
  have b21 := F21.binds (ps := ["gate", "moment"]) fun _ _ _ _ _ _ us hl => match us, hl with | [_, _], _ => rfl
  have F22 := fun_mk (st := s_l_source) l22 c22 k22
  have b22 := F22.binds (ps := ["_law_script"]) fun _ _ _ _ _ _ us hl => match us, hl with | [_], _ => rfl
  have F23 := fun_mk (st := s_l_draw) l23 c23 k23
  have b23 := F23.binds (ps := ["_law_rng", "_law_many"]) fun _ _ _ _ _ _ us hl => match us, hl with | [_, _], _ => rfl
  have F24 := fun_mk (st := s_l_choice) l24 c24 k24
  have b24 := F24.binds (ps := ["_law_rng", "_law_some"]) fun _ _ _ _ _ _ us hl => match us, hl with | [_, _], _ => rfl
  have F25 := fun_mk (st := s_l_equal) l25 c25 k25
  have b25 := F25.binds (ps := ["_law_result", "_law_expected"]) fun _ _ _ _ _ _ us hl => match us, hl with | [_, _], _ => rfl
  have F26 := fun_mk (st := s_l_divisor) l26 c26 k26
  have b26 := F26.binds (ps := ["_law_one", "_law_other"]) fun _ _ _ _ _ _ us hl => match us, hl with | [_, _], _ => rfl
  have F27 := fun_mk (st := s_l_reduce) l27 c27 k27
  have b27 := F27.binds (ps := ["_law_num", "_law_den"]) fun _ _ _ _ _ _ us hl => match us, hl with | [_, _], _ => rfl
  have F28 := fun_mk (st := s_l_add) l28 c28 k28
  have b28 := F28.binds (ps := ["_law_one", "_law_other"]) fun _ _ _ _ _ _ us hl => match us, hl with | [_, _], _ => rfl
  have F29 := fun_mk (st := s_l_subtract) l29 c29 k29
  have b29 := F29.binds (ps := ["_law_one", "_law_other"]) fun _ _ _ _ _ _ us hl => match us, hl with | [_, _], _ => rfl
  have F30 := fun_mk (st := s_l_multiply) l30 c30 k30
  have b30 := F30.binds (ps := ["_law_one", "_law_other"]) fun _ _ _ _ _ _ us hl => match us, hl with | [_, _], _ => rfl
  have F31 := fun_mk (st := s_l_divide) l31 c31 k31
  have b31 := F31.binds (ps := ["_law_one", "_law_other"]) fun _ _ _ _ _ _ us hl => match us, hl with | [_, _], _ => rfl
  have F32 := fun_mk (st := s_l_less) l32 c32 k32
  have b32 := F32.binds (ps := ["_law_one", "_law_other"]) fun _ _ _ _ _ _ us hl => match us, hl with | [_, _], _ => rfl
  have F33 := fun_mk (st := s_l_times) l33 c33 k33
  have b33 := F33.binds (ps := ["_law_number", "_law_one"]) fun _ _ _ _ _ _ us hl => match us, hl with | [_, _], _ => rfl
  have F34 := fun_mk (st := s_l_floor) l34 c34 k34
  have b34 := F34.binds (ps := ["_law_one"]) fun _ _ _ _ _ _ us hl => match us, hl with | [_], _ => rfl
  have F35 := fun_mk (st := s_l_rest) l35 c35 k35
  have b35 := F35.binds (ps := ["_law_one", "_law_period"]) fun _ _ _ _ _ _ us hl => match us, hl with | [_, _], _ => rfl
  have F36 := fun_mk (st := s_l_small) l36 c36 k36
  have b36 := F36.binds (ps := ["_law_rng"]) fun _ _ _ _ _ _ us hl => match us, hl with | [_], _ => rfl
  have F37 := fun_mk (st := s_l_wide) l37 c37 k37
  have b37 := F37.binds (ps := ["_law_rng"]) fun _ _ _ _ _ _ us hl => match us, hl with | [_], _ => rfl
  have F38 := fun_mk (st := s_l_parts) l38 c38 k38
  have b38 := F38.binds (ps := ["_law_rng", "_law_low", "_law_great"]) fun _ _ _ _ _ _ us hl => match us, hl with | [_, _, _], _ => rfl
  have F39 := fun_mk (st := s_l_gate) l39 c39 k39
  have b39 := F39.binds (ps := ["_law_rng", "_law_place", "_law_most"]) fun _ _ _ _ _ _ us hl => match us, hl with | [_, _, _], _ => rfl
  have F40 := fun_mk (st := s_l_copied_gate) l40 c40 k40
  have b40 := F40.binds (ps := ["_law_rng", "_law_gate_here"]) fun _ _ _ _ _ _ us hl => match us, hl with | [_, _], _ => rfl
  have F41 := fun_mk (st := s_l_shut_by) l41 c41 k41
  have b41 := F41.binds (ps := ["_law_gate_here", "_law_moment"]) fun _ _ _ _ _ _ us hl => match us, hl with | [_, _], _ => rfl
  have F42 := fun_mk (st := s_l_is_open) l42 c42 k42
  have b42 := F42.binds (ps := ["_law_gate_here", "_law_moment"]) fun _ _ _ _ _ _ us hl => match us, hl with | [_, _], _ => rfl
  have F43 := fun_mk (st := s_l_normal) l43 c43 k43
  have b43 := F43.binds (ps := ["_law_gate_here"]) fun _ _ _ _ _ _ us hl => match us, hl with | [_], _ => rfl
  have F44 := fun_mk (st := s_l_window) l44 c44 k44
  have b44 := F44.binds (ps := ["_law_gate_here", "_law_number"]) fun _ _ _ _ _ _ us hl => match us, hl with | [_, _], _ => rfl
  have F45 := fun_mk (st := s_l_near_moment) l45 c45 k45
  have b45 := F45.binds (ps := ["_law_rng", "_law_gate_here"]) fun _ _ _ _ _ _ us hl => match us, hl with | [_, _], _ => rfl
  have F46 := fun_mk (st := s_law) l46 c46 k46
  have b46 := F46.binds (ps := ["_law_script"]) fun _ _ _ _ _ _ us hl => match us, hl with | [_], _ => rfl
  exact ⟨PySem.W.fnOf "law" "law" (defArgs s_law) (defBody s_law) (defScope s_law) .none kV46 dc46 pm46 an46 cd46 ct46, fun s v => .of_eq rfl, fun base _ _ => ok_law ⟨_, PySem.W.mg_of X G ak_ZERO, fun H => .inr ⟨_, _, _, lk_ZERO, rfl, rfl, sizeLine2 (by simp), .cons ⟨_, rfl⟩ (.cons ⟨_, rfl⟩ .nil)⟩, _, PySem.W.mg_of X G ak_ONE, fun H => .inr ⟨_, _, _, lk_ONE, rfl, rfl, sizeLine2 (by simp), .cons ⟨_, rfl⟩ (.cons ⟨_, rfl⟩ .nil)⟩, _, PySem.W.mg_of X G ak_MAX_SPANS, ⟨_, _, F0, b0, PySem.W.mg_of X G a0⟩, _, _, F1, b1, PySem.W.mg_of X G a1, ⟨_, _, F2, b2, PySem.W.mg_of X G a2⟩, ⟨_, _, F3, b3, PySem.W.mg_of X G a3⟩, ⟨_, _, F4, b4, PySem.W.mg_of X G a4⟩, ⟨_, _, F5, b5, PySem.W.mg_of X G a5⟩, ⟨_, _, F6, b6, PySem.W.mg_of X G a6⟩, ⟨_, _, F7, b7, PySem.W.mg_of X G a7⟩, ⟨_, _, F8, b8, PySem.W.mg_of X G a8⟩, ⟨_, _, F9, b9, PySem.W.mg_of X G a9⟩, ⟨_, _, F10, b10, PySem.W.mg_of X G a10⟩, ⟨_, _, F11, b11, PySem.W.mg_of X G a11⟩, ⟨_, _, F12, b12, PySem.W.mg_of X G a12⟩, ⟨_, _, F13, b13, PySem.W.mg_of X G a13⟩, ⟨_, _, F14, b14, PySem.W.mg_of X G a14⟩, ⟨_, _, F15, b15, PySem.W.mg_of X G a15⟩, ⟨_, _, F16, b16, PySem.W.mg_of X G a16⟩, ⟨_, _, F17, b17, PySem.W.mg_of X G a17⟩, ⟨_, _, F18, b18, PySem.W.mg_of X G a18⟩, ⟨_, _, F19, b19, PySem.W.mg_of X G a19⟩, ⟨_, _, F20, b20, PySem.W.mg_of X G a20⟩, ⟨_, _, F21, b21, PySem.W.mg_of X G a21⟩, ⟨_, _, F22, b22, PySem.W.mg_of X G a22⟩, ⟨_, _, F23, b23, PySem.W.mg_of X G a23⟩, ⟨_, _, F24, b24, PySem.W.mg_of X G a24⟩, ⟨_, _, F25, b25, PySem.W.mg_of X G a25⟩, ⟨_, _, F26, b26, PySem.W.mg_of X G a26⟩, ⟨_, _, F27, b27, PySem.W.mg_of X G a27⟩, ⟨_, _, F28, b28, PySem.W.mg_of X G a28⟩, ⟨_, _, F29, b29, PySem.W.mg_of X G a29⟩, ⟨_, _, F30, b30, PySem.W.mg_of X G a30⟩, ⟨_, _, F31, b31, PySem.W.mg_of X G a31⟩, ⟨_, _, F32, b32, PySem.W.mg_of X G a32⟩, ⟨_, _, F33, b33, PySem.W.mg_of X G a33⟩, ⟨_, _, F34, b34, PySem.W.mg_of X G a34⟩, ⟨_, _, F35, b35, PySem.W.mg_of X G a35⟩, ⟨_, _, F36, b36, PySem.W.mg_of X G a36⟩, ⟨_, _, F37, b37, PySem.W.mg_of X G a37⟩, ⟨_, _, F38, b38, PySem.W.mg_of X G a38⟩, ⟨_, _, F39, b39, PySem.W.mg_of X G a39⟩, ⟨_, _, F40, b40, PySem.W.mg_of X G a40⟩, ⟨_, _, F41, b41, PySem.W.mg_of X G a41⟩, ⟨_, _, F42, b42, PySem.W.mg_of X G a42⟩, ⟨_, _, F43, b43, PySem.W.mg_of X G a43⟩, ⟨_, _, F44, b44, PySem.W.mg_of X G a44⟩, ⟨_, _, F45, b45, PySem.W.mg_of X G a45⟩, ⟨_, _, F46, b46, PySem.W.mg_of X G a46⟩, PySem.W.mg_none_of X G z0, PySem.W.mg_none_of X G z1, PySem.W.mg_none_of X G z2, PySem.W.mg_none_of X G z3, PySem.W.mg_none_of X G z4, PySem.W.mg_none_of X G z5, PySem.W.mg_none_of X G z6, PySem.W.mg_none_of X G z7, PySem.W.mg_none_of X G z8, PySem.W.mg_none_of X G z9, PySem.W.mg_none_of X G z10, PySem.W.mg_none_of X G z11, PySem.W.mg_none_of X G z12, PySem.W.mg_none_of X G z13, PySem.W.mg_none_of X G z14⟩⟩
end EP
open PySem PySem.W PyProof.Rows
set_option maxHeartbeats 0 in
theorem PySem.Challenge.cw_evenpace_k11_windows_holds : PySem.Challenge.rw_evenpace_k11_windows.Holds := by
  w_on; o_law; k_head; (case hw => w_witness2)
  k_fill
  refine L2.walk_of (l := PySem.Challenge.rw_evenpace_k11_windows) (n := 63) (k := 9) (x := "_law_script") (CX := fun _ => L2.CX0) (sp := fun w => EP.spLaw _) rfl (by decide) rfl ⟨rfl, by decide, by decide⟩ (fun w h Y => PySem.W.kIn_of Y) ?F (fun _ _ a ns hl _ hS => ⟨a, ns, rfl, hS, hl, fun _ => rfl⟩) (fun _ _ _ _ _ h => h)
  case F =>
    intro w mg fa h KX G hmg
    refine' EP.all_mk KX G hmg ?ak_ZERO ?lk_ZERO ?ak_ONE ?lk_ONE ?ak_MAX_SPANS ?a0 ?l0 ?c0 ?k0 ?a1 ?l1 ?c1 ?k1 ?t1 ?a2 ?l2 ?c2 ?k2 ?a3 ?l3 ?c3 ?k3 ?a4 ?l4 ?c4 ?k4 ?a5 ?l5 ?c5 ?k5 ?a6 ?l6 ?c6 ?k6 ?a7 ?l7 ?c7 ?k7 ?a8 ?l8 ?c8 ?k8 ?a9 ?l9 ?c9 ?k9 ?a10 ?l10 ?c10 ?k10 ?a11 ?l11 ?c11 ?k11 ?a12 ?l12 ?c12 ?k12 ?a13 ?l13 ?c13 ?k13 ?a14 ?l14 ?c14 ?k14 ?a15 ?l15 ?c15 ?k15 ?a16 ?l16 ?c16 ?k16 ?a17 ?l17 ?c17 ?k17 ?a18 ?l18 ?c18 ?k18 ?a19 ?l19 ?c19 ?k19 ?a20 ?l20 ?c20 ?k20 ?a21 ?l21 ?c21 ?k21 ?a22 ?l22 ?c22 ?k22 ?a23 ?l23 ?c23 ?k23 ?a24 ?l24 ?c24 ?k24 ?a25 ?l25 ?c25 ?k25 ?a26 ?l26 ?c26 ?k26 ?a27 ?l27 ?c27 ?k27 ?a28 ?l28 ?c28 ?k28 ?a29 ?l29 ?c29 ?k29 ?a30 ?l30 ?c30 ?k30 ?a31 ?l31 ?c31 ?k31 ?a32 ?l32 ?c32 ?k32 ?a33 ?l33 ?c33 ?k33 ?a34 ?l34 ?c34 ?k34 ?a35 ?l35 ?c35 ?k35 ?a36 ?l36 ?c36 ?k36 ?a37 ?l37 ?c37 ?k37 ?a38 ?l38 ?c38 ?k38 ?a39 ?l39 ?c39 ?k39 ?a40 ?l40 ?c40 ?k40 ?a41 ?l41 ?c41 ?k41 ?a42 ?l42 ?c42 ?k42 ?a43 ?l43 ?c43 ?k43 ?a44 ?l44 ?c44 ?k44 ?a45 ?l45 ?c45 ?k45 ?a46 ?l46 ?c46 ?k46 ?z0 ?z1 ?z2 ?z3 ?z4 ?z5 ?z6 ?z7 ?z8 ?z9 ?z10 ?z11 ?z12 ?z13 ?z14
    (case ak_ZERO => k_is)
    (case lk_ZERO => k_is)
    (case ak_ONE => k_is)
    (case lk_ONE => k_is)
    (case ak_MAX_SPANS => k_is)
    (case a0 => k_is)
    (case l0 => k_is)
    (case c0 => k_is)
    (case k0 => k_is)
    (case a1 => k_is)
    (case l1 => k_is)
    (case c1 => k_is)
    (case k1 => k_is)
    (case t1 => k_is)
    (case a2 => k_is)
    (case l2 => k_is)
    (case c2 => k_is)
    (case k2 => k_is)
    (case a3 => k_is)
    (case l3 => k_is)
    (case c3 => k_is)
    (case k3 => k_is)
    (case a4 => k_is)
    (case l4 => k_is)
    (case c4 => k_is)
    (case k4 => k_is)
    (case a5 => k_is)
    (case l5 => k_is)
    (case c5 => k_is)
    (case k5 => k_is)
    (case a6 => k_is)
    (case l6 => k_is)
    (case c6 => k_is)
    (case k6 => k_is)
    (case a7 => k_is)
    (case l7 => k_is)
    (case c7 => k_is)
    (case k7 => k_is)
    (case a8 => k_is)
    (case l8 => k_is)
    (case c8 => k_is)
    (case k8 => k_is)
    (case a9 => k_is)
    (case l9 => k_is)
    (case c9 => k_is)
    (case k9 => k_is)
    (case a10 => k_is)
    (case l10 => k_is)
    (case c10 => k_is)
    (case k10 => k_is)
    (case a11 => k_is)
    (case l11 => k_is)
    (case c11 => k_is)
    (case k11 => k_is)
    (case a12 => k_is)
    (case l12 => k_is)
    (case c12 => k_is)
    (case k12 => k_is)
    (case a13 => k_is)
    (case l13 => k_is)
    (case c13 => k_is)
    (case k13 => k_is)
    (case a14 => k_is)
    (case l14 => k_is)
    (case c14 => k_is)
    (case k14 => k_is)
    (case a15 => k_is)
    (case l15 => k_is)
    (case c15 => k_is)
    (case k15 => k_is)
    (case a16 => k_is)
    (case l16 => k_is)
    (case c16 => k_is)
    (case k16 => k_is)
    (case a17 => k_is)
    (case l17 => k_is)
    (case c17 => k_is)
    (case k17 => k_is)
    (case a18 => k_is)
    (case l18 => k_is)
    (case c18 => k_is)
    (case k18 => k_is)
    (case a19 => k_is)
    (case l19 => k_is)
    (case c19 => k_is)
    (case k19 => k_is)
    (case a20 => k_is)
    (case l20 => k_is)
    (case c20 => k_is)
    (case k20 => k_is)
    (case a21 => k_is)
    (case l21 => k_is)
    (case c21 => k_is)
    (case k21 => k_is)
    (case a22 => k_is)
    (case l22 => k_is)
    (case c22 => k_is)
    (case k22 => k_is)
    (case a23 => k_is)
    (case l23 => k_is)
    (case c23 => k_is)
    (case k23 => k_is)
    (case a24 => k_is)
    (case l24 => k_is)
    (case c24 => k_is)
    (case k24 => k_is)
    (case a25 => k_is)
    (case l25 => k_is)
    (case c25 => k_is)
    (case k25 => k_is)
    (case a26 => k_is)
    (case l26 => k_is)
    (case c26 => k_is)
    (case k26 => k_is)
    (case a27 => k_is)
    (case l27 => k_is)
    (case c27 => k_is)
    (case k27 => k_is)
    (case a28 => k_is)
    (case l28 => k_is)
    (case c28 => k_is)
    (case k28 => k_is)
    (case a29 => k_is)
    (case l29 => k_is)
    (case c29 => k_is)
    (case k29 => k_is)
    (case a30 => k_is)
    (case l30 => k_is)
    (case c30 => k_is)
    (case k30 => k_is)
    (case a31 => k_is)
    (case l31 => k_is)
    (case c31 => k_is)
    (case k31 => k_is)
    (case a32 => k_is)
    (case l32 => k_is)
    (case c32 => k_is)
    (case k32 => k_is)
    (case a33 => k_is)
    (case l33 => k_is)
    (case c33 => k_is)
    (case k33 => k_is)
    (case a34 => k_is)
    (case l34 => k_is)
    (case c34 => k_is)
    (case k34 => k_is)
    (case a35 => k_is)
    (case l35 => k_is)
    (case c35 => k_is)
    (case k35 => k_is)
    (case a36 => k_is)
    (case l36 => k_is)
    (case c36 => k_is)
    (case k36 => k_is)
    (case a37 => k_is)
    (case l37 => k_is)
    (case c37 => k_is)
    (case k37 => k_is)
    (case a38 => k_is)
    (case l38 => k_is)
    (case c38 => k_is)
    (case k38 => k_is)
    (case a39 => k_is)
    (case l39 => k_is)
    (case c39 => k_is)
    (case k39 => k_is)
    (case a40 => k_is)
    (case l40 => k_is)
    (case c40 => k_is)
    (case k40 => k_is)
    (case a41 => k_is)
    (case l41 => k_is)
    (case c41 => k_is)
    (case k41 => k_is)
    (case a42 => k_is)
    (case l42 => k_is)
    (case c42 => k_is)
    (case k42 => k_is)
    (case a43 => k_is)
    (case l43 => k_is)
    (case c43 => k_is)
    (case k43 => k_is)
    (case a44 => k_is)
    (case l44 => k_is)
    (case c44 => k_is)
    (case k44 => k_is)
    (case a45 => k_is)
    (case l45 => k_is)
    (case c45 => k_is)
    (case k45 => k_is)
    (case a46 => k_is)
    (case l46 => k_is)
    (case c46 => k_is)
    (case k46 => k_is)
    (case z0 => k_is)
    (case z1 => k_is)
    (case z2 => k_is)
    (case z3 => k_is)
    (case z4 => k_is)
    (case z5 => k_is)
    (case z6 => k_is)
    (case z7 => k_is)
    (case z8 => k_is)
    (case z9 => k_is)
    (case z10 => k_is)
    (case z11 => k_is)
    (case z12 => k_is)
    (case z13 => k_is)
    (case z14 => k_is)
