import PyProof.Rows.All
import PyProof.FString3
import PyProof.Rows.StrIntSpec
import HandS.ForMost
import HandS.FStr
import HandS.Wide
import HandS.WideBits
import HandS.Style
import HandS.Star
import HandS.RevRange
import PySem.Challenge.RW_runroots_k34_rests_by_a_member
set_option Elab.async false
set_option linter.all false
set_option maxRecDepth 100000
set_option maxHeartbeats 1000000
namespace RR
open PySem PySem.Spec PyProof.Rows L2 PySem.Builtin PySem.Builtin.Float
/-- a number's signs to the base two -/
def binL (n : Nat) : List Nat := (Nat.toDigits 2 n).map Char.toNat
def binS (n : Nat) : Str := ⟨(binL n).toArray⟩
def specB : FormatSpec := { align := 62, type := some 98 }
theorem parse_b (k : String) : parseFormatSpec (Str.ofString "b").cps.toList k 62 = .ok specB := rfl
theorem field_b {D : List Nat} (hD : D ≠ []) : intField' specB false [] D [] 4 = ⟨D.toArray⟩ := by
  have e : D.isEmpty = false := by cases D with
    | nil => exact absurd rfl hD
    | cons _ _ => rfl
  have p : ((-1 : Int) - 0 - (D.length : Int)).toNat = 0 := by omega
  simp [intField', specB, e, p]
theorem binL_ne (n : Nat) : binL n ≠ [] := by
  intro h
  have h2 : Nat.toDigits 2 n = [] := List.map_eq_nil_iff.mp h
  have := Nat.length_toDigits_pos (b := 2) (n := n)
  rw [h2] at this
  exact absurd this (by simp)
section
variable {prog : Program} {w : World} {A : Around} {E : Value → Shared → Prop} {s : Shared}
theorem bin_spec {n : Nat} {t : Tok} {Q : Value → Shared → Prop} (hl : (binS n).length ≤ sizeLine)
    (h : Q (.str (binS n) (s.toks + 1)) { s with toks := s.toks + 1 + 1 }) : wpAny (model prog w) A (formatField (.int (n : Int) t) (Str.ofString "b")) Q E s := by
  show wpAny _ _ (holding [Value.int (n : Int) t] (pyFormat (Value.int (n : Int) t) (Str.ofString "b"))) Q E s
  refine wpAny_holding ?_
  unfold pyFormat
  refine wpAny_bind (wpAny_mkStr ?_ (by decide))
  refine wpAny_bind (m := callSpecial? (.int (n : Int) t) (Str.ofString "__format__") [.str (Str.ofString "b") s.toks])
    (wpAny_callSpecial?_slot (name := Str.ofString "__format__") (typeIs_int _ _ t) slot_int_format ?_)
  refine wpAny_call (codeAny_call_builtin slot_int_format.plain entry_int_format
    (slot_int_format.check _ _ _ _ _ _ _ _ (typeIs_int _ _ t) (args_int_format _ _) ?_))
  unfold Builtin.«int.__format__»
  simp only [selfAndOne, noKeywords, Int.intOfSelf, asInt?, asStr?, List.isEmpty_nil, if_true, pure_bind, bind_assoc, Bool.false_eq_true, if_false,
    show ((Str.ofString "b").length == 0) = false by decide,
    show (((Str.ofString "b").cps.toList.drop 1).any (· ≥ 128) || ((Str.ofString "b").cps.getD 0 0 ≥ 128 && !([60, 62, 61, 94] : List Nat).contains ((Str.ofString "b").cps.getD 1 0))) = false by decide,
    show (Value.str (Str.ofString "b") s.toks == Value.none) = false from rfl]
  refine wpAny_bind (wpAny_typeNameOf (T := "str") (typeIs_str _ _ _) (by decide) fun _ => ?_)
  refine wpAny_bind (wpAny_typeNameOfCut_int ?_)
  obtain ⟨f, hf⟩ : ∃ f, f = specB := ⟨_, rfl⟩
  have hty : f.type.getD (if (Str.ofString "b").cps.back? == some 0 then 0 else 100) = 98 := by rw [hf]; rfl
  have hpr : f.precision.isSome = false := by rw [hf]; rfl
  have hz : f.noNeg0 = false := by rw [hf]; rfl
  have hal : f.alt = false := by rw [hf]; rfl
  have hw : f.width.getD 0 = 0 := by rw [hf]; rfl
  simp only [parse_b, ← hf, hty]
  rw [if_pos (by decide)]
  show wpAny _ _ (if _ then _ else _) _ _ _
  rw [if_neg (by simp [hpr])]
  show wpAny _ _ (if _ then _ else _) _ _ _
  rw [if_neg (by simp [hz])]
  show wpAny _ _ (if _ then _ else _) _ _ _
  rw [if_neg (by decide)]
  show wpAny _ _ (if _ then _ else _) _ _ _
  rw [if_neg (by decide)]
  show wpAny _ _ (if _ then _ else _) _ _ _
  rw [if_neg (by simp [hw])]
  show wpAny _ _ (retStr _) _ _ _
  unfold retStr
  have hneg : decide ((n : Int) < 0) = false := decide_eq_false (by omega)
  have key : intField' f (decide ((n : Int) < 0)) (if f.alt = true then [] else []) ((Nat.toDigits 2 (n : Int).natAbs).map fun c => (if (98 : Nat) == 88 then c.toUpper else c).toNat) [] 4 = binS n := by
    rw [hneg, hf]
    exact field_b (binL_ne n)
  have hl2 := key ▸ hl
  have h2 := key ▸ h
  clear h hl
  subst hf
  refine wpAny_bind (wpAny_mkStr (wpAny_pure ?_) hl2)
  exact wpAny_bind (wpAny_isInstance (typeIs_str _ _ _) isSubtype_str_str (wpAny_pure h2))
end
end RR
namespace RR
open PySem PySem.Spec PyProof.Rows L2
section
variable {X : Cx}
/-- f'{x:b}' of an int from 0 on -/
def tFmtB (te : TE) : TE := fun σ H Q => te σ H fun x H1 => ∃ n : Nat, x = .int n ∧ (binS n).length ≤ sizeLine ∧ Q (.str (binS n)) H1
theorem pe_fmtB {e : Expr} {te : TE} {k : Nat} {p1 p2 p3 p4 : Pos} (he : PE X e te) :
    PE X (.JoinedStr [.FormattedValue e (-1) (some (.JoinedStr [.Constant (.str "b") k p1] p2)) p3] p4) (tFmtB te) := by
  refine pe_joined1 ⟨fun pins s σ H Q I h => ?_⟩
  refine wpAny_FormattedValue_spec (thn (he.run pins s σ H _ I h) fun v s1 hv => ?_)
  obtain ⟨x, H1, I1, r1, n, rfl, hl, q⟩ := hv
  obtain ⟨t, rfl⟩ := r1
  refine wpAny_JoinedStr_one (Calls.Constant_str ⟨_, _, rfl, ?_⟩)
  exact bin_spec hl ⟨.str (binS n), H1, (I1.tok _).tok _, ⟨_, rfl⟩, q⟩
end
end RR

namespace RR
open PySem PySem.Spec PyProof.Rows L2
/-- a def of the text, as callers see it -/
structure Cal (P : Program) (w : World) (K : PySem.W.Frag) (mg : Str → Option Value) (base : Heap) (x : Str) (k : Nat) (ps : List Str) (sp : Sp) : Prop where
  ex : ∃ (f : Addr) (fd : FuncData), FnOk P w K mg base L2.CX0 k f fd ps sp ∧ mg x = some (.ref f) ∧ PySem.W.keepIn K (.ref f) = true ∧ Binds K fd ps []
theorem Cal.mk' {P : Program} {w : World} {K : PySem.W.Frag} {mg : Str → Option Value} {base : Heap} {x : Str} {k : Nat} {ps : List Str} {sp : Sp} {f : Addr} {fd : FuncData}
    (F : FnOk P w K mg base L2.CX0 k f fd ps sp) (g : mg x = some (.ref f)) (kp : PySem.W.keepIn K (.ref f) = true) (b : Binds K fd ps []) : Cal P w K mg base x k ps sp := ⟨f, fd, F, g, kp, b⟩
section
variable {X : Cx}
def tCal (sp : Sp) (t : TA) : TE := fun σ H Q => t σ H fun vs H1 => sp vs H1 Q L2.E0
theorem pe_cal {x : Str} {k : Nat} {ps : List Str} {sp : Sp} {p pos : Pos} {e : Expr} {es : List Expr} {t : TA} (C : Cal X.prog X.w X.K X.mg X.base x k ps sp) (hr : Room k X.A) (hg : Gl X x) (ha : PA X (e :: es) t)
    (hdb : (x == ("__debug__" : Str)) = false := by decide) (he : starEach (e :: es) X.env = (false, eval e X.env) :: starEach es X.env := by rfl) (hpl : (backTo pos (starEach es X.env)).any (·.1) = false := by rfl) :
    PE X (.Call (.Name x p) (e :: es) [] pos) (tCal sp t) := by
  obtain ⟨f, fd, F, g, kp, b⟩ := C.ex
  have h := pe_call (p := p) (pos := pos) F hr hg g kp b .nil L2.pass0 ha hdb he hpl
  refine ⟨fun pins s σ H Q I q => h.run pins s σ H Q I ?_⟩
  have e0 : tCall sp [] L2.E0 t σ H Q = tCal sp t σ H Q := by
    unfold tCall tCal
    simp only [List.append_nil]
  rw [e0]
  exact q
end
/-- int(x) of an int -/
theorem call_intI {X : Cx} : CallR X (.type "int") (fun xs H Q => ∃ i, xs = [.int i] ∧ Q (.int i) H) := fun pins s σ H xs us Q I r h => call_int1 pins s σ H xs us Q I r (.inl h)
/-- a loop over a text's signs -/
theorem for_str {x : Str} {g : TG} {tb : TS} {D : Ends} {σ : L2.St} {H : Hp} (Pv : Nat → L2.St → Hp → Prop) (h0 : Pv 0 σ H)
    (hs : ∀ i c σ H, x.cps[i]? = some c → Pv i σ H → g (.str ⟨#[c]⟩) σ H fun σ2 H2 => tb { D with nx := Pv (i + 1), ct := Pv (i + 1), bk := D.nx } σ2 H2) (hd : ∀ σ H, Pv x.cps.size σ H → D.nx σ H) :
    ∃ W : Nat → Nat → L2.St → Hp → Prop, (∃ m, W 0 m σ H) ∧ ∀ i m σ H, W i m σ H →
      ((Its x).stop i H ∧ D.nx σ H) ∨ ((Its x).go i H ∧ ∃ N : L2.St → Hp → Prop, (∀ σ' H', N σ' H' → ∃ m', m' < m ∧ W (i + 1) m' σ' H') ∧ ∀ v H', (Its x).yld i H v H' → g v σ H' fun σ2 H2 => tb { D with nx := N, ct := N, bk := D.nx } σ2 H2) := by
  refine ⟨fun i m σ H => m = x.cps.size - i ∧ i ≤ x.cps.size ∧ Pv i σ H, ⟨x.cps.size, by simp, Nat.zero_le _, h0⟩, ?_⟩
  rintro i m σ H ⟨rfl, hi, p⟩
  by_cases hlt : i < x.cps.size
  · refine .inr ⟨hlt, Pv (i + 1), fun σ' H' p' => ⟨x.cps.size - (i + 1), by omega, rfl, hlt, p'⟩, fun v H' y => ?_⟩
    obtain ⟨e, c, hc, e2⟩ := y
    subst e e2
    exact hs i c σ _ hc p
  · have e : i = x.cps.size := by omega
    subst e
    exact .inl ⟨Nat.le_refl _, hd σ H p⟩
/-- for k in range(n), the turn's number from 0 on -/
theorem for_rng {n : Nat} {g : TG} {tb : TS} {D : Ends} {σ : L2.St} {H : Hp} (Pv : Nat → L2.St → Hp → Prop) (h0 : Pv 0 σ H)
    (hs : ∀ i σ H, i < n → Pv i σ H → g (.int (i : Int)) σ H fun σ2 H2 => tb { D with nx := Pv (i + 1), ct := Pv (i + 1), bk := D.nx } σ2 H2) (hd : ∀ σ H, Pv n σ H → D.nx σ H) :
    ∃ W : Nat → Nat → L2.St → Hp → Prop, (∃ m, W 0 m σ H) ∧ ∀ i m σ H, W i m σ H →
      ((Itr 0 n).stop i H ∧ D.nx σ H) ∨ ((Itr 0 n).go i H ∧ ∃ N : L2.St → Hp → Prop, (∀ σ' H', N σ' H' → ∃ m', m' < m ∧ W (i + 1) m' σ' H') ∧
        ∀ x H', (Itr 0 n).yld i H x H' → g x σ H' fun σ2 H2 => tb { D with nx := N, ct := N, bk := D.nx } σ2 H2) :=
  for_range (lo := 0) (n := n) (g := g) (tb := tb) (D := D) Pv h0 (fun i σ H hi p => by rw [Int.zero_add]; exact hs i σ H hi p) hd
theorem tC_go {v : V} {σ : L2.St} {H : Hp} {Q : VK} (q : Q v H) : tC v σ H Q := q
theorem tNil_go {σ : L2.St} {H : Hp} {Q : List V → Hp → Prop} (q : Q [] H) : tNil σ H Q := q
theorem dV (x y : Int) : decide (V.int x = V.int y) = decide (x = y) := by
  by_cases h : x = y
  · rw [decide_eq_true h, decide_eq_true (by rw [h])]
  · rw [decide_eq_false h, decide_eq_false (fun e => h (V.int.inj e))]
theorem dB (x y : Bool) : decide (V.bl x = V.bl y) = decide (x = y) := by cases x <;> cases y <;> rfl
/-! heaps -/
theorem same_upd {H : Hp} {p : Addr} {o : HO} (h : H p = none) : Same H (upd H p o) := fun b x e => by
  rw [upd_ne (ne_of_none e h)]
  exact e
theorem sq_new {K : PySem.W.Frag} {H : Hp} {p : Addr} {xs : List V} : SqT K (upd H p (.tup xs)) p xs := .inl (.inl upd_same)
theorem sq_of {K : PySem.W.Frag} {H : Hp} {p : Addr} {xs : List V} (h : H p = some (.tup xs)) : SqT K H p xs := .inl (.inl h)
theorem gTup_new {K : PySem.W.Frag} {n : Nat} {t : TGs} {σ : L2.St} {H : Hp} {Q : L2.St → Hp → Prop} {p : Addr} {xs : List V} (h : xs.length = n) (q : t xs σ (upd H p (.tup xs)) Q) :
    gTup K n t (.ref p) σ (upd H p (.tup xs)) Q := ⟨p, xs, rfl, sq_new, h, q⟩
theorem gTup_as {K : PySem.W.Frag} {n : Nat} {t : TGs} {σ : L2.St} {H : Hp} {Q : L2.St → Hp → Prop} {p : Addr} {xs : List V} (hS : SqT K H p xs) (h : xs.length = n) (q : t xs σ H Q) :
    gTup K n t (.ref p) σ H Q := ⟨p, xs, rfl, hS, h, q⟩
theorem ixT_new {K : PySem.W.Frag} {H : Hp} {Q : VK} {p : Addr} {xs : List V} {i : Int} {v : V} (h : atI xs i = some v) (q : Q v (upd H p (.tup xs))) :
    rIxT K (.ref p) (.int i) (upd H p (.tup xs)) Q := ⟨p, xs, i, v, rfl, rfl, sq_new, h, q⟩
theorem ixT_as {K : PySem.W.Frag} {H : Hp} {Q : VK} {p : Addr} {xs : List V} {i : Int} {v : V} (hS : SqT K H p xs) (h : atI xs i = some v) (q : Q v H) :
    rIxT K (.ref p) (.int i) H Q := ⟨p, xs, i, v, rfl, rfl, hS, h, q⟩
theorem ixL_as {K : PySem.W.Frag} {H : Hp} {Q : VK} {p : Addr} {xs : List V} {i : Int} {v : V} (hS : SqL K H p xs) (h : atI xs i = some v) (q : Q v H) :
    rIxL K (.ref p) (.int i) H Q := ⟨p, xs, i, v, rfl, rfl, hS, h, q⟩
/-! sizes -/
/-- below 2 ^ k -/
def Sm (k : Nat) (x : Int) : Prop := x.natAbs < 2 ^ k
theorem Sm.mono {j k : Nat} {x : Int} (h : Sm j x) (l : j ≤ k) : Sm k x := Nat.lt_of_lt_of_le h (Nat.pow_le_pow_right (by omega) l)
theorem Sm.mul {j k : Nat} {x y : Int} (h : Sm j x) (l : Sm k y) : Sm (j + k) (x * y) := wide_lt h l
theorem Sm.add {k : Nat} {x y : Int} (h : Sm k x) (l : Sm k y) : Sm (k + 1) (x + y) := by
  unfold Sm at *
  have : (x + y).natAbs ≤ x.natAbs + y.natAbs := Int.natAbs_add_le x y
  rw [Nat.pow_succ]
  omega
theorem Sm.neg {k : Nat} {x : Int} (h : Sm k x) : Sm k (-x) := by
  unfold Sm at *
  omega
theorem Sm.sub {k : Nat} {x y : Int} (h : Sm k x) (l : Sm k y) : Sm (k + 1) (x - y) := by
  have := h.add l.neg
  rwa [← Int.sub_eq_add_neg] at this
theorem Sm.ad {j k : Nat} {x y : Int} (h : Sm j x) (l : Sm k y) : Sm (j + k + 1) (x + y) := (h.mono (Nat.le_add_right j k)).add (l.mono (Nat.le_add_left k j))
theorem Sm.sb {j k : Nat} {x y : Int} (h : Sm j x) (l : Sm k y) : Sm (j + k + 1) (x - y) := (h.mono (Nat.le_add_right j k)).sub (l.mono (Nat.le_add_left k j))
theorem Sm.lit {k : Nat} {x : Int} (h : x.natAbs < 2 ^ k := by decide) : Sm k x := h
theorem Sm.le {k : Nat} {x y : Int} (h : Sm k y) (h0 : 0 ≤ x) (h1 : x ≤ y) : Sm k x := by
  unfold Sm at *
  omega
theorem Sm.pw {j : Nat} {x : Int} (h : Sm j x) (n : Nat) : Sm (j * n + 1) (x ^ n) := by
  induction n with
  | zero => rw [Int.pow_zero]; exact (Sm.lit (k := 1)).mono (by omega)
  | succ n ih => rw [Int.pow_succ]; exact (ih.mul h).mono (by rw [Nat.mul_succ]; omega)
/-- what * asks -/
theorem Sm.mx {j k : Nat} {x y : Int} (h : Sm j x) (l : Sm k y) (b : j + k ≤ 134217728) : CMulX x y := mulx_ok h l b
end RR

namespace RR
/-! the pairs of a base -/
def XY (a : Int) : Nat → Int × Int
  | 0 => (1, 0)
  | n + 1 => (a * (XY a n).1 + (a * a - 1) * (XY a n).2, (XY a n).1 + a * (XY a n).2)
def px (a : Int) (n : Nat) : Int := (XY a n).1
def py (a : Int) (n : Nat) : Int := (XY a n).2
theorem px0 (a : Int) : px a 0 = 1 := rfl
theorem py0 (a : Int) : py a 0 = 0 := rfl
theorem px1 (a : Int) (n : Nat) : px a (n + 1) = a * px a n + (a * a - 1) * py a n := rfl
theorem py1 (a : Int) (n : Nat) : py a (n + 1) = px a n + a * py a n := rfl
theorem pell (a : Int) (n : Nat) : px a n * px a n - (a * a - 1) * (py a n * py a n) = 1 := by
  induction n with
  | zero => rw [px0, py0]; omega
  | succ n ih => rw [px1, py1]; grind
theorem pxy_add (a : Int) (m n : Nat) : px a (m + n) = px a m * px a n + (a * a - 1) * (py a m * py a n) ∧ py a (m + n) = px a m * py a n + py a m * px a n := by
  induction n with
  | zero => rw [px0, py0, Nat.add_zero]; constructor <;> grind
  | succ n ih =>
    obtain ⟨h1, h2⟩ := ih
    rw [← Nat.add_assoc, px1, py1, px1, py1, h1, h2]
    constructor <;> grind
theorem px_dbl (a : Int) (n : Nat) : px a (2 * n) = 2 * px a n * px a n - 1 := by
  rw [Nat.two_mul, (pxy_add a n n).1]
  have := pell a n
  grind
theorem py_dbl (a : Int) (n : Nat) : py a (2 * n) = 2 * px a n * py a n := by
  rw [Nat.two_mul, (pxy_add a n n).2]
  grind
theorem pxy_pos {a : Int} (ha : 2 ≤ a) (n : Nat) : 0 ≤ py a n ∧ py a n < px a n := by
  induction n with
  | zero => rw [px0, py0]; omega
  | succ n ih =>
    obtain ⟨h1, h2⟩ := ih
    rw [px1, py1]
    have e1 : a * a ≥ 2 * a := Int.mul_le_mul_of_nonneg_right ha (by omega)
    have e2 : a * px a n ≥ 2 * px a n := Int.mul_le_mul_of_nonneg_right ha (by omega)
    have e3 : (a * a - 1) * py a n ≥ a * py a n := Int.mul_le_mul_of_nonneg_right (by omega) h1
    have e4 : 0 ≤ a * py a n := Int.mul_nonneg (by omega) h1
    omega
theorem px_mono1 {a : Int} (ha : 2 ≤ a) (n : Nat) : px a n ≤ px a (n + 1) := by
  obtain ⟨h1, h2⟩ := pxy_pos ha n
  rw [px1]
  have e1 : a * a ≥ 2 * a := Int.mul_le_mul_of_nonneg_right ha (by omega)
  have e2 : a * px a n ≥ 2 * px a n := Int.mul_le_mul_of_nonneg_right ha (by omega)
  have e3 : 0 ≤ (a * a - 1) * py a n := Int.mul_nonneg (by omega) h1
  omega
theorem px_mono {a : Int} (ha : 2 ≤ a) {m n : Nat} (h : m ≤ n) : px a m ≤ px a n := by
  induction h with
  | refl => exact Int.le_refl _
  | step _ ih => exact Int.le_trans ih (px_mono1 ha _)
/-! signs to the base two -/
def bval (l : List Nat) : Nat := l.foldl (fun v c => 2 * v + (c - 48)) 0
theorem bval_snoc (l : List Nat) (c : Nat) : bval (l ++ [c]) = 2 * bval l + (c - 48) := by
  unfold bval
  rw [List.foldl_append]
  rfl
theorem dig2 {d : Nat} (h : d < 2) : (Nat.digitChar d).toNat = 48 + d := by
  match d, h with
  | 0, _ => rfl
  | 1, _ => rfl
theorem binL_lt {n : Nat} (h : n < 2) : binL n = [48 + n] := by
  unfold binL
  rw [Nat.toDigits_of_lt_base h, List.map_singleton, dig2 h]
theorem binL_ge {n : Nat} (h : 2 ≤ n) : binL n = binL (n / 2) ++ [48 + n % 2] := by
  unfold binL
  rw [Nat.toDigits_of_base_le (by decide) h, List.map_append, List.map_singleton, dig2 (Nat.mod_lt _ (by decide))]
theorem bval_bin (n : Nat) : bval (binL n) = n := by
  induction n using Nat.strongRecOn with
  | ind n ih =>
    by_cases h : n < 2
    · rw [binL_lt h]
      show 2 * 0 + (48 + n - 48) = n
      omega
    · rw [binL_ge (by omega), bval_snoc, ih (n / 2) (by omega)]
      omega
theorem bin_mem (n : Nat) : ∀ c ∈ binL n, c = 48 ∨ c = 49 := by
  induction n using Nat.strongRecOn with
  | ind n ih =>
    intro c hc
    by_cases h : n < 2
    · rw [binL_lt h, List.mem_singleton] at hc
      omega
    · rw [binL_ge (by omega), List.mem_append, List.mem_singleton] at hc
      rcases hc with hc | hc
      · exact ih (n / 2) (by omega) c hc
      · omega
theorem bval_take {l : List Nat} {i c : Nat} (h : l[i]? = some c) : bval (l.take (i + 1)) = 2 * bval (l.take i) + (c - 48) := by
  rw [List.take_add_one, h]
  exact bval_snoc _ c
theorem fold_ge (m : List Nat) : ∀ v : Nat, v ≤ m.foldl (fun v c => 2 * v + (c - 48)) v := by
  induction m with
  | nil => intro v; exact Nat.le_refl _
  | cons c m ih =>
    intro v
    have := ih (2 * v + (c - 48))
    rw [List.foldl_cons]
    omega
theorem bval_app (l m : List Nat) : bval l ≤ bval (l ++ m) := by
  unfold bval
  rw [List.foldl_append]
  exact fold_ge m _
theorem bval_le (l : List Nat) (i : Nat) : bval (l.take i) ≤ bval l := by
  have := bval_app (l.take i) (l.drop i)
  rwa [List.take_append_drop] at this
theorem bin_len {n k : Nat} (h : n < 2 ^ k) (hk : 0 < k) : (binS n).length ≤ k := by
  show (binL n).toArray.size ≤ k
  rw [List.size_toArray]
  unfold binL
  rw [List.length_map]
  exact (Nat.length_toDigits_le_iff (by decide) hk).mpr h
end RR
namespace RR
theorem rest_dx (a : Int) (v : Nat) (m : Int) : (2 * (px a v % m) * (px a v % m) - 1) % m = (2 * px a v * px a v - 1) % m := by
  rw [Int.sub_emod, Int.mul_emod, Int.mul_emod 2, Int.emod_emod, ← Int.mul_emod 2, ← Int.mul_emod, ← Int.sub_emod]
theorem rest_dy (a : Int) (v : Nat) (m : Int) : (2 * (px a v % m) * (py a v % m)) % m = (2 * px a v * py a v) % m := by
  rw [Int.mul_emod, Int.mul_emod 2, Int.emod_emod, Int.emod_emod, ← Int.mul_emod 2, ← Int.mul_emod]
theorem modeq {m a b : Int} (k : Int) (h : a - b = m * k) : a % m = b % m :=
  Int.emod_eq_emod_iff_emod_sub_eq_zero.mpr (Int.emod_eq_zero_of_dvd ⟨k, h⟩)
theorem rest_nx (a x y m : Int) : (a * x + (a * a - 1) * y) % m = ((a % m) * (x % m) + ((a % m) * (a % m) - 1) * (y % m)) % m := by
  have h1 := Int.mul_ediv_add_emod a m
  have h2 := Int.mul_ediv_add_emod x m
  have h3 := Int.mul_ediv_add_emod y m
  generalize a % m = A at *
  generalize x % m = X at *
  generalize y % m = Y at *
  generalize a / m = q1 at *
  generalize x / m = q2 at *
  generalize y / m = q3 at *
  exact modeq (q1 * x + A * q2 + (a * a - 1) * q3 + q1 * (a + A) * Y) (by grind)
theorem rest_ny (a x y m : Int) : (x + a * y) % m = ((x % m) + (a % m) * (y % m)) % m := by
  have h1 := Int.mul_ediv_add_emod a m
  have h2 := Int.mul_ediv_add_emod x m
  have h3 := Int.mul_ediv_add_emod y m
  generalize a % m = A at *
  generalize x % m = X at *
  generalize y % m = Y at *
  generalize a / m = q1 at *
  generalize x / m = q2 at *
  generalize y / m = q3 at *
  exact modeq (q2 + q1 * y + A * q3) (by grind)
end RR
namespace RR
theorem px_step {a : Int} (ha : 2 ≤ a) (n : Nat) : (a * a - 1) * py a n ≤ a * px a n := by
  induction n with
  | zero => rw [px0, py0]; omega
  | succ n ih =>
    obtain ⟨h1, h2⟩ := pxy_pos ha n
    rw [px1, py1]
    have : a * (a * px a n + (a * a - 1) * py a n) - (a * a - 1) * (px a n + a * py a n) = px a n := by grind
    omega
theorem px_pow {a : Int} (ha : 2 ≤ a) (n : Nat) : px a n ≤ (2 * a) ^ n := by
  induction n with
  | zero => rw [px0, Int.pow_zero]; exact Int.le_refl _
  | succ n ih =>
    have h := px_step ha n
    rw [px1, Int.pow_succ]
    have e := Int.mul_le_mul_of_nonneg_right ih (show 0 ≤ 2 * a by omega)
    have : px a n * (2 * a) = a * px a n + a * px a n := by grind
    omega
theorem px_nat {a : Int} (ha : 2 ≤ a) (n B : Nat) (hB : 2 * a ≤ 2 ^ B) : (px a n).natAbs < 2 ^ (B * n + 1) := by
  have h := px_pow ha n
  have h0 := pxy_pos ha n
  have h2 : (2 * a) ^ n ≤ ((2 : Int) ^ B) ^ n := by
    have hp : ∀ k : Nat, (2 * a) ^ k ≤ ((2 : Int) ^ B) ^ k ∧ 0 ≤ (2 * a) ^ k := by
      intro k
      induction k with
      | zero => exact ⟨by rw [Int.pow_zero, Int.pow_zero]; exact Int.le_refl _, by rw [Int.pow_zero]; decide⟩
      | succ k ih =>
        rw [Int.pow_succ, Int.pow_succ]
        exact ⟨Int.mul_le_mul ih.1 hB (by omega) (Int.le_trans ih.2 ih.1), Int.mul_nonneg ih.2 (by omega)⟩
    exact (hp n).1
  have e : ((2 : Int) ^ B) ^ n = ((2 ^ (B * n) : Nat) : Int) := by
    rw [← Int.pow_mul]
    exact (Int.natCast_pow 2 (B * n)).symm
  rw [e] at h2
  rw [Nat.pow_succ]
  generalize (2 : Nat) ^ (B * n) = P at *
  omega
/-- what a power of x leaves -/
theorem px_power (a x : Int) (n : Nat) : ∃ k, px a n - py a n * (a - x) - x ^ n = (2 * a * x - x * x - 1) * k := by
  induction n with
  | zero => exact ⟨0, by rw [px0, py0, Int.pow_zero]; omega⟩
  | succ n ih =>
    obtain ⟨k, hk⟩ := ih
    refine ⟨x * k + py a n, ?_⟩
    rw [px1, py1, Int.pow_succ]
    grind
theorem px_cong (a b m : Int) (k : Int) (h : a - b = m * k) (n : Nat) : (∃ q, px a n - px b n = m * q) ∧ ∃ q, py a n - py b n = m * q := by
  induction n with
  | zero => exact ⟨⟨0, by rw [px0, px0]; omega⟩, ⟨0, by rw [py0, py0]; omega⟩⟩
  | succ n ih =>
    obtain ⟨⟨q, hq⟩, ⟨r, hr⟩⟩ := ih
    refine ⟨⟨k * px a n + b * q + (a * a - 1) * r + k * (a + b) * py b n, ?_⟩, ⟨q + k * py a n + b * r, ?_⟩⟩
    · rw [px1, px1]; grind
    · rw [py1, py1]; grind
end RR

namespace RR
/-- law k34's first loop: the rests of X(j) by X(n) -/
def goJ (a base wanted n i : Int) : Nat → Int → Int → Int → Bool
  | 0, _, _, _ => true
  | f + 1, j, x, y => ((x % base == wanted) == (((j - i) % (4 * n) == 0) || ((j + i) % (4 * n) == 0))) && goJ a base wanted n i f (j + 1) ((a * x + (a * a - 1) * y) % base) ((x + a * y) % base)
def chkJ : Bool := (List.range 19).all fun a => (List.range 6).all fun n => (List.range (n + 1)).all fun i =>
  goJ (a + 2) (px (a + 2) (n + 1)) (px (a + 2) (i + 1) % px (a + 2) (n + 1)) (n + 1) (i + 1) 61 0 1 0
set_option maxHeartbeats 0 in
theorem chkJ_ok : chkJ = true := by decide +kernel
theorem goJ_spec {a base wanted n i : Int} : ∀ (f j0 : Nat) (x y : Int), x % base = px a j0 % base → y % base = py a j0 % base → goJ a base wanted n i f j0 x y = true →
    ∀ k : Nat, k < f → decide (px a (j0 + k) % base = wanted) = (decide (((j0 + k : Nat) - i) % (4 * n) = 0) || decide (((j0 + k : Nat) + i) % (4 * n) = 0)) := by
  intro f
  induction f with
  | zero => intro _ _ _ _ _ _ k hk; omega
  | succ f ih =>
    intro j0 x y hx hy h k hk
    unfold goJ at h
    rw [Bool.and_eq_true] at h
    obtain ⟨h1, h2⟩ := h
    match k with
    | 0 =>
      rw [hx] at h1
      exact eq_of_beq h1
    | k + 1 =>
      have hx2 : ((a * x + (a * a - 1) * y) % base) % base = px a (j0 + 1) % base := by
        rw [px1, Int.emod_emod, rest_nx a x y, rest_nx a (px a j0), hx, hy]
      have hy2 : ((x + a * y) % base) % base = py a (j0 + 1) % base := by
        rw [py1, Int.emod_emod, rest_ny a x y, rest_ny a (px a j0), hx, hy]
      have := ih (j0 + 1) _ _ hx2 hy2 (by exact_mod_cast h2) k (by omega)
      rw [show j0 + (k + 1) = j0 + 1 + k by omega]
      exact this
theorem loopJ {a n i : Nat} (ha : a < 19) (hn : n < 6) (hi : i ≤ n) (j : Nat) (hj : j < 61) :
    decide (px (a + 2) j % px (a + 2) (n + 1) = px (a + 2) (i + 1) % px (a + 2) (n + 1)) = (decide (((j : Int) - (i + 1)) % (4 * (n + 1)) = 0) || decide (((j : Int) + (i + 1)) % (4 * (n + 1)) = 0)) := by
  have h := chkJ_ok
  unfold chkJ at h
  have h1 := List.all_eq_true.mp h a (List.mem_range.mpr ha)
  have h2 := List.all_eq_true.mp h1 n (List.mem_range.mpr hn)
  have h3 := List.all_eq_true.mp h2 i (List.mem_range.mpr (by omega))
  have := goJ_spec 61 0 1 0 rfl rfl h3 j hj
  rw [Nat.zero_add] at this
  exact this
end RR

namespace RR
open PySem PySem.Spec PyProof.Rows L2
def topS (i : Nat) : Stmt := PySem.Challenge.pw_runroots_k34_rests_by_a_member.main.body.getD i (.Pass ⟨0, 0, 0, 0⟩)
abbrev s__doubled : Stmt := topS 3
theorem sc__doubled : FnScope ["x", "y"] ["x", "y"] (defScope s__doubled) := ⟨rfl, rfl, rfl, by decide +kernel, rfl, by decide +kernel, by decide +kernel⟩
abbrev s__next : Stmt := topS 4
theorem sc__next : FnScope ["x", "y", "a"] ["x", "y", "a"] (defScope s__next) := ⟨rfl, rfl, rfl, by decide +kernel, rfl, by decide +kernel, by decide +kernel⟩
abbrev s_pair : Stmt := topS 1
theorem sc_pair : FnScope ["n", "a", "x", "y", "digit"] ["n", "a"] (defScope s_pair) := ⟨rfl, rfl, rfl, by decide +kernel, rfl, by decide +kernel, by decide +kernel⟩
abbrev s__law_cell : Stmt := topS 8
theorem sc__law_cell : FnScope ["script", "k"] ["script", "k"] (defScope s__law_cell) := ⟨rfl, rfl, rfl, by decide +kernel, rfl, by decide +kernel, by decide +kernel⟩
abbrev s__rests : Stmt := topS 5
theorem sc__rests : FnScope ["numbers", "m", "x", "y"] ["numbers", "m"] (defScope s__rests) := ⟨rfl, rfl, rfl, by decide +kernel, rfl, by decide +kernel, by decide +kernel⟩
abbrev s_pair_rest : Stmt := topS 2
theorem sc_pair_rest : FnScope ["n", "a", "m", "x", "y", "base", "digit"] ["n", "a", "m"] (defScope s_pair_rest) := ⟨rfl, rfl, rfl, by decide +kernel, rfl, by decide +kernel, by decide +kernel⟩
abbrev s_law : Stmt := topS 11
theorem sc_law : FnScope ["script", "number", "a", "n", "i", "base", "wanted", "j", "same", "told", "modulus", "other", "k", "one", "two", "x", "power"] ["script"] (defScope s_law) := ⟨rfl, rfl, rfl, by decide +kernel, rfl, by decide +kernel, by decide +kernel⟩
local macro_rules | `(tactic| walk_at "sm") => `(tactic| first
  | assumption
  | exact Sm.lit (k := 64)
  | (refine' Sm.mul ?h1 ?h2; (case h1 => walk_at "sm"); (case h2 => walk_at "sm"))
  | (refine' Sm.ad ?h1 ?h2; (case h1 => walk_at "sm"); (case h2 => walk_at "sm"))
  | (refine' Sm.sb ?h1 ?h2; (case h1 => walk_at "sm"); (case h2 => walk_at "sm"))
  | (refine' Sm.neg ?h1; (case h1 => walk_at "sm"))
  | fail "sm")
local macro_rules | `(tactic| walk_at "rd") => `(tactic| repeat' first
  | (refine ⟨_, rfl, ?_⟩)
  | (refine ⟨_, _, rfl, rfl, ?_⟩)
  | (with_reducible refine tC_go ?_)
  | (with_reducible refine tNil_go ?_)
  | (with_reducible refine gTup_new (by with_unfolding_all rfl) ?_)
  | (with_reducible refine gTup_as (by first | exact sq_of (by assumption) | assumption) (by with_unfolding_all rfl) ?_)
  | (with_reducible refine ixT_new (by with_unfolding_all rfl) ?_)
  | (with_reducible refine ixT_as (by first | exact sq_of (by assumption) | assumption) (by with_unfolding_all rfl) ?_)
  | (refine ⟨_, _, (rfl : _ :: _ = _ :: _), ?_⟩)
  | (refine ⟨_, _, _, (rfl : _ :: _ = _ :: _), ?_⟩)
  | (refine ⟨rfl, ?_⟩)
  | (show _ ∧ _; refine And.intro (Sm.mx (by walk_at "sm") (by walk_at "sm") (by omega)) ?_)
  | (show _ ∧ _; refine And.intro (Nat.le_of_ble_eq_true rfl) ?_)
  | (show _ ∧ _; refine And.intro (by first | decide | omega | assumption) ?_)
  | (show _ ∧ _; refine And.intro (And.intro (by first | decide | omega) (by decide)) ?_)
  | fail "rd")

section
variable {P : Program} {w : World} {K : PySem.W.Frag} {mg : Str → Option Value} {base : Heap}
/-! steps -/
def sp__doubled (K : PySem.W.Frag) : Sp := fun vs H Q _ => ∃ (x y : Int) (B : Nat), vs = [.int x, .int y] ∧ Sm B x ∧ Sm B y ∧ B ≤ 10000000 ∧
  ∀ p, H p = none → Q (.ref p) (upd H p (.tup [.int (2 * x * x - 1), .int (2 * x * y)]))
theorem ok__doubled {f : Addr} {fd : FuncData} (F : Fun K "_doubled" "_doubled" s__doubled f fd)  : FnOk P w K mg base CX0 1 f fd ["x", "y"] (sp__doubled K) := by
  refine F.ok sc__doubled (fun vs H Q E h => ?_) (fun cdv A outer s H vs Q E hr h => ?_)
  · obtain ⟨x, y, B, rfl, _⟩ := h
    rfl
  · obtain ⟨x, y, B, rfl, hx, hy, hB, q⟩ := h
    refine ⟨_, (pss_one (ps_ret (pe_tup (pa_cons (pe_op op_sub (pe_op op_mulX (pe_op op_mulX pe_int (pv 0)) (pv 0)) pe_int) (pa_cons (pe_op op_mulX (pe_op op_mulX pe_int (pv 0)) (pv 1)) pa_nil))))), ?_⟩
    walk_at "rd"
    exact q
def sp__next (K : PySem.W.Frag) : Sp := fun vs H Q _ => ∃ (x y a : Int) (B : Nat), vs = [.int x, .int y, .int a] ∧ Sm B x ∧ Sm B y ∧ Sm B a ∧ B ≤ 10000000 ∧
  ∀ p, H p = none → Q (.ref p) (upd H p (.tup [.int (a * x + (a * a - 1) * y), .int (x + a * y)]))
theorem ok__next {f : Addr} {fd : FuncData} (F : Fun K "_next" "_next" s__next f fd)  : FnOk P w K mg base CX0 1 f fd ["x", "y", "a"] (sp__next K) := by
  refine F.ok sc__next (fun vs H Q E h => ?_) (fun cdv A outer s H vs Q E hr h => ?_)
  · obtain ⟨x, y, a, B, rfl, _⟩ := h
    rfl
  · obtain ⟨x, y, a, B, rfl, hx, hy, ha, hB, q⟩ := h
    refine ⟨_, (pss_one (ps_ret (pe_tup (pa_cons (pe_op op_add (pe_op op_mulX (pv 2) (pv 0)) (pe_op op_mulX (pe_op op_sub (pe_op op_mulX (pv 2) (pv 2)) pe_int) (pv 1))) (pa_cons (pe_op op_add (pv 0) (pe_op op_mulX (pv 2) (pv 1))) pa_nil))))), ?_⟩
    walk_at "rd"
    exact q
def sp_pair (K : PySem.W.Frag) : Sp := fun vs H Q _ => ∃ (n : Nat) (a : Int) (B : Nat), vs = [.int n, .int a] ∧ 2 ≤ a ∧ Sm B a ∧ Sm B (px a n) ∧ B ≤ 1000000 ∧ n < 2 ^ 10000 ∧
  ∀ H' p, Same H H' → H p = none → H' p = some (.tup [.int (px a n), .int (py a n)]) → Q (.ref p) H'
theorem ok_pair {f : Addr} {fd : FuncData} (F : Fun K "pair" "pair" s_pair f fd) (C__doubled : Cal P w K mg base "_doubled" 1 ["x", "y"] (sp__doubled K)) (C__next : Cal P w K mg base "_next" 1 ["x", "y", "a"] (sp__next K)) : FnOk P w K mg base CX0 2 f fd ["n", "a"] (sp_pair K) := by
  refine F.ok sc_pair (fun vs H Q E h => ?_) (fun cdv A outer s H vs Q E hr h => ?_)
  · obtain ⟨n, a, B, rfl, _⟩ := h
    rfl
  · obtain ⟨n, a, B, rfl, ha, sa, sx, hB, hn, q⟩ := h
    refine ⟨_, (pss_cons (ps_asg (pe_tup (pa_cons pe_int (pa_cons pe_int pa_nil))) (pg_tup (by rfl) (pgs_cons (pg_name (i := 2) sc_pair.nd rfl (.inl rfl)) (pgs_cons (pg_name (i := 3) sc_pair.nd rfl (.inl rfl)) pgs_nil))))
      (pss_cons (ps_for PassesOwn.never rfl (pi_str (pe_fmtB (pv 0))) (pg_name (i := 4) sc_pair.nd rfl (.inl rfl)) (pss_cons (ps_asg (pe_cal C__doubled hr (by rfl) (pa_cons (pv 2) (pa_cons (pv 3) pa_nil))) (pg_tup (by rfl) (pgs_cons (pg_name (i := 2) sc_pair.nd rfl (.inl rfl)) (pgs_cons (pg_name (i := 3) sc_pair.nd rfl (.inl rfl)) pgs_nil))))
      (pss_one (ps_if (pt_cmpR op_eq (pv 4) pe_str (nomark _)) (pss_one (ps_asg (pe_cal C__next hr (by rfl) (pa_cons (pv 2) (pa_cons (pv 3) (pa_cons (pv 1) pa_nil)))) (pg_tup (by rfl) (pgs_cons (pg_name (i := 2) sc_pair.nd rfl (.inl rfl)) (pgs_cons (pg_name (i := 3) sc_pair.nd rfl (.inl rfl)) pgs_nil))))) pss_nil))))
      (pss_one (ps_ret (pe_tup (pa_cons (pv 2) (pa_cons (pv 3) pa_nil))))))), ?_⟩
    walk_at "rd"
    intro c nc
    walk_at "rd"
    refine ⟨Nat.le_trans (bin_len hn (by decide)) (by decide), _, rfl, ?_⟩
    refine for_str (fun i σ H' => ∃ (c5 : Option V), σ = [some (.int n), some (.int a), some (.int (px a (bval ((binL n).take i)))), some (.int (py a (bval ((binL n).take i)))), c5] ∧ Same H H') ?_ ?_ ?_
    · exact ⟨none, rfl, same_upd nc⟩
    · intro i d σ H1 hd hP
      obtain ⟨c5, rfl, sm⟩ := hP
      have hd1 : (binL n)[i]? = some d := by rw [← hd]; exact (List.getElem?_toArray).symm
      have hb := bval_take hd1
      have hle := bval_le (binL n) (i + 1)
      rw [bval_bin] at hle
      obtain ⟨v, hv⟩ : ∃ v, v = bval ((binL n).take i) := ⟨_, rfl⟩
      rw [← hv] at hb ⊢
      have s1 : Sm B (px a v) := sx.le (by have := pxy_pos ha v; omega) (px_mono ha (by omega))
      have s2 : Sm B (py a v) := sx.le (pxy_pos ha v).1 (Int.le_trans (Int.le_of_lt (pxy_pos ha v).2) (px_mono ha (by omega)))
      walk_at "rd"
      refine ⟨_, _, B, rfl, s1, s2, by omega, fun p1 n1 => ?_⟩
      walk_at "rd"
      have m1 := sm.trans (same_upd (o := .tup [.int (2 * px a v * px a v - 1), .int (2 * px a v * py a v)]) n1)
      rcases bin_mem n d (List.mem_of_getElem? hd1) with rfl | rfl
      · refine ite2 (fun e => absurd e (by decide)) (fun _ => ?_)
        refine ⟨some (.str ⟨#[48]⟩), ?_, m1⟩
        rw [hb, show 2 * v + (48 - 48) = 2 * v by omega, px_dbl, py_dbl]
        rfl
      · refine ite2 (fun _ => ?_) (fun e => absurd (by decide) e)
        have e1 : bval ((binL n).take (i + 1)) = 2 * v + 1 := by omega
        have s3 : Sm B (2 * px a v * px a v - 1) := by
          rw [← px_dbl]
          exact sx.le (by have := pxy_pos ha (2 * v); omega) (px_mono ha (by omega))
        have s4 : Sm B (2 * px a v * py a v) := by
          rw [← py_dbl]
          exact sx.le (pxy_pos ha (2 * v)).1 (Int.le_trans (Int.le_of_lt (pxy_pos ha (2 * v)).2) (px_mono ha (by omega)))
        walk_at "rd"
        refine ⟨_, _, _, B, rfl, s3, s4, sa, by omega, fun p2 n2 => ?_⟩
        walk_at "rd"
        refine ⟨some (.str ⟨#[49]⟩), ?_, m1.trans (same_upd n2)⟩
        rw [e1, px1, py1, px_dbl, py_dbl]
        rfl
    · intro σ H1 hP
      obtain ⟨c5, rfl, sm⟩ := hP
      have e : (binL n).take (binS n).cps.size = binL n := List.take_of_length_le (by show _ ≤ (binL n).toArray.size; simp)
      rw [e, bval_bin]
      walk_at "rd"
      intro p np
      exact q _ p (sm.trans (same_upd np)) (sm.free np) upd_same
def sp__law_cell (K : PySem.W.Frag) : Sp := fun vs H Q _ => ∃ (a : Addr) (ns : List Int) (k : Nat), vs = [.ref a, .int k] ∧ SqL K H a (ns.map V.int) ∧ Q (.int (ns.getD k 0)) H
theorem ok__law_cell {f : Addr} {fd : FuncData} (F : Fun K "_law_cell" "_law_cell" s__law_cell f fd) (m_len : mg "len" = none) : FnOk P w K mg base CX0 1 f fd ["script", "k"] (sp__law_cell K) := by
  refine F.ok sc__law_cell (fun vs H Q E h => ?_) (fun cdv A outer s H vs Q E hr h => ?_)
  · obtain ⟨a, ns, k, rfl, _⟩ := h
    rfl
  · obtain ⟨a, ns, k, rfl, hS, q⟩ := h
    refine ⟨_, (pss_cons (ps_if (pt_cmpR op_lt (pv 1) (pe_callB call_len_seq (by rfl) m_len (by decide +kernel) (pa_cons (pv 0) pa_nil)) (nomark _)) (pss_one (ps_ret (pe_ix ix_list (pv 0) (pv 1) (fun _ _ => rfl)))) pss_nil)
      (pss_one (ps_ret pe_int))), ?_⟩
    walk_at "rd"
    refine ⟨_, _, rfl, .inl hS, ?_⟩
    walk_at "rd"
    refine ite2 (fun e => ?_) (fun e => ?_)
    · have h1 : k < ns.length := by
        have := of_decide_eq_true e
        rw [List.length_map] at this
        omega
      walk_at "rd"
      refine ⟨_, _, _, .int ns[k], rfl, rfl, hS, atI_nat (by rw [List.getElem?_map, List.getElem?_eq_getElem h1]; rfl), ?_⟩
      rw [List.getD_eq_getElem?_getD, List.getElem?_eq_getElem h1] at q
      exact q
    · have h1 : ¬ k < ns.length := fun l => e (decide_eq_true (by rw [List.length_map]; omega))
      walk_at "rd"
      rw [List.getD_eq_getElem?_getD, List.getElem?_eq_none (by omega)] at q
      exact q
def sp__rests (K : PySem.W.Frag) : Sp := fun vs H Q _ => ∃ (p : Addr) (x y m : Int), vs = [.ref p, .int m] ∧ SqT K H p [.int x, .int y] ∧ 0 < m ∧
  ∀ p, H p = none → Q (.ref p) (upd H p (.tup [.int (x % m), .int (y % m)]))
theorem ok__rests {f : Addr} {fd : FuncData} (F : Fun K "_rests" "_rests" s__rests f fd)  : FnOk P w K mg base CX0 1 f fd ["numbers", "m"] (sp__rests K) := by
  refine F.ok sc__rests (fun vs H Q E h => ?_) (fun cdv A outer s H vs Q E hr h => ?_)
  · obtain ⟨p, x, y, m, rfl, _⟩ := h
    rfl
  · obtain ⟨p, x, y, m, rfl, hS, hm, q⟩ := h
    refine ⟨_, (pss_cons (ps_asg (pv 0) (pg_tup (by rfl) (pgs_cons (pg_name (i := 2) sc__rests.nd rfl (.inl rfl)) (pgs_cons (pg_name (i := 3) sc__rests.nd rfl (.inl rfl)) pgs_nil))))
      (pss_one (ps_ret (pe_tup (pa_cons (pe_op op_mod (pv 2) (pv 1)) (pa_cons (pe_op op_mod (pv 3) (pv 1)) pa_nil)))))), ?_⟩
    walk_at "rd"
    refine gTup_as hS rfl ?_
    walk_at "rd"
    exact q
def sp_pair_rest (K : PySem.W.Frag) : Sp := fun vs H Q _ => ∃ (n : Nat) (a m : Int) (B : Nat), vs = [.int n, .int a, .int m] ∧ 0 < m ∧ Sm B m ∧ B ≤ 1000000 ∧ n < 2 ^ 1000000 ∧
  ∀ H' p, Same H H' → H p = none → H' p = some (.tup [.int (px a n % m), .int (py a n % m)]) → Q (.ref p) H'
theorem ok_pair_rest {f : Addr} {fd : FuncData} (F : Fun K "pair_rest" "pair_rest" s_pair_rest f fd) (C__rests : Cal P w K mg base "_rests" 1 ["numbers", "m"] (sp__rests K)) (C__doubled : Cal P w K mg base "_doubled" 1 ["x", "y"] (sp__doubled K)) (C__next : Cal P w K mg base "_next" 1 ["x", "y", "a"] (sp__next K)) : FnOk P w K mg base CX0 2 f fd ["n", "a", "m"] (sp_pair_rest K) := by
  refine F.ok sc_pair_rest (fun vs H Q E h => ?_) (fun cdv A outer s H vs Q E hr h => ?_)
  · obtain ⟨n, a, m, B, rfl, _⟩ := h
    rfl
  · obtain ⟨n, a, m, B, rfl, hm, sm, hB, hn, q⟩ := h
    refine ⟨_, (pss_cons (ps_par3 (by rfl) sc_pair_rest.nd (i := 3) (j := 4) (l := 5) rfl rfl rfl (by decide) (by decide) (by decide) rfl rfl rfl (pa_cons (pe_op op_mod pe_int (pv 2)) (pa_cons pe_int (pa_cons (pe_op op_mod (pv 1) (pv 2)) pa_nil))) (by rfl))
      (pss_cons (ps_for PassesOwn.never rfl (pi_str (pe_fmtB (pv 0))) (pg_name (i := 6) sc_pair_rest.nd rfl (.inl rfl)) (pss_cons (ps_asg (pe_cal C__rests hr (by rfl) (pa_cons (pe_cal C__doubled hr (by rfl) (pa_cons (pv 3) (pa_cons (pv 4) pa_nil))) (pa_cons (pv 2) pa_nil))) (pg_tup (by rfl) (pgs_cons (pg_name (i := 3) sc_pair_rest.nd rfl (.inl rfl)) (pgs_cons (pg_name (i := 4) sc_pair_rest.nd rfl (.inl rfl)) pgs_nil))))
      (pss_one (ps_if (pt_cmpR op_eq (pv 6) pe_str (nomark _)) (pss_one (ps_asg (pe_cal C__rests hr (by rfl) (pa_cons (pe_cal C__next hr (by rfl) (pa_cons (pv 3) (pa_cons (pv 4) (pa_cons (pv 5) pa_nil)))) (pa_cons (pv 2) pa_nil))) (pg_tup (by rfl) (pgs_cons (pg_name (i := 3) sc_pair_rest.nd rfl (.inl rfl)) (pgs_cons (pg_name (i := 4) sc_pair_rest.nd rfl (.inl rfl)) pgs_nil))))) pss_nil))))
      (pss_one (ps_ret (pe_tup (pa_cons (pv 3) (pa_cons (pv 4) pa_nil))))))), ?_⟩
    walk_at "rd"
    refine ⟨Nat.le_trans (bin_len hn (by decide)) (by decide), _, rfl, ?_⟩
    have st : ∀ z : Int, Sm B (z % m) := fun z => sm.le (Int.emod_nonneg z (by omega)) (Int.le_of_lt (Int.emod_lt_of_pos z hm))
    refine for_str (fun i σ H' => ∃ (c5 : Option V), σ = [some (.int n), some (.int a), some (.int m), some (.int (px a (bval ((binL n).take i)) % m)), some (.int (py a (bval ((binL n).take i)) % m)), some (.int (a % m)), c5] ∧ Same H H') ?_ ?_ ?_
    · exact ⟨none, rfl, Same.refl H⟩
    · intro i d σ H1 hd hP
      obtain ⟨c5, rfl, sH⟩ := hP
      have hd1 : (binL n)[i]? = some d := by rw [← hd]; exact (List.getElem?_toArray).symm
      have hb := bval_take hd1
      obtain ⟨v, hv⟩ : ∃ v, v = bval ((binL n).take i) := ⟨_, rfl⟩
      rw [← hv] at hb ⊢
      walk_at "rd"
      refine ⟨_, _, B, rfl, st _, st _, by omega, fun p1 n1 => ?_⟩
      walk_at "rd"
      refine ⟨_, _, _, _, rfl, sq_new, hm, fun p2 n2 => ?_⟩
      walk_at "rd"
      have m2 := (sH.trans (same_upd n1)).trans (same_upd (o := .tup [.int ((2 * (px a v % m) * (px a v % m) - 1) % m), .int ((2 * (px a v % m) * (py a v % m)) % m)]) n2)
      rcases bin_mem n d (List.mem_of_getElem? hd1) with rfl | rfl
      · refine ite2 (fun e => absurd e (by decide)) (fun _ => ?_)
        refine ⟨some (.str ⟨#[48]⟩), ?_, m2⟩
        rw [hb, show 2 * v + (48 - 48) = 2 * v by omega, px_dbl, py_dbl, rest_dx a v m, rest_dy a v m]
        rfl
      · refine ite2 (fun _ => ?_) (fun e => absurd (by decide) e)
        have e1 : bval ((binL n).take (i + 1)) = 2 * v + 1 := by omega
        walk_at "rd"
        refine ⟨_, _, _, B, rfl, st _, st _, st _, by omega, fun p3 n3 => ?_⟩
        walk_at "rd"
        refine ⟨_, _, _, _, rfl, sq_new, hm, fun p4 n4 => ?_⟩
        walk_at "rd"
        refine ⟨some (.str ⟨#[49]⟩), ?_, (m2.trans (same_upd n3)).trans (same_upd n4)⟩
        have ex := rest_nx a (px a (2 * v)) (py a (2 * v)) m
        have ey := rest_ny a (px a (2 * v)) (py a (2 * v)) m
        rw [px_dbl, py_dbl, ← rest_dx a v m, ← rest_dy a v m] at ex ey
        rw [e1, px1, py1, px_dbl, py_dbl, ex, ey]
        rfl
    · intro σ H1 hP
      obtain ⟨c5, rfl, sH⟩ := hP
      have e : (binL n).take (binS n).cps.size = binL n := List.take_of_length_le (by show _ ≤ (binL n).toArray.size; simp)
      rw [e, bval_bin]
      walk_at "rd"
      intro p np
      exact q _ p (sH.trans (same_upd np)) (sH.free np) upd_same
def sp_law (K : PySem.W.Frag) : Sp := fun vs H Q _ => ∃ (a : Addr) (ns : List Int), vs = [.ref a] ∧ SqL K H a (ns.map V.int) ∧ ns.length ≤ 63 ∧ ∀ H', Q (.bl true) H'
theorem ok_law {f : Addr} {fd : FuncData} (F : Fun K "law" "law" s_law f fd) (C_pair : Cal P w K mg base "pair" 2 ["n", "a"] (sp_pair K)) (C__law_cell : Cal P w K mg base "_law_cell" 1 ["script", "k"] (sp__law_cell K)) (C_pair_rest : Cal P w K mg base "pair_rest" 2 ["n", "a", "m"] (sp_pair_rest K)) (m_range : mg "range" = none) (m_int : mg "int" = none) : FnOk P w K mg base CX0 3 f fd ["script"] (sp_law K) := by
  refine F.ok sc_law (fun vs H Q E h => ?_) (fun cdv A outer s H vs Q E hr h => ?_)
  · obtain ⟨a, ns, rfl, _⟩ := h
    rfl
  · obtain ⟨sa, ns, rfl, hS, hlen, q⟩ := h
    refine ⟨_, (pss_cons (ps_set (i := 1) sc_law.nd rfl (.inl rfl) (pe_op op_mod (pe_callTy call_intI (by rfl) m_int (by decide +kernel) (pa_cons (pe_cal C__law_cell (hr.mono (by decide)) (by rfl) (pa_cons (pv 0) (pa_cons pe_int pa_nil))) pa_nil)) pe_int))
      (pss_cons (ps_par (by rfl) sc_law.nd (i := 2) (j := 3) rfl rfl (by decide) rfl rfl (pa_cons (pe_op op_add pe_int (pe_op op_mod (pv 1) pe_int)) (pa_cons (pe_op op_add pe_int (pe_op op_mod (pe_op op_fdivW (pv 1) pe_int) pe_int)) pa_nil)) (by rfl))
      (pss_cons (ps_set (i := 4) sc_law.nd rfl (.inl rfl) (pe_op op_add pe_int (pe_op op_mod (pe_op op_fdivW (pv 1) pe_int) (pv 3))))
      (pss_cons (ps_set (i := 5) sc_law.nd rfl (.inl rfl) (pe_ix ix_tup (pe_cal C_pair hr (by rfl) (pa_cons (pv 3) (pa_cons (pv 2) pa_nil))) pe_int (fun _ _ => rfl)))
      (pss_cons (ps_set (i := 6) sc_law.nd rfl (.inl rfl) (pe_op op_mod (pe_callTy call_intI (by rfl) m_int (by decide +kernel) (pa_cons (pe_ix ix_tup (pe_cal C_pair hr (by rfl) (pa_cons (pv 4) (pa_cons (pv 2) pa_nil))) pe_int (fun _ _ => rfl)) pa_nil)) (pv 5)))
      (pss_cons (ps_for PassesOwn.never rfl (pi_range1 (by rfl) m_range (pa_cons pe_int pa_nil)) (pg_name (i := 7) sc_law.nd rfl (.inl rfl)) (pss_cons (ps_set (i := 8) sc_law.nd rfl (.inl rfl) (pe_cmpR op_eq (pe_op op_mod (pe_callTy call_intI (by rfl) m_int (by decide +kernel) (pa_cons (pe_ix ix_tup (pe_cal C_pair_rest hr (by rfl) (pa_cons (pv 7) (pa_cons (pv 2) (pa_cons (pv 5) pa_nil)))) pe_int (fun _ _ => rfl)) pa_nil)) (pv 5)) (pv 6) (nomark _)))
      (pss_cons (ps_set (i := 9) sc_law.nd rfl (.inl rfl) (pe_or (pe_cmpR op_eq (pe_op op_mod (pe_callTy call_intI (by rfl) m_int (by decide +kernel) (pa_cons (pe_op op_sub (pv 7) (pv 4)) pa_nil)) (pe_op op_mulX pe_int (pv 3))) pe_int (nomark _)) (pe_one (pe_cmpR op_eq (pe_op op_mod (pe_callTy call_intI (by rfl) m_int (by decide +kernel) (pa_cons (pe_op op_add (pv 7) (pv 4)) pa_nil)) (pe_op op_mulX pe_int (pv 3))) pe_int (nomark _)))))
      (pss_one (ps_if (pt_cmpR op_ne (pv 8) (pv 9) (nomark _)) (pss_one (ps_ret pe_bl)) pss_nil)))))
      (pss_cons (ps_set (i := 10) sc_law.nd rfl (.inl rfl) (pe_op op_add pe_int (pe_op op_mod (pe_op op_fdivW (pv 1) pe_int) pe_int)))
      (pss_cons (ps_set (i := 11) sc_law.nd rfl (.inl rfl) (pe_op op_add (pv 2) (pe_op op_mulX (pv 10) (pe_op op_add pe_int (pe_op op_mod (pe_op op_fdivW (pv 1) pe_int) pe_int)))))
      (pss_cons (ps_for PassesOwn.never rfl (pi_range1 (by rfl) m_range (pa_cons pe_int pa_nil)) (pg_name (i := 12) sc_law.nd rfl (.inl rfl)) (pss_cons (ps_par (by rfl) sc_law.nd (i := 13) (j := 14) rfl rfl (by decide) rfl rfl (pa_cons (pe_cal C_pair hr (by rfl) (pa_cons (pv 12) (pa_cons (pv 2) pa_nil))) (pa_cons (pe_cal C_pair hr (by rfl) (pa_cons (pv 12) (pa_cons (pv 11) pa_nil))) pa_nil)) (by rfl))
      (pss_one (ps_if (PW.pt (pw_or (pt_cmpR op_ne (pe_op op_mod (pe_callTy call_intI (by rfl) m_int (by decide +kernel) (pa_cons (pe_op op_sub (pe_ix ix_tup (pv 13) pe_int (fun _ _ => rfl)) (pe_ix ix_tup (pv 14) pe_int (fun _ _ => rfl))) pa_nil)) (pv 10)) pe_int (nomark _)) (pw_or1 (pt_cmpR op_ne (pe_op op_mod (pe_callTy call_intI (by rfl) m_int (by decide +kernel) (pa_cons (pe_op op_sub (pe_ix ix_tup (pv 13) pe_int (fun _ _ => rfl)) (pe_ix ix_tup (pv 14) pe_int (fun _ _ => rfl))) pa_nil)) (pv 10)) pe_int (nomark _))))) (pss_one (ps_ret pe_bl)) pss_nil))))
      (pss_cons (ps_for PassesOwn.never rfl (pi_range2 (by rfl) m_range (pa_cons pe_int (pa_cons (pe_op op_mulX pe_int (pv 2)) pa_nil))) (pg_name (i := 15) sc_law.nd rfl (.inl rfl)) (pss_cons (ps_set (i := 10) sc_law.nd rfl (.inl rfl) (pe_op op_sub (pe_op op_sub (pe_op op_mulX (pe_op op_mulX pe_int (pv 2)) (pv 15)) (pe_op op_mulX (pv 15) (pv 15))) pe_int))
      (pss_cons (ps_set (i := 16) sc_law.nd rfl (.inl rfl) pe_int)
      (pss_one (ps_for PassesOwn.never rfl (pi_range1 (by rfl) m_range (pa_cons pe_int pa_nil)) (pg_name (i := 12) sc_law.nd rfl (.inl rfl)) (pss_cons (ps_set (i := 13) sc_law.nd rfl (.inl rfl) (pe_cal C_pair hr (by rfl) (pa_cons (pv 12) (pa_cons (pv 2) pa_nil))))
      (pss_cons (ps_if (PW.pt (pw_and (pt_cmpR op_gt (pv 10) pe_int (nomark _)) (pw_and1 (pt_cmpR op_ne (pe_op op_mod (pe_callTy call_intI (by rfl) m_int (by decide +kernel) (pa_cons (pe_op op_sub (pe_op op_sub (pe_ix ix_tup (pv 13) pe_int (fun _ _ => rfl)) (pe_op op_mulX (pe_ix ix_tup (pv 13) pe_int (fun _ _ => rfl)) (pe_op op_sub (pv 2) (pv 15)))) (pv 16)) pa_nil)) (pv 10)) pe_int (nomark _))))) (pss_one (ps_ret pe_bl)) pss_nil)
      (pss_one (ps_set (i := 16) sc_law.nd rfl (.inl rfl) (pe_op op_mulX (pv 16) (pv 15)))))))))))
      (pss_one (ps_ret pe_bl)))))))))))), ?_⟩
    walk_at "rd"
    refine ⟨_, _, 0, rfl, hS, ?_⟩
    generalize ns.getD 0 0 = z
    obtain ⟨N, eN⟩ : ∃ N : Nat, z % 900000 = N := ⟨(z % 900000).toNat, by omega⟩
    obtain ⟨a', ea⟩ : ∃ a' : Nat, a' = N % 19 := ⟨_, rfl⟩
    obtain ⟨n', en⟩ : ∃ n' : Nat, n' = N / 19 % 6 := ⟨_, rfl⟩
    obtain ⟨i', ei⟩ : ∃ i' : Nat, i' = N / 114 % (n' + 1) := ⟨_, rfl⟩
    have e2 : 2 + z % 900000 % 19 = (a' : Int) + 2 := by omega
    have e3 : 1 + z % 900000 / 19 % 6 = ((n' + 1 : Nat) : Int) := by omega
    have e4 : 1 + z % 900000 / 114 % ((n' + 1 : Nat) : Int) = ((i' + 1 : Nat) : Int) := by
      rw [eN, ei]
      push_cast
      rw [Int.add_comm]
    have hi' : i' ≤ n' := by
      have := Nat.mod_lt (N / 114) (show 0 < n' + 1 by omega)
      omega
    have ha : (2 : Int) ≤ (a' : Int) + 2 := by omega
    have ha19 : a' < 19 := by omega
    have hn6 : n' < 6 := by omega
    have hb : 0 < px ((a' : Int) + 2) (n' + 1) := by have := pxy_pos ha (n' + 1); omega
    have sz : ∀ k : Nat, k < 12 → Sm 200 (px ((a' : Int) + 2) k) := fun k hk => Nat.lt_of_lt_of_le (px_nat ha k 6 (by omega)) (Nat.pow_le_pow_right (by decide) (by omega))
    have sa2 : Sm 200 ((a' : Int) + 2) := Sm.le (y := 100) (Sm.lit (k := 200)) (by omega) (by omega)
    walk_at "rd"
    refine ⟨n' + 1, (a' : Int) + 2, 200, ?_, ha, sa2, sz _ (by omega), by decide, Nat.lt_of_lt_of_le (show n' + 1 < 2 ^ 3 by omega) (Nat.pow_le_pow_right (by decide) (by decide)), fun H1 p1 m1 f1 h1 => ?_⟩
    · show [V.int (1 + z % 900000 / 19 % 6), V.int (2 + z % 900000 % 19)] = _
      rw [e3, e2]
    walk_at "rd"
    refine ⟨i' + 1, (a' : Int) + 2, 200, ?_, ha, sa2, sz _ (by omega), by decide, Nat.lt_of_lt_of_le (show i' + 1 < 2 ^ 3 by omega) (Nat.pow_le_pow_right (by decide) (by decide)), fun H2 p2 m2 f2 h2 => ?_⟩
    · show [V.int (1 + z % 900000 / 114 % (1 + z % 900000 / 19 % 6)), V.int (2 + z % 900000 % 19)] = _
      rw [e3, e2, e4]
    walk_at "rd"
    obtain ⟨bs, ebs⟩ : ∃ bs, bs = px ((a' : Int) + 2) (n' + 1) := ⟨_, rfl⟩
    obtain ⟨wt, ewt⟩ : ∃ wt, wt = px ((a' : Int) + 2) (i' + 1) % bs := ⟨_, rfl⟩
    have hbs : 0 < bs := ebs ▸ hb
    have sbs : Sm 200 bs := ebs ▸ sz _ (by omega)
    have sn : Sm 200 ((n' + 1 : Nat) : Int) := Sm.le (y := 100) (Sm.lit (k := 200)) (by omega) (by omega)
    refine for_rng (n := 61) (fun j σ H' => ∃ c7 c8 c9, σ = [some (.ref sa), some (.int N), some (.int ((a' : Int) + 2)), some (.int ((n' + 1 : Nat) : Int)), some (.int ((i' + 1 : Nat) : Int)), some (.int bs), some (.int wt),
      c7, c8, c9, none, none, none, none, none, none, none]) ?_ ?_ ?_
    · refine ⟨none, none, none, ?_⟩
      rw [ewt, ebs, ← e4, ← e3, ← e2, ← eN]
      rfl
    · intro j σ H3 hj hP
      obtain ⟨c7, c8, c9, rfl⟩ := hP
      walk_at "rd"
      refine ⟨j, (a' : Int) + 2, bs, 200, rfl, hbs, sbs, by decide, Nat.lt_of_lt_of_le (show j < 2 ^ 6 by omega) (Nat.pow_le_pow_right (by decide) (by decide)), fun H4 p4 m4 f4 h4 => ?_⟩
      have L : decide (V.int (px ((a' : Int) + 2) j % bs % bs) = V.int wt) = (decide (V.int (((j : Int) - ((i' + 1 : Nat) : Int)) % (4 * ((n' + 1 : Nat) : Int))) = V.int 0) ||
          decide (V.int (((j : Int) + ((i' + 1 : Nat) : Int)) % (4 * ((n' + 1 : Nat) : Int))) = V.int 0)) := by
        rw [dV, dV, dV, Int.emod_emod, ewt, ebs, loopJ ha19 hn6 hi' j hj]
        push_cast
        rfl
      walk_at "rd"
      refine ite2 (fun e => ?_) (fun e => ?_)
      · rw [e, Bool.true_or] at L
        walk_at "rd"
        refine ite2 (fun e' => absurd e' (by rw [L]; decide)) (fun _ => ?_)
        exact ⟨_, _, _, rfl⟩
      · rw [Bool.eq_false_iff.mpr e, Bool.false_or] at L
        walk_at "rd"
        refine ite2 (fun e' => absurd e' (by rw [L, decide_eq_true rfl]; decide)) (fun _ => ?_)
        exact ⟨_, _, _, rfl⟩
    · intro σ H3 hP
      obtain ⟨c7, c8, c9, rfl⟩ := hP
      have s5 : Sm 64 (1 + (N : Int) / 684 % 50) := Sm.le (y := 100) (Sm.lit (k := 64)) (by omega) (by omega)
      have s6 : Sm 64 (1 + (N : Int) / 34200 % 5) := Sm.le (y := 100) (Sm.lit (k := 64)) (by omega) (by omega)
      walk_at "rd"
      obtain ⟨md, emd⟩ : ∃ md : Int, md = 1 + (N : Int) / 684 % 50 := ⟨_, rfl⟩
      obtain ⟨fc, efc⟩ : ∃ fc : Int, fc = 1 + (N : Int) / 34200 % 5 := ⟨_, rfl⟩
      have hfc : 0 < fc ∧ fc < 6 := by omega
      have hmd : 0 < md ∧ md < 51 := by omega
      have hot : 0 ≤ md * fc ∧ md * fc ≤ 250 := ⟨Int.mul_nonneg (by omega) (by omega), by
        have := Int.mul_le_mul (a := md) (b := fc) (c := 50) (d := 5) (by omega) (by omega) (by omega) (by omega)
        omega⟩
      obtain ⟨ot, eot⟩ : ∃ ot : Int, ot = (a' : Int) + 2 + md * fc := ⟨_, rfl⟩
      have hot2 : 2 ≤ ot := by omega
      have sot : Sm 200 ot := Sm.le (y := 1000) (Sm.lit (k := 200)) (by omega) (by omega)
      have szo : ∀ k : Nat, k < 12 → Sm 200 (px ot k) := fun k hk => Nat.lt_of_lt_of_le (px_nat hot2 k 10 (by omega)) (Nat.pow_le_pow_right (by decide) (by omega))
      refine for_rng (n := 12) (fun j σ H' => ∃ c7 c8 c9 c12 c13 c14, σ = [some (.ref sa), some (.int N), some (.int ((a' : Int) + 2)), some (.int ((n' + 1 : Nat) : Int)), some (.int ((i' + 1 : Nat) : Int)), some (.int bs), some (.int wt),
        c7, c8, c9, some (.int md), some (.int ot), c12, c13, c14, none, none]) ?_ ?_ ?_
      · refine ⟨c7, c8, c9, none, none, none, ?_⟩
        rw [eot, efc, emd]
        rfl
      · intro k σ H4 hk hP
        obtain ⟨c7, c8, c9, c12, c13, c14, rfl⟩ := hP
        walk_at "rd"
        refine ⟨k, (a' : Int) + 2, 200, rfl, ha, sa2, sz k hk, by decide, Nat.lt_of_lt_of_le (show k < 2 ^ 4 by omega) (Nat.pow_le_pow_right (by decide) (by decide)), fun H5 p5 m5 f5 h5 => ?_⟩
        walk_at "rd"
        refine ⟨k, ot, 200, rfl, hot2, sot, szo k hk, by decide, Nat.lt_of_lt_of_le (show k < 2 ^ 4 by omega) (Nat.pow_le_pow_right (by decide) (by decide)), fun H6 p6 m6 f6 h6 => ?_⟩
        have h5' := m6 _ _ h5
        obtain ⟨⟨q1, hq1⟩, ⟨q2, hq2⟩⟩ := px_cong ((a' : Int) + 2) ot md (-fc) (by rw [eot, Int.mul_neg]; omega) k
        have z1 : (px ((a' : Int) + 2) k - px ot k) % md = 0 := by rw [hq1]; exact Int.mul_emod_right md q1
        have z2 : (py ((a' : Int) + 2) k - py ot k) % md = 0 := by rw [hq2]; exact Int.mul_emod_right md q2
        have hmd0 := hmd.1
        walk_at "rd"
        refine ite2 (fun e => absurd e (by show ¬ (!decide (V.int _ = V.int 0)) = true; rw [z1]; decide)) (fun _ => ?_)
        walk_at "rd"
        refine ite2 (fun e => absurd e (by show ¬ (!decide (V.int _ = V.int 0)) = true; rw [z2]; decide)) (fun _ => ?_)
        exact ⟨_, _, _, _, _, _, rfl⟩
      · intro σ H4 hP
        obtain ⟨c7, c8, c9, c12, c13, c14, rfl⟩ := hP
        walk_at "rd"
        refine for_range (lo := 1) (n := (2 * ((a' : Int) + 2) - 1).toNat) (fun j σ H' => ∃ c7 c8 c9 c10 c12 c13 c14 c15 c16, σ = [some (.ref sa), some (.int N), some (.int ((a' : Int) + 2)), some (.int ((n' + 1 : Nat) : Int)), some (.int ((i' + 1 : Nat) : Int)), some (.int bs), some (.int wt),
          c7, c8, c9, c10, some (.int ot), c12, c13, c14, c15, c16]) ?_ ?_ ?_
        · exact ⟨_, _, _, _, _, _, _, _, _, rfl⟩
        · intro t σ H5 ht hP
          obtain ⟨c7, c8, c9, c10, c12, c13, c14, c15, c16, rfl⟩ := hP
          obtain ⟨x, ex⟩ : ∃ x : Int, x = 1 + (t : Int) := ⟨_, rfl⟩
          rw [← ex]
          have sx : Sm 6 x := Sm.le (y := 63) (Sm.lit (k := 6)) (by omega) (by omega)
          walk_at "rd"
          obtain ⟨m3, em3⟩ : ∃ m3 : Int, m3 = 2 * ((a' : Int) + 2) * x - x * x - 1 := ⟨_, rfl⟩
          refine for_rng (n := 9) (fun j σ H' => ∃ c7 c8 c9 c12 c13 c14, σ = [some (.ref sa), some (.int N), some (.int ((a' : Int) + 2)), some (.int ((n' + 1 : Nat) : Int)), some (.int ((i' + 1 : Nat) : Int)), some (.int bs), some (.int wt),
            c7, c8, c9, some (.int m3), some (.int ot), c12, c13, c14, some (.int x), some (.int (x ^ j))]) ?_ ?_ ?_
          · refine ⟨c7, c8, c9, c12, c13, c14, ?_⟩
            rw [em3, Int.pow_zero]
            rfl
          · intro k σ H6 hk hP
            obtain ⟨c7, c8, c9, c12, c13, c14, rfl⟩ := hP
            walk_at "rd"
            refine ⟨k, (a' : Int) + 2, 200, rfl, ha, sa2, sz k (by omega), by decide, Nat.lt_of_lt_of_le (show k < 2 ^ 4 by omega) (Nat.pow_le_pow_right (by decide) (by decide)), fun H7 p7 m7 f7 h7 => ?_⟩
            have sy : Sm 200 (py ((a' : Int) + 2) k) := (sz k (by omega)).le (pxy_pos ha k).1 (Int.le_of_lt (pxy_pos ha k).2)
            have sp : Sm 200 (x ^ k) := (sx.pw k).mono (by omega)
            walk_at "rd"
            refine ite2 (fun e => ?_) (fun e => ?_)
            · have hm3 : 0 < m3 := of_decide_eq_true e
              obtain ⟨u, hu⟩ := px_power ((a' : Int) + 2) x k
              have z1 : (px ((a' : Int) + 2) k - py ((a' : Int) + 2) k * ((a' : Int) + 2 - x) - x ^ k) % m3 = 0 := by rw [hu, ← em3]; exact Int.mul_emod_right m3 u
              walk_at "rd"
              refine ite2 (fun e => absurd e (by show ¬ (!decide (V.int _ = V.int 0)) = true; rw [z1]; decide)) (fun _ => ?_)
              walk_at "rd"
              exact ⟨_, _, _, _, _, _, by rw [Int.pow_succ]; rfl⟩
            · walk_at "rd"
              exact ⟨_, _, _, _, _, _, by rw [Int.pow_succ]; rfl⟩
          · intro σ H6 hP
            obtain ⟨c7, c8, c9, c12, c13, c14, rfl⟩ := hP
            exact ⟨_, _, _, _, _, _, _, _, _, rfl⟩
        · intro σ H5 hP
          obtain ⟨c7, c8, c9, c10, c12, c13, c14, c15, c16, rfl⟩ := hP
          exact q _

end
end RR

namespace RR
open PySem PySem.Spec PyProof.Rows L2
theorem all_mk {l : PySem.W.OpenLaw} {w : World} {K : PySem.W.Frag} {h : Heap} {mg : Str → Option Value} {fa : Addr} (X : K.In h) (G : h.Ns mainGlobals mg) (hfa : mg "law" = some (.ref fa))
    {f0 : Addr} {od0 an0 : Option Addr} {sl0 : Array (Option Value)} {oc0 kV0 dc0 pm0 cd0 ct0 : Value}
    {f1 : Addr} {od1 an1 : Option Addr} {sl1 : Array (Option Value)} {oc1 kV1 dc1 pm1 cd1 ct1 : Value}
    {f2 : Addr} {od2 an2 : Option Addr} {sl2 : Array (Option Value)} {oc2 kV2 dc2 pm2 cd2 ct2 : Value}
    {f3 : Addr} {od3 an3 : Option Addr} {sl3 : Array (Option Value)} {oc3 kV3 dc3 pm3 cd3 ct3 : Value}
    {f4 : Addr} {od4 an4 : Option Addr} {sl4 : Array (Option Value)} {oc4 kV4 dc4 pm4 cd4 ct4 : Value}
    {f5 : Addr} {od5 an5 : Option Addr} {sl5 : Array (Option Value)} {oc5 kV5 dc5 pm5 cd5 ct5 : Value}
    {f6 : Addr} {od6 an6 : Option Addr} {sl6 : Array (Option Value)} {oc6 kV6 dc6 pm6 cd6 ct6 : Value}
    (a0 : PySem.W.nsIn K mainGlobals "_doubled" = some (some (.ref f0)))
    (l0 : K.lookup f0 = some ⟨oc0, od0, .func (PySem.W.fnOf "_doubled" "_doubled" (defArgs s__doubled) (defBody s__doubled) (defScope s__doubled) .none kV0 dc0 pm0 an0 cd0 ct0), sl0⟩)
    (c0 : PySem.W.codeIn K cd0 "_doubled" = true) (k0 : PySem.W.keepIn K (.ref f0) = true)
    (a1 : PySem.W.nsIn K mainGlobals "_next" = some (some (.ref f1)))
    (l1 : K.lookup f1 = some ⟨oc1, od1, .func (PySem.W.fnOf "_next" "_next" (defArgs s__next) (defBody s__next) (defScope s__next) .none kV1 dc1 pm1 an1 cd1 ct1), sl1⟩)
    (c1 : PySem.W.codeIn K cd1 "_next" = true) (k1 : PySem.W.keepIn K (.ref f1) = true)
    (a2 : PySem.W.nsIn K mainGlobals "pair" = some (some (.ref f2)))
    (l2 : K.lookup f2 = some ⟨oc2, od2, .func (PySem.W.fnOf "pair" "pair" (defArgs s_pair) (defBody s_pair) (defScope s_pair) .none kV2 dc2 pm2 an2 cd2 ct2), sl2⟩)
    (c2 : PySem.W.codeIn K cd2 "pair" = true) (k2 : PySem.W.keepIn K (.ref f2) = true)
    (a3 : PySem.W.nsIn K mainGlobals "_law_cell" = some (some (.ref f3)))
    (l3 : K.lookup f3 = some ⟨oc3, od3, .func (PySem.W.fnOf "_law_cell" "_law_cell" (defArgs s__law_cell) (defBody s__law_cell) (defScope s__law_cell) .none kV3 dc3 pm3 an3 cd3 ct3), sl3⟩)
    (c3 : PySem.W.codeIn K cd3 "_law_cell" = true) (k3 : PySem.W.keepIn K (.ref f3) = true)
    (a4 : PySem.W.nsIn K mainGlobals "_rests" = some (some (.ref f4)))
    (l4 : K.lookup f4 = some ⟨oc4, od4, .func (PySem.W.fnOf "_rests" "_rests" (defArgs s__rests) (defBody s__rests) (defScope s__rests) .none kV4 dc4 pm4 an4 cd4 ct4), sl4⟩)
    (c4 : PySem.W.codeIn K cd4 "_rests" = true) (k4 : PySem.W.keepIn K (.ref f4) = true)
    (a5 : PySem.W.nsIn K mainGlobals "pair_rest" = some (some (.ref f5)))
    (l5 : K.lookup f5 = some ⟨oc5, od5, .func (PySem.W.fnOf "pair_rest" "pair_rest" (defArgs s_pair_rest) (defBody s_pair_rest) (defScope s_pair_rest) .none kV5 dc5 pm5 an5 cd5 ct5), sl5⟩)
    (c5 : PySem.W.codeIn K cd5 "pair_rest" = true) (k5 : PySem.W.keepIn K (.ref f5) = true)
    (a6 : PySem.W.nsIn K mainGlobals "law" = some (some (.ref f6)))
    (l6 : K.lookup f6 = some ⟨oc6, od6, .func (PySem.W.fnOf "law" "law" (defArgs s_law) (defBody s_law) (defScope s_law) .none kV6 dc6 pm6 an6 cd6 ct6), sl6⟩)
    (c6 : PySem.W.codeIn K cd6 "law" = true) (k6 : PySem.W.keepIn K (.ref f6) = true)
    (z_len : PySem.W.nsIn K mainGlobals "len" = some none)
    (z_range : PySem.W.nsIn K mainGlobals "range" = some none)
    (z_int : PySem.W.nsIn K mainGlobals "int" = some none)
    : ∃ fd : FuncData, (∀ (s : Shared) (v : Value), BindsTo s fd ⟨[v], []⟩ [("script", v)]) ∧ ∀ base : Heap, K.In base → base.Ns mainGlobals mg → FnOk l.prog w K mg base CX0 3 fa fd ["script"] (sp_law K) := by
  have e := hfa.symm.trans (PySem.W.mg_of X G a6)
  cases e
  have F0 := fun_mk (st := s__doubled) l0 c0 k0
  have F1 := fun_mk (st := s__next) l1 c1 k1
  have F2 := fun_mk (st := s_pair) l2 c2 k2
  have F3 := fun_mk (st := s__law_cell) l3 c3 k3
  have F4 := fun_mk (st := s__rests) l4 c4 k4
  have F5 := fun_mk (st := s_pair_rest) l5 c5 k5
  have F6 := fun_mk (st := s_law) l6 c6 k6
  have b0 := F0.binds (ps := ["x", "y"]) fun _ _ _ _ _ _ us hl => match us, hl with | [_, _], _ => rfl
  have b1 := F1.binds (ps := ["x", "y", "a"]) fun _ _ _ _ _ _ us hl => match us, hl with | [_, _, _], _ => rfl
  have b2 := F2.binds (ps := ["n", "a"]) fun _ _ _ _ _ _ us hl => match us, hl with | [_, _], _ => rfl
  have b3 := F3.binds (ps := ["script", "k"]) fun _ _ _ _ _ _ us hl => match us, hl with | [_, _], _ => rfl
  have b4 := F4.binds (ps := ["numbers", "m"]) fun _ _ _ _ _ _ us hl => match us, hl with | [_, _], _ => rfl
  have b5 := F5.binds (ps := ["n", "a", "m"]) fun _ _ _ _ _ _ us hl => match us, hl with | [_, _, _], _ => rfl
  refine ⟨PySem.W.fnOf "law" "law" (defArgs s_law) (defBody s_law) (defScope s_law) .none kV6 dc6 pm6 an6 cd6 ct6, fun s v => .of_eq rfl, fun base _ _ => ?_⟩
  have m_len := PySem.W.mg_none_of X G z_len
  have m_range := PySem.W.mg_none_of X G z_range
  have m_int := PySem.W.mg_none_of X G z_int
  have C__doubled : Cal l.prog w K mg base "_doubled" 1 ["x", "y"] (sp__doubled K) := ⟨_, _, ok__doubled F0 , PySem.W.mg_of X G a0, F0.kp, b0⟩
  have C__next : Cal l.prog w K mg base "_next" 1 ["x", "y", "a"] (sp__next K) := ⟨_, _, ok__next F1 , PySem.W.mg_of X G a1, F1.kp, b1⟩
  have C_pair : Cal l.prog w K mg base "pair" 2 ["n", "a"] (sp_pair K) := ⟨_, _, ok_pair F2 C__doubled C__next, PySem.W.mg_of X G a2, F2.kp, b2⟩
  have C__law_cell : Cal l.prog w K mg base "_law_cell" 1 ["script", "k"] (sp__law_cell K) := ⟨_, _, ok__law_cell F3 m_len, PySem.W.mg_of X G a3, F3.kp, b3⟩
  have C__rests : Cal l.prog w K mg base "_rests" 1 ["numbers", "m"] (sp__rests K) := ⟨_, _, ok__rests F4 , PySem.W.mg_of X G a4, F4.kp, b4⟩
  have C_pair_rest : Cal l.prog w K mg base "pair_rest" 2 ["n", "a", "m"] (sp_pair_rest K) := ⟨_, _, ok_pair_rest F5 C__rests C__doubled C__next, PySem.W.mg_of X G a5, F5.kp, b5⟩
  exact ok_law F6 C_pair C__law_cell C_pair_rest m_range m_int
end RR
open PySem PySem.W PyProof.Rows
set_option maxHeartbeats 0 in
theorem PySem.Challenge.cw_runroots_k34_rests_by_a_member_holds : PySem.Challenge.rw_runroots_k34_rests_by_a_member.Holds := by
  w_on; o_law; k_head; (case hw => w_witness2)
  k_fill
  refine L2.walk_of (l := PySem.Challenge.rw_runroots_k34_rests_by_a_member) (n := 63) (k := 3) (x := "script") (CX := fun _ => L2.CX0) (sp := fun w => RR.sp_law _) rfl (by decide) rfl ⟨rfl, by decide, by decide⟩ (fun w h Y => PySem.W.kIn_of Y) ?F (fun _ _ a ns hl _ hS => ⟨a, ns, rfl, hS, hl, fun _ => rfl⟩) (fun _ _ _ _ _ h => h)
  case F =>
    intro w mg fa h KX G hmg
    refine' RR.all_mk KX G hmg ?a0 ?l0 ?c0 ?k0 ?a1 ?l1 ?c1 ?k1 ?a2 ?l2 ?c2 ?k2 ?a3 ?l3 ?c3 ?k3 ?a4 ?l4 ?c4 ?k4 ?a5 ?l5 ?c5 ?k5 ?a6 ?l6 ?c6 ?k6 ?z_len ?z_range ?z_int
    (case a0 => k_is); (case l0 => k_is); (case c0 => k_is); (case k0 => k_is); (case a1 => k_is); (case l1 => k_is); (case c1 => k_is); (case k1 => k_is); (case a2 => k_is); (case l2 => k_is); (case c2 => k_is); (case k2 => k_is); (case a3 => k_is); (case l3 => k_is); (case c3 => k_is); (case k3 => k_is); (case a4 => k_is); (case l4 => k_is); (case c4 => k_is); (case k4 => k_is); (case a5 => k_is); (case l5 => k_is); (case c5 => k_is); (case k5 => k_is); (case a6 => k_is); (case l6 => k_is); (case c6 => k_is); (case k6 => k_is); (case z_len => k_is); (case z_range => k_is); (case z_int => k_is)
