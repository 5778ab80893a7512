import PyProof.Rows.All
import PyProof.FString3
import PyProof.Rows.StrIntSpec
import HandS.ForMost
import HandS.FStr
import HandS.Wide
import HandS.WideBits
import HandS.Style
import HandS.Star
import HandS.RevRange
import HandS.EndBits
import HandS.IsInst
import HandS.Deep
import HandS.Gcd
import HandS.Text
import HandS.NoneIn
import HandS.Walk
import HandS.DictComp
import HandS.DictTup
import PyProof.Rows.BitMore
import KE.KDictDisplayH
import HandS.More
import HandS.TupAny
import HandS.TupLen
import HandS.Small
import HandS.TupLe
import PySem.Challenge.RW_runroots_k41_numbers_that_force_the_inde
set_option Elab.async false
set_option linter.all false
set_option maxRecDepth 100000
set_option maxHeartbeats 16000000
namespace RR
open PySem PySem.Spec PyProof.Rows L2 PySem.Builtin PySem.Builtin.Float
/-- a number's signs to the base two -/
def binL (n : Nat) : List Nat := (Nat.toDigits 2 n).map Char.toNat
def binS (n : Nat) : Str := ⟨(binL n).toArray⟩
def specB : FormatSpec := { align := 62, type := some 98 }
theorem parse_b (k : String) : parseFormatSpec (Str.ofString "b").cps.toList k 62 = .ok specB := rfl
theorem field_b {D : List Nat} (hD : D ≠ []) : intField' specB false [] D [] 4 = ⟨D.toArray⟩ := by
  have e : D.isEmpty = false := by cases D with
    | nil => exact absurd rfl hD
    | cons _ _ => rfl
  have p : ((-1 : Int) - 0 - (D.length : Int)).toNat = 0 := by omega
  simp [intField', specB, e, p]
theorem binL_ne (n : Nat) : binL n ≠ [] := by
  intro h
  have h2 : Nat.toDigits 2 n = [] := List.map_eq_nil_iff.mp h
  have := Nat.length_toDigits_pos (b := 2) (n := n)
  rw [h2] at this
  exact absurd this (by simp)
section
variable {prog : Program} {w : World} {A : Around} {E : Value → Shared → Prop} {s : Shared}
theorem bin_spec {n : Nat} {t : Tok} {Q : Value → Shared → Prop} (hl : (binS n).length ≤ sizeLine)
    (h : Q (.str (binS n) (s.toks + 1)) { s with toks := s.toks + 1 + 1 }) : wpAny (model prog w) A (formatField (.int (n : Int) t) (Str.ofString "b")) Q E s := by
  show wpAny _ _ (holding [Value.int (n : Int) t] (pyFormat (Value.int (n : Int) t) (Str.ofString "b"))) Q E s
  refine wpAny_holding ?_
  unfold pyFormat
  refine wpAny_bind (wpAny_mkStr ?_ (by decide))
  refine wpAny_bind (m := callSpecial? (.int (n : Int) t) (Str.ofString "__format__") [.str (Str.ofString "b") s.toks])
    (wpAny_callSpecial?_slot (name := Str.ofString "__format__") (typeIs_int _ _ t) slot_int_format ?_)
  refine wpAny_call (codeAny_call_builtin slot_int_format.plain entry_int_format
    (slot_int_format.check _ _ _ _ _ _ _ _ (typeIs_int _ _ t) (args_int_format _ _) ?_))
  unfold Builtin.«int.__format__»
  simp only [selfAndOne, noKeywords, Int.intOfSelf, asInt?, asStr?, List.isEmpty_nil, if_true, pure_bind, bind_assoc, Bool.false_eq_true, if_false,
    show ((Str.ofString "b").length == 0) = false by decide,
    show (((Str.ofString "b").cps.toList.drop 1).any (· ≥ 128) || ((Str.ofString "b").cps.getD 0 0 ≥ 128 && !([60, 62, 61, 94] : List Nat).contains ((Str.ofString "b").cps.getD 1 0))) = false by decide,
    show (Value.str (Str.ofString "b") s.toks == Value.none) = false from rfl]
  refine wpAny_bind (wpAny_typeNameOf (T := "str") (typeIs_str _ _ _) (by decide) fun _ => ?_)
  refine wpAny_bind (wpAny_typeNameOfCut_int ?_)
  obtain ⟨f, hf⟩ : ∃ f, f = specB := ⟨_, rfl⟩
  have hty : f.type.getD (if (Str.ofString "b").cps.back? == some 0 then 0 else 100) = 98 := by rw [hf]; rfl
  have hpr : f.precision.isSome = false := by rw [hf]; rfl
  have hz : f.noNeg0 = false := by rw [hf]; rfl
  have hal : f.alt = false := by rw [hf]; rfl
  have hw : f.width.getD 0 = 0 := by rw [hf]; rfl
  simp only [parse_b, ← hf, hty]
  rw [if_pos (by decide)]
  show wpAny _ _ (if _ then _ else _) _ _ _
  rw [if_neg (by simp [hpr])]
  show wpAny _ _ (if _ then _ else _) _ _ _
  rw [if_neg (by simp [hz])]
  show wpAny _ _ (if _ then _ else _) _ _ _
  rw [if_neg (by decide)]
  show wpAny _ _ (if _ then _ else _) _ _ _
  rw [if_neg (by decide)]
  show wpAny _ _ (if _ then _ else _) _ _ _
  rw [if_neg (by simp [hw])]
  show wpAny _ _ (retStr _) _ _ _
  unfold retStr
  have hneg : decide ((n : Int) < 0) = false := decide_eq_false (by omega)
  have key : intField' f (decide ((n : Int) < 0)) (if f.alt = true then [] else []) ((Nat.toDigits 2 (n : Int).natAbs).map fun c => (if (98 : Nat) == 88 then c.toUpper else c).toNat) [] 4 = binS n := by
    rw [hneg, hf]
    exact field_b (binL_ne n)
  have hl2 := key ▸ hl
  have h2 := key ▸ h
  clear h hl
  subst hf
  refine wpAny_bind (wpAny_mkStr (wpAny_pure ?_) hl2)
  exact wpAny_bind (wpAny_isInstance (typeIs_str _ _ _) isSubtype_str_str (wpAny_pure h2))
end
end RR
namespace RR
open PySem PySem.Spec PyProof.Rows L2
section
variable {X : Cx}
/-- f'{x:b}' of an int from 0 on -/
def tFmtB (te : TE) : TE := fun σ H Q => te σ H fun x H1 => ∃ n : Nat, x = .int n ∧ (binS n).length ≤ sizeLine ∧ Q (.str (binS n)) H1
theorem pe_fmtB {e : Expr} {te : TE} {k : Nat} {p1 p2 p3 p4 : Pos} (he : PE X e te) :
    PE X (.JoinedStr [.FormattedValue e (-1) (some (.JoinedStr [.Constant (.str "b") k p1] p2)) p3] p4) (tFmtB te) := by
  refine pe_joined1 ⟨fun pins s σ H Q I h => ?_⟩
  refine wpAny_FormattedValue_spec (thn (he.run pins s σ H _ I h) fun v s1 hv => ?_)
  obtain ⟨x, H1, I1, r1, n, rfl, hl, q⟩ := hv
  obtain ⟨t, rfl⟩ := r1
  refine wpAny_JoinedStr_one (Calls.Constant_str ⟨_, _, rfl, ?_⟩)
  exact bin_spec hl ⟨.str (binS n), H1, (I1.tok _).tok _, ⟨_, rfl⟩, q⟩
end
end RR

namespace RR
open PySem PySem.Spec PyProof.Rows L2
/-- a def of the text, as callers see it -/
structure Cal (P : Program) (w : World) (K : PySem.W.Frag) (mg : Str → Option Value) (base : Heap) (x : Str) (k : Nat) (ps : List Str) (sp : Sp) : Prop where
  ex : ∃ (f : Addr) (fd : FuncData), FnOk P w K mg base L2.CX0 k f fd ps sp ∧ mg x = some (.ref f) ∧ PySem.W.keepIn K (.ref f) = true ∧ Binds K fd ps []
theorem Cal.mk' {P : Program} {w : World} {K : PySem.W.Frag} {mg : Str → Option Value} {base : Heap} {x : Str} {k : Nat} {ps : List Str} {sp : Sp} {f : Addr} {fd : FuncData}
    (F : FnOk P w K mg base L2.CX0 k f fd ps sp) (g : mg x = some (.ref f)) (kp : PySem.W.keepIn K (.ref f) = true) (b : Binds K fd ps []) : Cal P w K mg base x k ps sp := ⟨f, fd, F, g, kp, b⟩
section
variable {X : Cx}
def tCal (sp : Sp) (t : TA) : TE := fun σ H Q => t σ H fun vs H1 => sp vs H1 Q L2.E0
theorem pe_cal {x : Str} {k : Nat} {ps : List Str} {sp : Sp} {p pos : Pos} {e : Expr} {es : List Expr} {t : TA} (C : Cal X.prog X.w X.K X.mg X.base x k ps sp) (hr : Room k X.A) (hg : Gl X x) (ha : PA X (e :: es) t)
    (hdb : (x == ("__debug__" : Str)) = false := by decide) (he : starEach (e :: es) X.env = (false, eval e X.env) :: starEach es X.env := by rfl) (hpl : (backTo pos (starEach es X.env)).any (·.1) = false := by rfl) :
    PE X (.Call (.Name x p) (e :: es) [] pos) (tCal sp t) := by
  obtain ⟨f, fd, F, g, kp, b⟩ := C.ex
  have h := pe_call (p := p) (pos := pos) F hr hg g kp b .nil L2.pass0 ha hdb he hpl
  refine ⟨fun pins s σ H Q I q => h.run pins s σ H Q I ?_⟩
  have e0 : tCall sp [] L2.E0 t σ H Q = tCal sp t σ H Q := by
    unfold tCall tCal
    simp only [List.append_nil]
  rw [e0]
  exact q
end
/-- int(x) of an int -/
theorem call_intI {X : Cx} : CallR X (.type "int") (fun xs H Q => ∃ i, xs = [.int i] ∧ Q (.int i) H) := fun pins s σ H xs us Q I r h => call_int1 pins s σ H xs us Q I r (.inl h)
/-- a loop over a text's signs -/
theorem for_str {x : Str} {g : TG} {tb : TS} {D : Ends} {σ : L2.St} {H : Hp} (Pv : Nat → L2.St → Hp → Prop) (h0 : Pv 0 σ H)
    (hs : ∀ i c σ H, x.cps[i]? = some c → Pv i σ H → g (.str ⟨#[c]⟩) σ H fun σ2 H2 => tb { D with nx := Pv (i + 1), ct := Pv (i + 1), bk := D.nx } σ2 H2) (hd : ∀ σ H, Pv x.cps.size σ H → D.nx σ H) :
    ∃ W : Nat → Nat → L2.St → Hp → Prop, (∃ m, W 0 m σ H) ∧ ∀ i m σ H, W i m σ H →
      ((Its x).stop i H ∧ D.nx σ H) ∨ ((Its x).go i H ∧ ∃ N : L2.St → Hp → Prop, (∀ σ' H', N σ' H' → ∃ m', m' < m ∧ W (i + 1) m' σ' H') ∧ ∀ v H', (Its x).yld i H v H' → g v σ H' fun σ2 H2 => tb { D with nx := N, ct := N, bk := D.nx } σ2 H2) := by
  refine ⟨fun i m σ H => m = x.cps.size - i ∧ i ≤ x.cps.size ∧ Pv i σ H, ⟨x.cps.size, by simp, Nat.zero_le _, h0⟩, ?_⟩
  rintro i m σ H ⟨rfl, hi, p⟩
  by_cases hlt : i < x.cps.size
  · refine .inr ⟨hlt, Pv (i + 1), fun σ' H' p' => ⟨x.cps.size - (i + 1), by omega, rfl, hlt, p'⟩, fun v H' y => ?_⟩
    obtain ⟨e, c, hc, e2⟩ := y
    subst e e2
    exact hs i c σ _ hc p
  · have e : i = x.cps.size := by omega
    subst e
    exact .inl ⟨Nat.le_refl _, hd σ H p⟩
/-- for k in range(n), the turn's number from 0 on -/
theorem for_rng {n : Nat} {g : TG} {tb : TS} {D : Ends} {σ : L2.St} {H : Hp} (Pv : Nat → L2.St → Hp → Prop) (h0 : Pv 0 σ H)
    (hs : ∀ i σ H, i < n → Pv i σ H → g (.int (i : Int)) σ H fun σ2 H2 => tb { D with nx := Pv (i + 1), ct := Pv (i + 1), bk := D.nx } σ2 H2) (hd : ∀ σ H, Pv n σ H → D.nx σ H) :
    ∃ W : Nat → Nat → L2.St → Hp → Prop, (∃ m, W 0 m σ H) ∧ ∀ i m σ H, W i m σ H →
      ((Itr 0 n).stop i H ∧ D.nx σ H) ∨ ((Itr 0 n).go i H ∧ ∃ N : L2.St → Hp → Prop, (∀ σ' H', N σ' H' → ∃ m', m' < m ∧ W (i + 1) m' σ' H') ∧
        ∀ x H', (Itr 0 n).yld i H x H' → g x σ H' fun σ2 H2 => tb { D with nx := N, ct := N, bk := D.nx } σ2 H2) :=
  for_range (lo := 0) (n := n) (g := g) (tb := tb) (D := D) Pv h0 (fun i σ H hi p => by rw [Int.zero_add]; exact hs i σ H hi p) hd
theorem tC_go {v : V} {σ : L2.St} {H : Hp} {Q : VK} (q : Q v H) : tC v σ H Q := q
theorem tNil_go {σ : L2.St} {H : Hp} {Q : List V → Hp → Prop} (q : Q [] H) : tNil σ H Q := q
theorem dV (x y : Int) : decide (V.int x = V.int y) = decide (x = y) := by
  by_cases h : x = y
  · rw [decide_eq_true h, decide_eq_true (by rw [h])]
  · rw [decide_eq_false h, decide_eq_false (fun e => h (V.int.inj e))]
theorem dB (x y : Bool) : decide (V.bl x = V.bl y) = decide (x = y) := by cases x <;> cases y <;> rfl
/-! heaps -/
theorem same_upd {H : Hp} {p : Addr} {o : HO} (h : H p = none) : Same H (upd H p o) := fun b x e => by
  rw [upd_ne (ne_of_none e h)]
  exact e
theorem sq_new {K : PySem.W.Frag} {H : Hp} {p : Addr} {xs : List V} : SqT K (upd H p (.tup xs)) p xs := .inl (.inl upd_same)
theorem sq_of {K : PySem.W.Frag} {H : Hp} {p : Addr} {xs : List V} (h : H p = some (.tup xs)) : SqT K H p xs := .inl (.inl h)
theorem gTup_new {K : PySem.W.Frag} {n : Nat} {t : TGs} {σ : L2.St} {H : Hp} {Q : L2.St → Hp → Prop} {p : Addr} {xs : List V} (h : xs.length = n) (q : t xs σ (upd H p (.tup xs)) Q) :
    gTup K n t (.ref p) σ (upd H p (.tup xs)) Q := ⟨p, xs, rfl, sq_new, h, q⟩
theorem gTup_as {K : PySem.W.Frag} {n : Nat} {t : TGs} {σ : L2.St} {H : Hp} {Q : L2.St → Hp → Prop} {p : Addr} {xs : List V} (hS : SqT K H p xs) (h : xs.length = n) (q : t xs σ H Q) :
    gTup K n t (.ref p) σ H Q := ⟨p, xs, rfl, hS, h, q⟩
theorem ixT_new {K : PySem.W.Frag} {H : Hp} {Q : VK} {p : Addr} {xs : List V} {i : Int} {v : V} (h : atI xs i = some v) (q : Q v (upd H p (.tup xs))) :
    rIxT K (.ref p) (.int i) (upd H p (.tup xs)) Q := ⟨p, xs, i, v, rfl, rfl, sq_new, h, q⟩
theorem ixT_as {K : PySem.W.Frag} {H : Hp} {Q : VK} {p : Addr} {xs : List V} {i : Int} {v : V} (hS : SqT K H p xs) (h : atI xs i = some v) (q : Q v H) :
    rIxT K (.ref p) (.int i) H Q := ⟨p, xs, i, v, rfl, rfl, hS, h, q⟩
theorem ixL_as {K : PySem.W.Frag} {H : Hp} {Q : VK} {p : Addr} {xs : List V} {i : Int} {v : V} (hS : SqL K H p xs) (h : atI xs i = some v) (q : Q v H) :
    rIxL K (.ref p) (.int i) H Q := ⟨p, xs, i, v, rfl, rfl, hS, h, q⟩
/-! sizes -/
/-- below 2 ^ k -/
def Sm (k : Nat) (x : Int) : Prop := x.natAbs < 2 ^ k
theorem Sm.mono {j k : Nat} {x : Int} (h : Sm j x) (l : j ≤ k) : Sm k x := Nat.lt_of_lt_of_le h (Nat.pow_le_pow_right (by omega) l)
theorem Sm.mul {j k : Nat} {x y : Int} (h : Sm j x) (l : Sm k y) : Sm (j + k) (x * y) := wide_lt h l
theorem Sm.add {k : Nat} {x y : Int} (h : Sm k x) (l : Sm k y) : Sm (k + 1) (x + y) := by
  unfold Sm at *
  have : (x + y).natAbs ≤ x.natAbs + y.natAbs := Int.natAbs_add_le x y
  rw [Nat.pow_succ]
  omega
theorem Sm.neg {k : Nat} {x : Int} (h : Sm k x) : Sm k (-x) := by
  unfold Sm at *
  omega
theorem Sm.sub {k : Nat} {x y : Int} (h : Sm k x) (l : Sm k y) : Sm (k + 1) (x - y) := by
  have := h.add l.neg
  rwa [← Int.sub_eq_add_neg] at this
theorem Sm.ad {j k : Nat} {x y : Int} (h : Sm j x) (l : Sm k y) : Sm (j + k + 1) (x + y) := (h.mono (Nat.le_add_right j k)).add (l.mono (Nat.le_add_left k j))
theorem Sm.sb {j k : Nat} {x y : Int} (h : Sm j x) (l : Sm k y) : Sm (j + k + 1) (x - y) := (h.mono (Nat.le_add_right j k)).sub (l.mono (Nat.le_add_left k j))
theorem Sm.lit {k : Nat} {x : Int} (h : x.natAbs < 2 ^ k := by decide) : Sm k x := h
theorem Sm.le {k : Nat} {x y : Int} (h : Sm k y) (h0 : 0 ≤ x) (h1 : x ≤ y) : Sm k x := by
  unfold Sm at *
  omega
theorem Sm.pw {j : Nat} {x : Int} (h : Sm j x) (n : Nat) : Sm (j * n + 1) (x ^ n) := by
  induction n with
  | zero => rw [Int.pow_zero]; exact (Sm.lit (k := 1)).mono (by omega)
  | succ n ih => rw [Int.pow_succ]; exact (ih.mul h).mono (by rw [Nat.mul_succ]; omega)
/-- what * asks -/
theorem Sm.mx {j k : Nat} {x y : Int} (h : Sm j x) (l : Sm k y) (b : j + k ≤ 134217728) : CMulX x y := mulx_ok h l b
end RR

namespace RR
open PySem PySem.Spec PyProof.Rows L2
/-- a tuple of two ints -/
def Tp (K : PySem.W.Frag) (H : Hp) (v : V) (x y : Int) : Prop := ∃ p, v = .ref p ∧ SqT K H p [.int x, .int y]
theorem Tp.of {K : PySem.W.Frag} {H : Hp} {p : Addr} {x y : Int} (h : H p = some (.tup [.int x, .int y])) : Tp K H (.ref p) x y := ⟨p, rfl, sq_of h⟩
theorem dp2 {K : PySem.W.Frag} {H : Hp} {v : V} {x y : Int} (h : Tp K H v x y) : Dp K H v (.tuple [.int x, .int y]) := by
  obtain ⟨p, rfl, h⟩ := h
  exact .tup h (.cons (.int x) (.cons (.int y) .nil))
theorem eqv2 (x y u v : Int) : PyData.eqv (.tuple [.int x, .int y]) (.tuple [.int u, .int v]) = (decide (x = u) && decide (y = v)) := by
  simp only [PyData.eqv, PyData.eqvAll, Bool.and_true]
  rfl
section
variable {X : Cx}
/-- ==, != of two tuples of two ints -/
theorem op_eq2 (hu : X.A.units + 64 < cLine) : OpR X (compareOp .Eq) (fun x y H Q => ∃ a b c d, Tp X.K H x a b ∧ Tp X.K H y c d ∧ Q (.bl (decide (a = c) && decide (b = d))) H) := by
  intro pins s σ H x y v u Q I rx ry h
  obtain ⟨a, b, c, d, h1, h2, q⟩ := h
  exact op_eqD hu pins s σ H x y v u Q I rx ry ⟨_, _, dp2 h1, dp2 h2, rfl, rfl, by rw [eqv2]; exact q⟩
theorem op_ne2 (hu : X.A.units + 64 < cLine) : OpR X (compareOp .NotEq) (fun x y H Q => ∃ a b c d, Tp X.K H x a b ∧ Tp X.K H y c d ∧ Q (.bl (!(decide (a = c) && decide (b = d)))) H) := by
  intro pins s σ H x y v u Q I rx ry h
  obtain ⟨a, b, c, d, h1, h2, q⟩ := h
  exact op_neD hu pins s σ H x y v u Q I rx ry ⟨_, _, dp2 h1, dp2 h2, rfl, rfl, by rw [eqv2]; exact q⟩
/-- a ** b of a great int -/
def CPowW (i j : Int) : Prop := 0 ≤ j ∧ (Builtin.Int.intBits i : Int) * j ≤ 2 ^ 27
theorem op_powW : OpR X (binaryOp .Pow) (rI CPowW fun i j => .int (i ^ j.toNat)) := opI fun i j _ _ _ _ _ hc q => pow_int hc.1 hc.2 q
/-- isinstance of an int -/
theorem isi_int : CallR X (.builtin "isinstance") (fun xs H Q => ∃ i : Int, xs = [.int i, .ty "int"] ∧ Q (.bl true) H) := by
  intro pins s σ H xs us Q I r h
  obtain ⟨i, rfl, q⟩ := h
  exact call_isi pins s σ H _ us Q I r ⟨.int i, .ty "int", .type "int", .type "int", true, rfl, .ty "int", .base (.int i), kit_ty (by decide +kernel), q⟩
theorem isi_bool : CallR X (.builtin "isinstance") (fun xs H Q => ∃ i : Int, xs = [.int i, .ty "bool"] ∧ Q (.bl false) H) := by
  intro pins s σ H xs us Q I r h
  obtain ⟨i, rfl, q⟩ := h
  exact call_isi pins s σ H _ us Q I r ⟨.int i, .ty "bool", .type "int", .type "bool", false, rfl, .ty "bool", .base (.int i), kit_ty (by decide +kernel), q⟩
theorem isi_list : CallR X (.builtin "isinstance") (fun xs H Q => ∃ (a : Addr) (ys : List V), xs = [.ref a, .ty "list"] ∧ H a = some (.lst ys) ∧ Q (.bl true) H) := by
  intro pins s σ H xs us Q I r h
  obtain ⟨a, ys, rfl, e, q⟩ := h
  exact call_isi pins s σ H _ us Q I r ⟨.ref a, .ty "list", .type "list", .type "list", true, rfl, .ty "list", .base (.lst e), kit_ty (by decide +kernel), q⟩
theorem isi_tup : CallR X (.builtin "isinstance") (fun xs H Q => ∃ (a : Addr) (ys : List V), xs = [.ref a, .ty "tuple"] ∧ H a = some (.tup ys) ∧ Q (.bl true) H) := by
  intro pins s σ H xs us Q I r h
  obtain ⟨a, ys, rfl, e, q⟩ := h
  exact call_isi pins s σ H _ us Q I r ⟨.ref a, .ty "tuple", .type "tuple", .type "tuple", true, rfl, .ty "tuple", .base (.tup e), kit_ty (by decide +kernel), q⟩
end
/-- an if and what follows it, once -/
theorem split_if {c : Prop} [Decidable c] {t u : TS} {D : Ends} {σ : L2.St} {H : Hp} (R : L2.St → Hp → Prop) (hR : ∀ σ' H', R σ' H' → D.nx σ' H')
    (h : ∀ D' : Ends, (∀ σ' H', R σ' H' → D'.nx σ' H') → if c then t D' σ H else u D' σ H) : if c then t D σ H else u D σ H := h D hR
theorem sm_bits {z : Int} {k : Nat} (h : Builtin.Int.intBits z ≤ k) : Sm k z := by
  unfold Builtin.Int.intBits at h
  unfold Sm
  split at h
  · rename_i e
    have e0 : z = 0 := by simpa using e
    subst e0
    exact Nat.two_pow_pos k
  · exact Nat.lt_of_lt_of_le Nat.lt_log2_self (Nat.pow_le_pow_right (by decide) h)
theorem getD_bits {ns : List Int} {k : Nat} (h : ∀ z ∈ ns, Builtin.Int.intBits z ≤ k) (i : Nat) : Sm k (ns.getD i 0) := by
  rw [List.getD_eq_getElem?_getD]
  cases e : ns[i]? with
  | none => exact Nat.two_pow_pos k
  | some z => exact sm_bits (h z (List.mem_of_getElem? e))
end RR

namespace RR
/-! the pairs of a base -/
def XY (a : Int) : Nat → Int × Int
  | 0 => (1, 0)
  | n + 1 => (a * (XY a n).1 + (a * a - 1) * (XY a n).2, (XY a n).1 + a * (XY a n).2)
def px (a : Int) (n : Nat) : Int := (XY a n).1
def py (a : Int) (n : Nat) : Int := (XY a n).2
theorem px0 (a : Int) : px a 0 = 1 := rfl
theorem py0 (a : Int) : py a 0 = 0 := rfl
theorem px1 (a : Int) (n : Nat) : px a (n + 1) = a * px a n + (a * a - 1) * py a n := rfl
theorem py1 (a : Int) (n : Nat) : py a (n + 1) = px a n + a * py a n := rfl
theorem pell (a : Int) (n : Nat) : px a n * px a n - (a * a - 1) * (py a n * py a n) = 1 := by
  induction n with
  | zero => rw [px0, py0]; omega
  | succ n ih => rw [px1, py1]; grind
theorem pxy_add (a : Int) (m n : Nat) : px a (m + n) = px a m * px a n + (a * a - 1) * (py a m * py a n) ∧ py a (m + n) = px a m * py a n + py a m * px a n := by
  induction n with
  | zero => rw [px0, py0, Nat.add_zero]; constructor <;> grind
  | succ n ih =>
    obtain ⟨h1, h2⟩ := ih
    rw [← Nat.add_assoc, px1, py1, px1, py1, h1, h2]
    constructor <;> grind
theorem px_dbl (a : Int) (n : Nat) : px a (2 * n) = 2 * px a n * px a n - 1 := by
  rw [Nat.two_mul, (pxy_add a n n).1]
  have := pell a n
  grind
theorem py_dbl (a : Int) (n : Nat) : py a (2 * n) = 2 * px a n * py a n := by
  rw [Nat.two_mul, (pxy_add a n n).2]
  grind
theorem pxy_pos {a : Int} (ha : 2 ≤ a) (n : Nat) : 0 ≤ py a n ∧ py a n < px a n := by
  induction n with
  | zero => rw [px0, py0]; omega
  | succ n ih =>
    obtain ⟨h1, h2⟩ := ih
    rw [px1, py1]
    have e1 : a * a ≥ 2 * a := Int.mul_le_mul_of_nonneg_right ha (by omega)
    have e2 : a * px a n ≥ 2 * px a n := Int.mul_le_mul_of_nonneg_right ha (by omega)
    have e3 : (a * a - 1) * py a n ≥ a * py a n := Int.mul_le_mul_of_nonneg_right (by omega) h1
    have e4 : 0 ≤ a * py a n := Int.mul_nonneg (by omega) h1
    omega
theorem px_mono1 {a : Int} (ha : 2 ≤ a) (n : Nat) : px a n ≤ px a (n + 1) := by
  obtain ⟨h1, h2⟩ := pxy_pos ha n
  rw [px1]
  have e1 : a * a ≥ 2 * a := Int.mul_le_mul_of_nonneg_right ha (by omega)
  have e2 : a * px a n ≥ 2 * px a n := Int.mul_le_mul_of_nonneg_right ha (by omega)
  have e3 : 0 ≤ (a * a - 1) * py a n := Int.mul_nonneg (by omega) h1
  omega
theorem px_mono {a : Int} (ha : 2 ≤ a) {m n : Nat} (h : m ≤ n) : px a m ≤ px a n := by
  induction h with
  | refl => exact Int.le_refl _
  | step _ ih => exact Int.le_trans ih (px_mono1 ha _)
/-! signs to the base two -/
def bval (l : List Nat) : Nat := l.foldl (fun v c => 2 * v + (c - 48)) 0
theorem bval_snoc (l : List Nat) (c : Nat) : bval (l ++ [c]) = 2 * bval l + (c - 48) := by
  unfold bval
  rw [List.foldl_append]
  rfl
theorem dig2 {d : Nat} (h : d < 2) : (Nat.digitChar d).toNat = 48 + d := by
  match d, h with
  | 0, _ => rfl
  | 1, _ => rfl
theorem binL_lt {n : Nat} (h : n < 2) : binL n = [48 + n] := by
  unfold binL
  rw [Nat.toDigits_of_lt_base h, List.map_singleton, dig2 h]
theorem binL_ge {n : Nat} (h : 2 ≤ n) : binL n = binL (n / 2) ++ [48 + n % 2] := by
  unfold binL
  rw [Nat.toDigits_of_base_le (by decide) h, List.map_append, List.map_singleton, dig2 (Nat.mod_lt _ (by decide))]
theorem bval_bin (n : Nat) : bval (binL n) = n := by
  induction n using Nat.strongRecOn with
  | ind n ih =>
    by_cases h : n < 2
    · rw [binL_lt h]
      show 2 * 0 + (48 + n - 48) = n
      omega
    · rw [binL_ge (by omega), bval_snoc, ih (n / 2) (by omega)]
      omega
theorem bin_mem (n : Nat) : ∀ c ∈ binL n, c = 48 ∨ c = 49 := by
  induction n using Nat.strongRecOn with
  | ind n ih =>
    intro c hc
    by_cases h : n < 2
    · rw [binL_lt h, List.mem_singleton] at hc
      omega
    · rw [binL_ge (by omega), List.mem_append, List.mem_singleton] at hc
      rcases hc with hc | hc
      · exact ih (n / 2) (by omega) c hc
      · omega
theorem bval_take {l : List Nat} {i c : Nat} (h : l[i]? = some c) : bval (l.take (i + 1)) = 2 * bval (l.take i) + (c - 48) := by
  rw [List.take_add_one, h]
  exact bval_snoc _ c
theorem fold_ge (m : List Nat) : ∀ v : Nat, v ≤ m.foldl (fun v c => 2 * v + (c - 48)) v := by
  induction m with
  | nil => intro v; exact Nat.le_refl _
  | cons c m ih =>
    intro v
    have := ih (2 * v + (c - 48))
    rw [List.foldl_cons]
    omega
theorem bval_app (l m : List Nat) : bval l ≤ bval (l ++ m) := by
  unfold bval
  rw [List.foldl_append]
  exact fold_ge m _
theorem bval_le (l : List Nat) (i : Nat) : bval (l.take i) ≤ bval l := by
  have := bval_app (l.take i) (l.drop i)
  rwa [List.take_append_drop] at this
theorem bin_len {n k : Nat} (h : n < 2 ^ k) (hk : 0 < k) : (binS n).length ≤ k := by
  show (binL n).toArray.size ≤ k
  rw [List.size_toArray]
  unfold binL
  rw [List.length_map]
  exact (Nat.length_toDigits_le_iff (by decide) hk).mpr h
end RR
namespace RR
theorem rest_dx (a : Int) (v : Nat) (m : Int) : (2 * (px a v % m) * (px a v % m) - 1) % m = (2 * px a v * px a v - 1) % m := by
  rw [Int.sub_emod, Int.mul_emod, Int.mul_emod 2, Int.emod_emod, ← Int.mul_emod 2, ← Int.mul_emod, ← Int.sub_emod]
theorem rest_dy (a : Int) (v : Nat) (m : Int) : (2 * (px a v % m) * (py a v % m)) % m = (2 * px a v * py a v) % m := by
  rw [Int.mul_emod, Int.mul_emod 2, Int.emod_emod, Int.emod_emod, ← Int.mul_emod 2, ← Int.mul_emod]
theorem modeq {m a b : Int} (k : Int) (h : a - b = m * k) : a % m = b % m :=
  Int.emod_eq_emod_iff_emod_sub_eq_zero.mpr (Int.emod_eq_zero_of_dvd ⟨k, h⟩)
theorem rest_nx (a x y m : Int) : (a * x + (a * a - 1) * y) % m = ((a % m) * (x % m) + ((a % m) * (a % m) - 1) * (y % m)) % m := by
  have h1 := Int.mul_ediv_add_emod a m
  have h2 := Int.mul_ediv_add_emod x m
  have h3 := Int.mul_ediv_add_emod y m
  generalize a % m = A at *
  generalize x % m = X at *
  generalize y % m = Y at *
  generalize a / m = q1 at *
  generalize x / m = q2 at *
  generalize y / m = q3 at *
  exact modeq (q1 * x + A * q2 + (a * a - 1) * q3 + q1 * (a + A) * Y) (by grind)
theorem rest_ny (a x y m : Int) : (x + a * y) % m = ((x % m) + (a % m) * (y % m)) % m := by
  have h1 := Int.mul_ediv_add_emod a m
  have h2 := Int.mul_ediv_add_emod x m
  have h3 := Int.mul_ediv_add_emod y m
  generalize a % m = A at *
  generalize x % m = X at *
  generalize y % m = Y at *
  generalize a / m = q1 at *
  generalize x / m = q2 at *
  generalize y / m = q3 at *
  exact modeq (q2 + q1 * y + A * q3) (by grind)
end RR
namespace RR
theorem px_step {a : Int} (ha : 2 ≤ a) (n : Nat) : (a * a - 1) * py a n ≤ a * px a n := by
  induction n with
  | zero => rw [px0, py0]; omega
  | succ n ih =>
    obtain ⟨h1, h2⟩ := pxy_pos ha n
    rw [px1, py1]
    have : a * (a * px a n + (a * a - 1) * py a n) - (a * a - 1) * (px a n + a * py a n) = px a n := by grind
    omega
theorem px_pow {a : Int} (ha : 2 ≤ a) (n : Nat) : px a n ≤ (2 * a) ^ n := by
  induction n with
  | zero => rw [px0, Int.pow_zero]; exact Int.le_refl _
  | succ n ih =>
    have h := px_step ha n
    rw [px1, Int.pow_succ]
    have e := Int.mul_le_mul_of_nonneg_right ih (show 0 ≤ 2 * a by omega)
    have : px a n * (2 * a) = a * px a n + a * px a n := by grind
    omega
theorem px_nat {a : Int} (ha : 2 ≤ a) (n B : Nat) (hB : 2 * a ≤ 2 ^ B) : (px a n).natAbs < 2 ^ (B * n + 1) := by
  have h := px_pow ha n
  have h0 := pxy_pos ha n
  have h2 : (2 * a) ^ n ≤ ((2 : Int) ^ B) ^ n := by
    have hp : ∀ k : Nat, (2 * a) ^ k ≤ ((2 : Int) ^ B) ^ k ∧ 0 ≤ (2 * a) ^ k := by
      intro k
      induction k with
      | zero => exact ⟨by rw [Int.pow_zero, Int.pow_zero]; exact Int.le_refl _, by rw [Int.pow_zero]; decide⟩
      | succ k ih =>
        rw [Int.pow_succ, Int.pow_succ]
        exact ⟨Int.mul_le_mul ih.1 hB (by omega) (Int.le_trans ih.2 ih.1), Int.mul_nonneg ih.2 (by omega)⟩
    exact (hp n).1
  have e : ((2 : Int) ^ B) ^ n = ((2 ^ (B * n) : Nat) : Int) := by
    rw [← Int.pow_mul]
    exact (Int.natCast_pow 2 (B * n)).symm
  rw [e] at h2
  rw [Nat.pow_succ]
  generalize (2 : Nat) ^ (B * n) = P at *
  omega
/-- what a power of x leaves -/
theorem px_power (a x : Int) (n : Nat) : ∃ k, px a n - py a n * (a - x) - x ^ n = (2 * a * x - x * x - 1) * k := by
  induction n with
  | zero => exact ⟨0, by rw [px0, py0, Int.pow_zero]; omega⟩
  | succ n ih =>
    obtain ⟨k, hk⟩ := ih
    refine ⟨x * k + py a n, ?_⟩
    rw [px1, py1, Int.pow_succ]
    grind
theorem px_cong (a b m : Int) (k : Int) (h : a - b = m * k) (n : Nat) : (∃ q, px a n - px b n = m * q) ∧ ∃ q, py a n - py b n = m * q := by
  induction n with
  | zero => exact ⟨⟨0, by rw [px0, px0]; omega⟩, ⟨0, by rw [py0, py0]; omega⟩⟩
  | succ n ih =>
    obtain ⟨⟨q, hq⟩, ⟨r, hr⟩⟩ := ih
    refine ⟨⟨k * px a n + b * q + (a * a - 1) * r + k * (a + b) * py b n, ?_⟩, ⟨q + k * py a n + b * r, ?_⟩⟩
    · rw [px1, px1]; grind
    · rw [py1, py1]; grind
end RR
namespace RR
theorem px_rec (a : Int) (k : Nat) : px a (k + 2) = 2 * a * px a (k + 1) - px a k := by
  rw [px1 a (k + 1), px1, py1]; grind
theorem py_rec (a : Int) (k : Nat) : py a (k + 2) = 2 * a * py a (k + 1) - py a k := by
  rw [py1 a (k + 1), px1, py1]; grind
theorem rest_rec {a m x2 X2 x1 X1 : Int} (h2 : x2 % m = X2 % m) (h1 : x1 % m = X1 % m) : (2 * a * x2 - x1) % m = (2 * a * X2 - X1) % m := by
  have e1 := Int.mul_ediv_add_emod x2 m
  have e2 := Int.mul_ediv_add_emod X2 m
  have e3 := Int.mul_ediv_add_emod x1 m
  have e4 := Int.mul_ediv_add_emod X1 m
  rw [h2] at e1
  rw [h1] at e3
  generalize X2 % m = A at *
  generalize X1 % m = B at *
  exact modeq (2 * a * (x2 / m - X2 / m) - (x1 / m - X1 / m)) (by grind)
theorem rest_dx' {a x : Int} {v : Nat} {m : Int} (h : x % m = px a v % m) : (2 * x * x - 1) % m = px a (2 * v) % m := by
  rw [px_dbl, ← rest_dx a v m, ← h]
  have e1 := Int.mul_ediv_add_emod x m
  generalize x % m = A at *
  exact modeq (2 * (x / m) * (x + A)) (by grind)
theorem rest_dy' {a x y : Int} {v : Nat} {m : Int} (h : x % m = px a v % m) (h' : y % m = py a v % m) : (2 * x * y) % m = py a (2 * v) % m := by
  rw [py_dbl, ← rest_dy a v m, ← h, ← h']
  have e1 := Int.mul_ediv_add_emod x m
  have e2 := Int.mul_ediv_add_emod y m
  generalize x % m = A at *
  generalize y % m = B at *
  exact modeq (2 * (x / m) * y + 2 * A * (y / m)) (by grind)
theorem rest_nx' {a x y : Int} {v : Nat} {m : Int} (h : x % m = px a v % m) (h' : y % m = py a v % m) : (a * x + (a * a - 1) * y) % m = px a (v + 1) % m := by
  rw [px1, rest_nx a x y, rest_nx a (px a v), h, h']
theorem rest_ny' {a x y : Int} {v : Nat} {m : Int} (h : x % m = px a v % m) (h' : y % m = py a v % m) : (x + a * y) % m = py a (v + 1) % m := by
  rw [py1, rest_ny a x y, rest_ny a (px a v), h, h']
/-- the value of signs, the lowest first -/
def lval : List Int → Nat
  | [] => 0
  | d :: r => d.toNat + 2 * lval r
theorem lval_app (l : List Int) (d : Int) : lval (l ++ [d]) = lval l + 2 ^ l.length * d.toNat := by
  induction l with
  | nil => show d.toNat + 2 * 0 = 0 + 2 ^ 0 * d.toNat; omega
  | cons c l ih =>
    show c.toNat + 2 * lval (l ++ [d]) = c.toNat + 2 * lval l + 2 ^ (l.length + 1) * d.toNat
    rw [ih, Nat.pow_succ, Nat.mul_add, Nat.mul_comm (2 ^ l.length) 2, Nat.mul_assoc]
    omega
theorem lval_drop {l : List Int} {i : Nat} {d : Int} (h : l[i]? = some d) : lval (l.drop i) = d.toNat + 2 * lval (l.drop (i + 1)) := by
  obtain ⟨hi, e⟩ := List.getElem?_eq_some_iff.mp h
  rw [List.drop_eq_getElem_cons hi, e]
  rfl
end RR
namespace RR
theorem rest_addx (a m : Int) (i j : Nat) : ((px a i % m) * (px a j % m) + (a * a - 1) * (py a i % m) * (py a j % m)) % m = px a (i + j) % m := by
  rw [(pxy_add a i j).1]
  have e1 := Int.mul_ediv_add_emod (px a i) m
  have e2 := Int.mul_ediv_add_emod (px a j) m
  have e3 := Int.mul_ediv_add_emod (py a i) m
  have e4 := Int.mul_ediv_add_emod (py a j) m
  generalize px a i % m = A at *
  generalize px a j % m = B at *
  generalize py a i % m = C at *
  generalize py a j % m = D at *
  exact (modeq ((px a i / m) * px a j + A * (px a j / m) + (a * a - 1) * ((py a i / m) * py a j + C * (py a j / m))) (by grind)).symm
theorem rest_addy (a m : Int) (i j : Nat) : ((px a i % m) * (py a j % m) + (py a i % m) * (px a j % m)) % m = py a (i + j) % m := by
  rw [(pxy_add a i j).2]
  have e1 := Int.mul_ediv_add_emod (px a i) m
  have e2 := Int.mul_ediv_add_emod (px a j) m
  have e3 := Int.mul_ediv_add_emod (py a i) m
  have e4 := Int.mul_ediv_add_emod (py a j) m
  generalize px a i % m = A at *
  generalize px a j % m = B at *
  generalize py a i % m = C at *
  generalize py a j % m = D at *
  exact (modeq ((px a i / m) * py a j + A * (py a j / m) + (py a i / m) * px a j + C * (px a j / m)) (by grind)).symm
end RR
namespace RR
theorem sq_lt {g k e : Nat} (h : g < 2 ^ e) (hk : k < 4) (he : 3 ≤ e) : g * g + k < 2 ^ (e * 2) := by
  have h8 : 2 ^ 3 ≤ 2 ^ e := Nat.pow_le_pow_right (by decide) he
  rw [Nat.pow_mul, Nat.pow_two]
  generalize 2 ^ e = P at *
  have h1 := Nat.mul_le_mul (show g + 1 ≤ P from h) (show g + 1 ≤ P from h)
  have h2 := Nat.mul_le_mul h8 h8
  have h3 : (g + 1) * (g + 1) = g * g + 2 * g + 1 := by grind
  by_cases hg : g < 2
  · have : g * g ≤ 1 * 1 := Nat.mul_le_mul (by omega) (by omega)
    omega
  · omega
end RR

namespace RR
open PySem PySem.Spec PyProof.Rows L2
section
variable {X : Cx}
/-- f(*y) -/
theorem pe_calS {x : Str} {k : Nat} {ps : List Str} {sp : Sp} {p pos sp_ : Pos} {e : Expr} {te : TE} (C : Cal X.prog X.w X.K X.mg X.base x k ps sp) (hr : Room k X.A) (hg : Gl X x) (he : PE X e te)
    (hd : (x == ("__debug__" : Str)) = false := by decide) (hst : starEach [.Starred e sp_] X.env = [(true, eval e X.env)] := by rfl) :
    PE X (.Call (.Name x p) [.Starred e sp_] [] pos) (fun σ H Q => te σ H fun y H1 => ∃ a xs, y = V.ref a ∧ (SqT X.K H1 a xs ∨ SqL X.K H1 a xs) ∧ sp xs H1 Q L2.E0) := by
  obtain ⟨f, fd, F, g, kp, b⟩ := C.ex
  have h := StX.pe_callS1 (p := p) (pos := pos) (sp_ := sp_) (F.raw b .nil) hr kp hg g L2.pass0 he hd hst
  refine ⟨fun pins s σ H Q I q => h.run pins s σ H Q I ?_⟩
  simp only [List.append_nil]
  exact q
end
/-- for x in reversed(xs) -/
theorem for_rev {K : PySem.W.Frag} {a : Addr} {xs : List V} {g : TG} {tb : TS} {D : Ends} {σ : L2.St} {H : Hp} (Pv : Nat → L2.St → Hp → Prop) (h0 : Pv 0 σ H) (hl : ∀ i σ H, i ≤ xs.length → Pv i σ H → SqL K H a xs)
    (hs : ∀ i x σ H, i < xs.length → xs[xs.length - 1 - i]? = some x → Pv i σ H → g x σ H fun σ2 H2 => tb { D with nx := Pv (i + 1), ct := Pv (i + 1), bk := D.nx } σ2 H2) (hd : ∀ σ H, Pv xs.length σ H → D.nx σ H) :
    ∃ W : Nat → Nat → L2.St → Hp → Prop, (∃ m, W 0 m σ H) ∧ ∀ i m σ H, W i m σ H →
      ((Itv K a xs.length).stop i H ∧ D.nx σ H) ∨ ((Itv K a xs.length).go i H ∧ ∃ N : L2.St → Hp → Prop, (∀ σ' H', N σ' H' → ∃ m', m' < m ∧ W (i + 1) m' σ' H') ∧
        ∀ x H', (Itv K a xs.length).yld i H x H' → g x σ H' fun σ2 H2 => tb { D with nx := N, ct := N, bk := D.nx } σ2 H2) := by
  refine ⟨fun i m σ H => m = xs.length - i ∧ i ≤ xs.length ∧ Pv i σ H, ⟨xs.length, by simp, Nat.zero_le _, h0⟩, ?_⟩
  rintro i m σ H ⟨rfl, hi, p⟩
  have q := hl i σ H hi p
  by_cases hlt : i < xs.length
  · have hix : xs[xs.length - 1 - i]? = some (xs[xs.length - 1 - i]'(by omega)) := List.getElem?_eq_getElem (by omega)
    refine .inr ⟨⟨hlt, xs, _, q, hix⟩, Pv (i + 1), fun σ' H' p' => ⟨xs.length - (i + 1), by omega, rfl, hlt, p'⟩, fun x H' y => ?_⟩
    obtain ⟨e, y⟩ := y
    subst e
    exact hs i x σ _ hlt (y xs q) p
  · have e : i = xs.length := by omega
    subst e
    exact .inl ⟨Nat.le_refl _, hd σ H p⟩
theorem Same.new {H H1 : Hp} {p : Addr} {o : HO} (s : Same H H1) (h : H p = none) : Same H (upd H1 p o) := fun b u e => by
  rw [upd_ne (ne_of_none e h)]
  exact s b u e
theorem px_ge {a : Int} (ha : 2 ≤ a) (n : Nat) : ((2 ^ n : Nat) : Int) ≤ px a n := by
  induction n with
  | zero => rw [px0]; decide
  | succ n ih =>
    obtain ⟨h1, h2⟩ := pxy_pos ha n
    rw [px1]
    have e1 : a * a ≥ 2 * a := Int.mul_le_mul_of_nonneg_right ha (by omega)
    have e2 : a * px a n ≥ 2 * px a n := Int.mul_le_mul_of_nonneg_right ha (by omega)
    have e3 : 0 ≤ (a * a - 1) * py a n := Int.mul_nonneg (by omega) h1
    rw [Nat.pow_succ]
    push_cast at *
    omega
theorem px_ix {a : Int} (ha : 2 ≤ a) {n B : Nat} (h : Sm B (px a n)) : n < B := by
  have h1 := px_ge ha n
  have h2 := pxy_pos ha n
  unfold Sm at h
  by_cases c : n < B
  · exact c
  · have := Nat.pow_le_pow_right (n := 2) (by decide) (show B ≤ n by omega)
    omega
theorem app_go {H : Hp} {Q : VK} {p : Addr} {v : V} {xs : List V} (h : H p = some (.lst xs)) (hl : xs.length < sizeLine) (q : Q .non (upd H p (.lst (xs ++ [v])))) : rAppend (.ref p) [v] H Q :=
  ⟨p, xs, v, rfl, rfl, h, hl, q⟩
theorem atI_neg {α : Type} {xs : List α} {k : Nat} {v : α} (h0 : 0 < k) (hk : k ≤ xs.length) (h : xs[xs.length - k]? = some v) : atI xs (-(k : Int)) = some v := by
  unfold atI ixN
  rw [if_neg (by omega), if_pos (by omega)]
  show xs[(-(k : Int) + xs.length).toNat]? = some v
  rw [show (-(k : Int) + xs.length).toNat = xs.length - k by omega]
  exact h
theorem cut_take (xs : List V) (n : Nat) (h : n ≤ xs.length) : cutV xs none (some (n : Int)) = xs.take n := by
  unfold cutV
  rw [HT.sIx_none, HT.sIx_nat, Nat.min_eq_left h, List.drop_zero, Nat.sub_zero]
theorem cut_mid (xs : List V) (i j : Nat) (hi : i ≤ xs.length) (hj : j ≤ xs.length) : cutV xs (some (i : Int)) (some (j : Int)) = (xs.drop i).take (j - i) := by
  unfold cutV
  rw [HT.sIx_nat, HT.sIx_nat, Nat.min_eq_left hi, Nat.min_eq_left hj]
/-- at L a list of the pairs with the indexes 0, 1, .. -/
def PL (a : Int) (H : Hp) (L : Addr) (n : Nat) : Prop := ∃ ps : List Addr, ps.length = n ∧ H L = some (.lst (ps.map V.ref)) ∧ ∀ (i : Nat) (p : Addr), ps[i]? = some p → H p = some (.tup [.int (px a i), .int (py a i)])
theorem PL.keep {a : Int} {H H' : Hp} {L : Addr} {n : Nat} (h : PL a H L n) (s : Same H H') : PL a H' L n := by
  obtain ⟨ps, e, hL, hp⟩ := h
  exact ⟨ps, e, s _ _ hL, fun i p hi => s _ _ (hp i p hi)⟩
theorem PL.at {K : PySem.W.Frag} {a : Int} {H : Hp} {L : Addr} {n : Nat} (h : PL a H L n) {Q : VK} {i : Nat} (hi : i < n) (q : ∀ p, H p = some (.tup [.int (px a i), .int (py a i)]) → Q (.ref p) H) :
    rIxL K (.ref L) (.int (i : Int)) H Q := by
  obtain ⟨ps, e, hL, hp⟩ := h
  have h1 : ps[i]? = some (ps[i]'(by omega)) := List.getElem?_eq_getElem (by omega)
  exact ixL_as (.inl (.inl hL)) (atI_nat (by rw [List.getElem?_map, h1]; rfl)) (q _ (hp i _ h1))
theorem PL.at' {K : PySem.W.Frag} {a : Int} {H : Hp} {L : Addr} {n : Nat} (h : PL a H L n) {Q : VK} {i : Nat} {z : Int} (e : z = (i : Int)) (hi : i < n) (q : ∀ p, H p = some (.tup [.int (px a i), .int (py a i)]) → Q (.ref p) H) :
    rIxL K (.ref L) (.int z) H Q := by
  subst e
  exact h.at hi q
theorem ne_self {x y : V} (h : x = y) : ¬ (!decide (x = y)) = true := by
  rw [decide_eq_true h]
  decide
theorem ne2_self {a b c d : Int} (h : a = c) (h' : b = d) : ¬ (!(decide (a = c) && decide (b = d))) = true := by
  rw [decide_eq_true h, decide_eq_true h']
  decide
theorem PL.push {a : Int} {H : Hp} {L : Addr} {ps : List Addr} (hL : H L = some (.lst (ps.map V.ref))) (hp : ∀ (i : Nat) (p : Addr), ps[i]? = some p → H p = some (.tup [.int (px a i), .int (py a i)])) {p : Addr}
    (h : H p = some (.tup [.int (px a ps.length), .int (py a ps.length)])) : PL a (upd H L (.lst (ps.map V.ref ++ [V.ref p]))) L (ps.length + 1) := by
  refine ⟨ps ++ [p], by rw [List.length_append]; rfl, by rw [upd_same, List.map_append]; rfl, fun i t hi => ?_⟩
  by_cases hj : i < ps.length
  · rw [List.getElem?_append_left hj] at hi
    have h1 := hp i t hi
    rw [upd_ne (ne_of hL h1 (by intro z; cases z)).symm]
    exact h1
  · rw [List.getElem?_append_right (by omega)] at hi
    have h3 : i - ps.length < 1 := (List.getElem?_eq_some_iff.mp hi).1
    have h4 : i = ps.length := by omega
    rw [h4, Nat.sub_self] at hi
    have h5 : p = t := Option.some.inj hi
    rw [← h5, h4, upd_ne (ne_of hL h (by intro z; cases z)).symm]
    exact h
/-! more on pairs -/
theorem py_lt1 {a : Int} (ha : 2 ≤ a) (n : Nat) : py a n < py a (n + 1) := by
  obtain ⟨h1, h2⟩ := pxy_pos ha n
  rw [py1]
  have : 2 * py a n ≤ a * py a n := Int.mul_le_mul_of_nonneg_right ha h1
  omega
theorem py_lt {a : Int} (ha : 2 ≤ a) {m n : Nat} (h : m < n) : py a m < py a n := by
  induction n with
  | zero => omega
  | succ n ih =>
    by_cases e : m = n
    · rw [e]; exact py_lt1 ha n
    · exact Int.lt_trans (ih (by omega)) (py_lt1 ha n)
theorem py_le_iff {a : Int} (ha : 2 ≤ a) (m n : Nat) : py a m ≤ py a n ↔ m ≤ n := by
  constructor
  · intro h
    by_cases e : m ≤ n
    · exact e
    · exact absurd (py_lt ha (show n < m by omega)) (by omega)
  · intro h
    by_cases e : m = n
    · rw [e]; exact Int.le_refl _
    · exact Int.le_of_lt (py_lt ha (by omega))
theorem pxy_sub (a : Int) (s t : Nat) : px a (t + s) * px a s - (a * a - 1) * py a (t + s) * py a s = px a t ∧ py a (t + s) * px a s - px a (t + s) * py a s = py a t := by
  rw [(pxy_add a t s).1, (pxy_add a t s).2]
  have := pell a s
  constructor <;> grind
/-- every two squares one apart are a pair's -/
theorem pell_all {a : Int} (ha : 2 ≤ a) : ∀ (k : Nat) (x y : Int), y.toNat ≤ k → 0 ≤ x → 0 ≤ y → x * x - (a * a - 1) * y * y = 1 → ∃ n, x = px a n ∧ y = py a n := by
  intro k
  induction k with
  | zero =>
    intro x y hk hx hy h
    have e : y = 0 := by omega
    subst e
    refine ⟨0, ?_, rfl⟩
    rw [px0]
    have h2 : x * x = 1 := by grind
    have h3 : x < 2 := by
      by_cases c : x < 2
      · exact c
      · have := Int.mul_le_mul (a := 2) (b := 2) (c := x) (d := x) (by omega) (by omega) (by omega) hx
        omega
    have h4 : x ≠ 0 := by
      intro z
      rw [z] at h2
      exact absurd h2 (by decide)
    omega
  | succ k ih =>
    intro x y hk hx hy h
    by_cases e : y = 0
    · exact ih x y (by omega) hx hy h
    · have y1 : 1 ≤ y := by omega
      have hyy : 1 ≤ y * y := by
        have := Int.mul_le_mul (a := 1) (b := 1) (c := y) (d := y) y1 y1 (by omega) hy
        omega
      have hxy : x ≤ a * y := by
        by_cases c : x ≤ a * y
        · exact c
        · have c2 : a * y + 1 ≤ x := by omega
          have p0 : 0 ≤ a * y := Int.mul_nonneg (by omega) hy
          have := Int.mul_le_mul (a := a * y + 1) (b := a * y + 1) (c := x) (d := x) c2 c2 (by omega) hx
          have e1 : (a * y + 1) * (a * y + 1) = a * a * y * y + 2 * (a * y) + 1 := by grind
          have e2 : x * x = a * a * y * y - y * y + 1 := by grind
          omega
      have hlt : a * y - x < y := by
        by_cases c : a * y - x < y
        · exact c
        · have c2 : x ≤ (a - 1) * y := by
            have : (a - 1) * y = a * y - y := by grind
            omega
          have p0 : 0 ≤ (a - 1) * y := Int.mul_nonneg (by omega) hy
          have := Int.mul_le_mul c2 c2 hx p0
          have e1 : (a - 1) * y * ((a - 1) * y) = a * a * y * y - y * y - 2 * (a - 1) * (y * y) := by grind
          have e2 : x * x = a * a * y * y - y * y + 1 := by grind
          have e3 : 0 ≤ (a - 1) * (y * y) := Int.mul_nonneg (by omega) (by omega)
          have e4 : 2 * (a - 1) * (y * y) = 2 * ((a - 1) * (y * y)) := by grind
          omega
      have hx0 : 0 ≤ a * x - (a * a - 1) * y := by
        by_cases c : 0 ≤ a * x - (a * a - 1) * y
        · exact c
        · have c2 : a * x ≤ (a * a - 1) * y := by omega
          have p1 : 0 ≤ a * x := Int.mul_nonneg (by omega) hx
          have p2 : 2 * a ≤ a * a := Int.mul_le_mul_of_nonneg_right ha (by omega)
          have p0 : 0 ≤ (a * a - 1) * y := Int.mul_nonneg (by omega) hy
          have := Int.mul_le_mul c2 c2 p1 p0
          have e1 : a * x * (a * x) = a * a * (x * x) := by grind
          have e2 : (a * a - 1) * y * ((a * a - 1) * y) = (a * a - 1) * (x * x - 1) := by
            rw [← h]; grind
          have e3 : (a * a - 1) * (x * x - 1) = a * a * (x * x) - x * x - (a * a - 1) := by grind
          have e4 : 0 ≤ x * x := Int.mul_nonneg hx hx
          omega
      obtain ⟨n, e1, e2⟩ := ih (a * x - (a * a - 1) * y) (a * y - x) (by omega) hx0 (by omega) (by grind)
      refine ⟨n + 1, ?_, ?_⟩
      · rw [px1, ← e1, ← e2]; grind
      · rw [py1, ← e1, ← e2]; grind
theorem pell_only {a x y : Int} (ha : 2 ≤ a) (hx : 0 ≤ x) (hy : 0 ≤ y) (h : x * x - (a * a - 1) * y * y = 1) : ∃ n, x = px a n ∧ y = py a n := pell_all ha _ x y (Nat.le_refl _) hx hy h
theorem py_ge {a : Int} (ha : 2 ≤ a) (n : Nat) : (n : Int) ≤ py a n := by
  induction n with
  | zero => rw [py0]; decide
  | succ n ih =>
    have := py_lt1 ha n
    omega
theorem tNoPart_go {σ : L2.St} {H : Hp} {Q : Option Int → Hp → Prop} (q : Q none H) : tNoPart σ H Q := q
end RR

set_option maxHeartbeats 2000000
namespace RR
open PySem PySem.Calls
theorem entry_comb : entryFor table "math.comb" = some Builtin.«math.comb» := entryFor_of_tree (by kernel_rfl)
theorem kind_comb : builtinKind "math.comb" = none := by kernel_rfl
theorem plain_comb : plainId "math.comb" = true := by decide +kernel
theorem args_comb (a b : Value) : argsOk "math.comb" ⟨[a, b], []⟩ := by
  unfold argsOk
  kernel_rfl
theorem run_comb (a b : Int) (t u : Tok) (h0 : ¬ a < 0) (h1 : ¬ b < 0) (h2 : ¬ b > a) (h3 : ¬ min b (a - b) > Builtin.Math.maxSsize) (h4 : ¬ min b (a - b) > Builtin.Math.manyFactors) (h5 : ¬ min b (a - b) > 9000)
    (hsz : (Builtin.Math.fallingProduct a (min b (a - b)).toNat / Builtin.Math.fallingProduct (min b (a - b)) (min b (a - b)).toNat).natAbs.log2 < bitsLine) :
    Gives (Builtin.«math.comb» ⟨[.int a t, .int b u], []⟩) (.int (Builtin.Math.fallingProduct a (min b (a - b)).toNat / Builtin.Math.fallingProduct (min b (a - b)) (min b (a - b)).toNat)) :=
  .of_wp fun M A E s Q h => by
    obtain ⟨hp, g, d, tk, os⟩ := s
    wp_walk
    exact ⟨_, rfl, h⟩
theorem run_comb0 (a b : Int) (t u : Tok) (h0 : ¬ a < 0) (h1 : ¬ b < 0) (h2 : b > a) : Gives (Builtin.«math.comb» ⟨[.int a t, .int b u], []⟩) (.int 0) :=
  .of_wp fun M A E s Q h => by
    obtain ⟨hp, g, d, tk, os⟩ := s
    wp_walk
    exact ⟨_, rfl, h⟩
/-- Pascal's numbers -/
def ch : Nat → Nat → Nat
  | _, 0 => 1
  | 0, _ + 1 => 0
  | n + 1, k + 1 => ch n k + ch n (k + 1)
def fac : Nat → Nat
  | 0 => 1
  | n + 1 => (n + 1) * fac n
def fall (n : Int) : Nat → Int
  | 0 => 1
  | k + 1 => fall n k * (n - k)
theorem fall_eq (n : Int) (k : Nat) : Builtin.Math.fallingProduct n k = fall n k := by
  unfold Builtin.Math.fallingProduct
  induction k with
  | zero => rfl
  | succ k ih =>
    rw [List.range_succ, List.foldl_append, ih]
    rfl
theorem fall_succ (n : Int) (k : Nat) : fall (n + 1) (k + 1) = (n + 1) * fall n k := by
  induction k with
  | zero =>
    show fall (n + 1) 0 * (n + 1 - ((0 : Nat) : Int)) = (n + 1) * fall n 0
    show 1 * (n + 1 - ((0 : Nat) : Int)) = (n + 1) * 1
    omega
  | succ k ih =>
    show fall (n + 1) (k + 1) * (n + 1 - ((k + 1 : Nat) : Int)) = (n + 1) * (fall n k * (n - k))
    rw [ih]
    push_cast
    grind
theorem fall_ch (n : Nat) : ∀ k : Nat, fall n k = (ch n k : Int) * (fac k : Int) := by
  induction n with
  | zero =>
    intro k
    induction k with
    | zero => rfl
    | succ k ih =>
      show fall ((0 : Nat) : Int) k * (((0 : Nat) : Int) - k) = ((0 : Nat) : Int) * _
      match k with
      | 0 => rfl
      | k + 1 =>
        rw [ih]
        show ((0 : Nat) : Int) * _ * _ = _
        grind
  | succ n ih =>
    intro k
    match k with
    | 0 => rfl
    | k + 1 =>
      have e1 := ih k
      have e2 := ih (k + 1)
      have e3 : fall (n : Int) (k + 1) = fall n k * (n - k) := rfl
      have e4 := fall_succ (n : Int) k
      rw [show ((n + 1 : Nat) : Int) = (n : Int) + 1 by omega, e4]
      show _ = ((ch n k + ch n (k + 1) : Nat) : Int) * (((k + 1) * fac k : Nat) : Int)
      rw [e3, e1] at e2
      have e5 : (fac (k + 1) : Int) = ((k : Int) + 1) * (fac k : Int) := by
        show (((k + 1) * fac k : Nat) : Int) = _
        push_cast
        rfl
      rw [e5] at e2
      rw [e1]
      push_cast
      grind
theorem fac_pos (k : Nat) : 0 < fac k := by
  induction k with
  | zero => decide
  | succ k ih => exact Nat.mul_pos (by omega) ih
theorem ch_gt : ∀ (n k : Nat), n < k → ch n k = 0 := by
  intro n
  induction n with
  | zero => intro k h; match k, h with | k + 1, _ => rfl
  | succ n ih =>
    intro k h
    match k, h with
    | k + 1, h =>
      show ch n k + ch n (k + 1) = 0
      rw [ih k (by omega), ih (k + 1) (by omega)]
theorem ch_self : ∀ n : Nat, ch n n = 1 := by
  intro n
  induction n with
  | zero => rfl
  | succ n ih =>
    show ch n n + ch n (n + 1) = 1
    rw [ih, ch_gt n (n + 1) (by omega)]
theorem fall_self (k : Nat) : fall k k = (fac k : Int) := by
  rw [fall_ch, ch_self]
  omega
theorem ch_symm : ∀ (s i j : Nat), i + j = s → ch (i + j) i = ch (i + j) j := by
  intro s
  induction s with
  | zero => intro i j h; have : i = 0 := by omega
            have : j = 0 := by omega
            subst i j; rfl
  | succ s ih =>
    intro i j h
    match i, j, h with
    | 0, j, _ =>
      rw [Nat.zero_add, ch_self]
      unfold ch
      rfl
    | i + 1, 0, _ =>
      rw [Nat.add_zero, ch_self]
      unfold ch
      rfl
    | i + 1, j + 1, h =>
      have h1 := ih i (j + 1) (by omega)
      have h2 := ih (i + 1) j (by omega)
      rw [show i + 1 + (j + 1) = (i + (j + 1)) + 1 by omega]
      show ch (i + (j + 1)) i + ch (i + (j + 1)) (i + 1) = ch (i + (j + 1)) j + ch (i + (j + 1)) (j + 1)
      rw [show i + 1 + j = i + (j + 1) by omega] at h2
      omega
theorem comb_val {n k : Nat} (h : k ≤ n) : fall n (min (k : Int) ((n : Int) - k)).toNat / fall (min (k : Int) ((n : Int) - k)) (min (k : Int) ((n : Int) - k)).toNat = (ch n k : Int) := by
  obtain ⟨m, hm⟩ : ∃ m : Nat, min (k : Int) ((n : Int) - k) = (m : Int) := ⟨min k (n - k), by omega⟩
  rw [hm, Int.toNat_natCast, fall_self, fall_ch, Int.mul_ediv_cancel _ (by have := fac_pos m; omega)]
  by_cases c : m = k
  · rw [c]
  · have e : m = n - k := by omega
    have := ch_symm n k (n - k) (by omega)
    rw [show k + (n - k) = n by omega] at this
    rw [this, e]
theorem ch_le : ∀ n k : Nat, ch n k ≤ 2 ^ n := by
  intro n
  induction n with
  | zero => intro k; match k with | 0 => decide | k + 1 => (show 0 ≤ 1; decide)
  | succ n ih =>
    intro k
    match k with
    | 0 => exact Nat.one_le_two_pow
    | k + 1 =>
      show ch n k + ch n (k + 1) ≤ 2 ^ (n + 1)
      have h1 := ih k
      have h2 := ih (k + 1)
      rw [Nat.pow_succ]
      omega
end RR
namespace RR
open PySem PySem.Spec PyProof.Rows L2
section
variable {X : Cx}
/-- math.comb of two small numbers -/
theorem cr_comb : CallR X (.builtin "math.comb") (fun vs H Q => ∃ n k : Nat, vs = [.int n, .int k] ∧ n ≤ 9000 ∧ Q (.int (ch n k : Int)) H) := by
  intro pins s σ H vs us Q I r h
  obtain ⟨n, k, rfl, hn, q⟩ := h
  obtain ⟨t, u, rfl⟩ := Vals.int2 r
  by_cases hk : k ≤ n
  · have h5 : ¬ min (k : Int) ((n : Int) - k) > 9000 := by omega
    have v := comb_val hk
    rw [← fall_eq, ← fall_eq] at v
    have g := run_comb n k t u (by omega) (by omega) (by omega) (by have : Builtin.Math.maxSsize = 9223372036854775807 := rfl
                                                                    omega) (by have : Builtin.Math.manyFactors = 20000 := rfl
                                                                               omega) h5 (by
      rw [v, Int.natAbs_natCast]
      have h1 := ch_le n k
      have h2 : (ch n k).log2 < 9001 := by
        by_cases h0 : ch n k = 0
        · rw [h0]; decide
        · exact (Nat.log2_lt h0).mpr (Nat.lt_of_le_of_lt h1 (Nat.pow_lt_pow_right (by decide) (by omega)))
      exact Nat.lt_trans h2 (by decide))
    rw [v] at g
    exact call_function_meets kind_comb plain_comb entry_comb (args_comb _ _) g.meets ⟨.int _, H, I.tok _, ⟨_, rfl⟩, q⟩
  · rw [ch_gt n k (by omega)] at q
    have g := run_comb0 n k t u (by omega) (by omega) (by omega)
    exact call_function_meets kind_comb plain_comb entry_comb (args_comb _ _) g.meets ⟨.int _, H, I.tok _, ⟨_, rfl⟩, q⟩
end
end RR

namespace RR
open PySem PySem.Spec PyProof.Rows L2
/-- the pairs of a locked dict whose keys are tuples: each a new tuple of the key's own tuple and the value -/
def ItT (d : Addr) (ob : Obj) (ps : List (List L2.Key × V)) : It where
  go := fun i H => H d = some (.frz ob (.dT ps)) ∧ i < ps.length
  yld := fun i H x H' => ∃ (T q : Addr) (k : List L2.Key) (v : V), ps[i]? = some (k, v) ∧ x = .ref T ∧ H T = none ∧ H q = some (.tup (k.map kV)) ∧ H' = upd H T (.tup [.ref q, v])
  stop := fun i H => H d = some (.frz ob (.dT ps)) ∧ ps.length ≤ i
section
variable {X : Cx} {pins : List (Addr × Obj)} {σ : L2.St} {H : Hp} {s : Shared} {d : Addr} {ob : Obj} {ps : List (List L2.Key × V)}
theorem frz_ent (I : Inv X pins σ H s) (h : H d = some (.frz ob (.dT ps))) : (d == sysModules) = false ∧ ∃ (es : Array DictEntry) (ep : Nat), DT.Raw s.heap d es ep ∧ ob.data = .dict es ep ∧ es.size = ps.length ∧
    ∀ (i : Nat) (k : List L2.Key) (v : V), ps[i]? = some (k, v) → ∃ (q : Addr) (en : DictEntry), es[i]? = some en ∧ en.key = .ref q ∧ RelV v en.val ∧ H q = some (.tup (k.map kV)) := by
  have all := I.hok d _ h
  obtain ⟨here, _, notSys, laid, rel, obj, es, ep, at_, exact_, data, ents, _⟩ := all
  obtain rfl : ob = obj := Option.some.inj (here.symm.trans at_)
  refine ⟨notSys, es, ep, ⟨ob, here, exact_, data⟩, data, ?_, fun i k v hi => ?_⟩
  · have a1 : es.size = laid.length := size_of_entries ents
    have a2 : ps.length = laid.length := Paired.length rel
    omega
  · obtain ⟨z, hz, e1, e2, e3⟩ := L2.paired_get rel hi
    have at2 := entry_at ents i
    rw [hz] at at2
    exact ⟨z.2.1, _, at2, rfl, e3, e2⟩
end
theorem same_data {o : Obj} {es fs : Array DictEntry} {m n : Nat} (h : o.data = .dict es m) (g : o.data = .dict fs n) : fs = es ∧ n = m := by
  have q := h.symm.trans g
  injection q with q1 q2
  exact ⟨q1.symm, q2.symm⟩
theorem turn_itemsT {P : Program} {w : World} {K : PySem.W.Frag} {d it : Addr} {ob : Obj} {es : Array DictEntry} {ep kk : Nat} {ps : List (List L2.Key × V)} {elts : List Expr} {tpos : Pos} (data : ob.data = .dict es ep) :
    Turn P w K (.Tuple elts kk tpos) (ItT d ob ps) [it] it (fun i h => ∃ u v, IsItemIter h it d i es.size ep u v) := by
  refine ⟨by simp, fun i h st b hb => ?_, fun i h h' st k => ?_, ?_, ?_, fun A i s Q E st h => ?_⟩
  · obtain rfl : b = it := by simpa using hb
    obtain ⟨u, v, e⟩ := st
    exact ⟨_, e, fun v z => nomatch z⟩
  · obtain ⟨u, v, e⟩ := st
    exact ⟨u, v, k it (by simp) _ e⟩
  · intro X hP hw hK hc i pins s σ H E I hf st go
    subst hP hw hK
    obtain ⟨lock, lt⟩ := go
    obtain ⟨_, es2, ep2, raw, data2, size, ents⟩ := frz_ent I lock
    obtain ⟨rfl, rfl⟩ := same_data data data2
    have pi : ps[i]? = some (ps[i].1, ps[i].2) := List.getElem?_eq_getElem lt
    obtain ⟨q, en, hen, hkey, hval, hq⟩ := ents i _ _ pi
    obtain ⟨u, v, e⟩ := st
    have there : it < s.heap.objs.size := Heap.lt_size e
    have hi : i < es2.size := by omega
    obtain rfl : es2[i] = en := by
      rw [Array.getElem?_eq_getElem hi] at hen
      exact Option.some.inj hen
    refine DT.nextI e raw hi fun h1 out tup _ keep => ?_
    refine ⟨_, rfl, wpAny_letOwnedTupleGo_items (s := { s with heap := h1 }) out fun h2 back but => ?_⟩
    have tup2 := (but.2 _ (Nat.ne_of_gt there)).trans tup
    have new : ObjOk X.prog X.w (upd H s.heap.objs.size (.tup [.ref q, ps[i].2])) h2 s.heap.objs.size (.tup [.ref q, ps[i].2]) := by
      refine ⟨by show 2 ≤ sizeLine; decide, [es2[i].key, es2[i].val], .cons ?_ (.cons hval .nil), ⟨_, tup2, rfl, _, rfl⟩⟩
      rw [hkey]
      rfl
    have I2 := I.turnedNew (t' := s.toks) (ch := [it]) (h' := h2) (fun b o hb g => (but.2 b (by simpa using hb)).trans (keep b o (by simpa using hb) g)) hf (Nat.le_refl _) new
    refine ⟨.ref s.heap.objs.size, _, I2, rfl, ⟨_, q, ps[i].1, ps[i].2, pi, rfl, I.hok.fresh (Nat.le_refl _), hq, rfl⟩, ⟨_, _, back⟩, fun b hb => ?_⟩
    obtain rfl : b = it := by simpa using hb
    rw [upd_ne (Nat.ne_of_lt there)]
    exact (hf b (by simp)).1
  · intro X hP hw hK hc i pins s σ H E I hf st stop
    subst hP hw hK
    obtain ⟨lock, ge⟩ := stop
    obtain ⟨_, es2, ep2, raw, data2, size, ents⟩ := frz_ent I lock
    obtain ⟨rfl, rfl⟩ := same_data data data2
    obtain ⟨f0, f1, f2, f3, f4, f5⟩ := hf it (by simp)
    obtain ⟨u, v, e⟩ := st
    exact DT.endI (I.ok.hd hc) e raw (by omega) fun h1 ext => ⟨rfl, I.turned (t' := s.toks) (fun b o hb g => ext b o hb g) f0 f1 f3 f4 f5⟩
  · obtain ⟨u, v, e⟩ := st
    exact PySem.W.kcp_self e h
/-- for k, v in d.items(): the dict at d is locked -/
def iItT (td : TE) : TI := fun σ H R => td σ H fun x H1 => ∃ d ob ps, x = .ref d ∧ H1 d = some (.frz ob (.dT ps)) ∧ R (ItT d ob ps) H1
theorem pi_itemsT {X : Cx} {e : Expr} {td : TE} {apos cpos tpos : Pos} {elts : List Expr} {kk : Nat} (he : PE X e td) (hbase : attributeBase e "items" X.env (eval e X.env) = eval e X.env := by rfl) (hline : (apos.endLine == cpos.line) = true := by rfl) :
    PI X (.Tuple elts kk tpos) (.Call (.Attribute e "items" apos) [] [] cpos) (iItT td) := by
  constructor
  intro pins s σ H R I h
  refine wpAny_Call_method (T := "dict") (id := "dict.items") hbase rfl hline F.plainAttrs_dict F.slot_dict_items F.type_dict_items (thn (he.run pins s σ H _ I h) ?_)
  rintro u s1 ⟨x, H1, I1, rx, d, ob, ps, rfl, lock, q⟩
  obtain rfl : u = Value.ref d := rx
  obtain ⟨notSys, es, ep, raw, data, size, _⟩ := frz_ent I1 lock
  obtain ⟨o2, g2, x2, _⟩ := id raw
  refine ⟨raw.typeIs, fun b z => ⟨o2, by cases z; exact g2, x2.2.1⟩, ?_⟩
  have I2 : Inv X pins σ H1 { s1 with heap := s1.heap.push { cls := .type "dict_items", data := .fields #[.ref d] } } := I1.kept (t' := s1.toks) fun b o z => Heap.get?_push_of_some _ z
  have walk : wpAny (model X.prog X.w) X.A (pyIter (.ref s1.heap.objs.size)) (PIE X pins σ (.Tuple elts kk tpos) R) X.xe { s1 with heap := s1.heap.push { cls := .type "dict_items", data := .fields #[.ref d] } } :=
    DT.iterI (d := d) ⟨_, Heap.get?_push_size _ rfl, rfl, rfl⟩ (raw.push _) (pi_one (tk := s1.toks) I2 _ (turn_itemsT data) ⟨.none, .none, Heap.get?_push_size _ rfl⟩ q)
  show wpAny _ _ (callWith cpos (.builtin "dict.items") [.ref d] [] []) _ X.xe s1
  exact method_meetsIn F.slot_dict_items F.entry_dict_items rfl (PySem.evalArgs_none ⟨rfl, raw.typeIs, F.args_dict_items_1 _, _, DT.meetsItems notSys, ⟨raw, walk⟩⟩)
theorem walk_itemsT {d : Addr} {ob : Obj} {ps : List (List L2.Key × V)} : Walk (ItT d ob ps) ps.length (fun H => H d = some (.frz ob (.dT ps)))
    (fun i H x H' => ∃ (T q : Addr) (k : List L2.Key) (v : V), ps[i]? = some (k, v) ∧ x = .ref T ∧ H T = none ∧ H q = some (.tup (k.map kV)) ∧ H' = upd H T (.tup [.ref q, v])) := by
  refine ⟨fun i H lt q => ⟨q, lt⟩, fun H q => ⟨q, Nat.le_refl _⟩, fun i H x H' _ _ y => y⟩
/-- with the lock or without -/
def tLockO (t : TE) : TE := fun σ H Q => t σ H Q ∨ tLockE t σ H Q
def tLockS (t : TS) : TS := fun D σ H => t D σ H ∨ tLock t D σ H
theorem pe_lockO {X : Cx} {e : Expr} {t : TE} (h : PE X e t) : PE X e (tLockO t) := by
  constructor
  rintro pins s σ H Q I (q | q)
  · exact h.run pins s σ H Q I q
  · exact (pe_lock h).run pins s σ H Q I q
theorem ps_lockO {X : Cx} {st : Stmt} {t : TS} (h : PS X st t) : PS X st (tLockS t) := by
  constructor
  rintro pins s σ H D I (q | q)
  · exact h.run pins s σ H D I q
  · exact (ps_lock h).run pins s σ H D I q
end RR

namespace RR
open PySem PySem.Spec PyProof.Rows L2
/-- a store by a comprehension into a dict with tuple keys -/
theorem dictSetT {X : Cx} {pins : List (Addr × Obj)} {σ : L2.St} {H : Hp} {s : Shared} {E : Value → Shared → Prop} {D b : Addr} {ps : List (List L2.Key × V)} {k : List L2.Key} {z : V} {r : Value} {Q : Unit → Shared → Prop} (hu : X.A.units < cLine)
    (I : Inv X pins σ H s) (hD : H D = some (.dT ps)) (hb : H b = some (.tup (k.map kV))) (short : ps.length < sizeLine) (rz : RelV z r) (q : ∀ s', Inv X pins σ (upd H D (.dT (putK ps k z))) s' → Q () s') :
    wpAny (model X.prog X.w) X.A (dictSet D (.ref b) r) Q E s := by
  obtain ⟨len, notSys, laid, rel, dd⟩ := dt_of I.hok hD
  have n1 := Paired.length rel
  refine PySem.wpAny_dictSet_heap (hsz := Nat.le_of_lt (by rw [← n1]; exact short)) hu (key_of I.hok hb) dd fun h2 dd2 but => q _ ?_
  obtain ⟨o2, es, ep, g2, x2, d2, e2, _, nd⟩ := dd2
  have n2 := length_putK ps k z
  refine d_write I (by rw [hD]; trivial) but ⟨o2, g2⟩ ⟨by omega, notSys, _, (rel.put k hb rz).keeps fun c ys hc => ?_, o2, es, ep, g2, x2, d2, e2, nd⟩
  rwa [upd_ne (ne_of hc hD (fun z => nomatch z))]
/-- {k: v for target in iter if ..}, the keys tuples of ints and texts: D the new dict -/
def tDcT (wi : TI) (g : TG) (tt : TT) (tk tv : TE) (vs : List Nat) : TE := fun σ H Q => wi σ H fun J H1 => ∀ D, H1 D = none → ∃ W : Nat → Nat → Hp → Prop, (∃ m, W 0 m (upd H1 D (.dT []))) ∧ ∀ i m H, W i m H →
  (J.stop i H ∧ Q (.ref D) H) ∨ (J.go i H ∧ ∃ Nx : Hp → Prop, (∀ H', Nx H' → ∃ m', m' < m ∧ W (i + 1) m' H') ∧ ∀ x H', J.yld i H x H' → g x (wipe σ vs) H' fun σ2 H2 => wipe σ2 vs = wipe σ vs ∧ tt σ2 H2 fun b H3 =>
    if b = true then tk σ2 H3 fun y H4 => tv σ2 H4 fun z H5 => ∃ ps k b, y = .ref b ∧ H5 b = some (.tup (k.map kV)) ∧ H5 D = some (.dT ps) ∧ ps.length < sizeLine ∧ Nx (upd H5 D (.dT (putK ps k z))) else Nx H3)
variable {X : Cx}
theorem pe_dcT {kx vx tg iter : Expr} {ifs : List Expr} {scope : Scope} {own : List (Str × Nat)} {pos : Pos} {wi : TI} {g : TG} {tt : TT} {tk tv : TE} (hu : X.A.units < cLine) (hc : X.calm = true) (hN : X.N.Nodup) (hi : PI X tg iter wi) (ok : BlkOk X.N X.env.scope scope own)
    (hg : ∀ (s : Shared) (H : Hp) (C : Addr) (cl : List (Str × Addr)) (fp : List Addr), PG (X.blk s H scope (compEnvC scope cl C X.env) fp) tg g)
    (ht : ∀ (s : Shared) (H : Hp) (C : Addr) (cl : List (Str × Addr)) (fp : List Addr), PTs (X.blk s H scope (compEnvC scope cl C X.env) fp) ifs tt)
    (hk : ∀ (s : Shared) (H : Hp) (C : Addr) (cl : List (Str × Addr)) (fp : List Addr), PE (X.blk s H scope (compEnvC scope cl C X.env) fp) kx tk)
    (hv : ∀ (s : Shared) (H : Hp) (C : Addr) (cl : List (Str × Addr)) (fp : List Addr), PE (X.blk s H scope (compEnvC scope cl C X.env) fp) vx tv)
    (hs : ∀ x, foldedSetIterable iter X.env x = pure x := by intro _; rfl) : PE X (.DictComp kx vx [⟨tg, iter, ifs, 0⟩] scope pos) (tDcT wi g tt tk tv (own.map (·.2))) := by
  constructor
  intro pins s0 σ H0 Q I0 reading
  rw [arm_eval_DictComp]
  have cellsThere : ∀ y ∈ scope.names, y.2 = .free → ∃ c, X.env.cells.lookup y.1 = some c := by
    intro y hy e
    rcases ok.free y hy e with k | k
    · exact I0.ok.has _ (.inl k)
    · exact I0.ok.has _ (.inr k)
  refine wpAny_comprehension_free rfl hs (closure_ok cellsThere) ok.kind (fun y hy e => by rw [ok.uniq y hy, e]) (thn (hi.run pins s0 σ H0 _ I0 reading) fun _ s1 walked => thn walked ?_)
  rintro _ s2 ⟨it, fp, tn, J, H2, rfl, I2, T, at0, own2, q⟩
  refine wpAny_newObj_type (newEnv_comp ?_)
  generalize eD : s2.heap.objs.size = D
  have freeD : H2 D = none := I2.hok.fresh (Nat.le_of_eq eD)
  obtain ⟨W, ⟨n0, w0⟩, turn⟩ := q D freeD
  generalize es3 : ({ s2 with heap := s2.heap.push { cls := .type "dict", data := .dict #[] } } : Shared) = s3
  have heap3 : s3.heap = s2.heap.push { cls := .type "dict", data := .dict #[] } := by rw [← es3]
  have grown : ∀ b o, s2.heap.get? b = some o → s3.heap.get? b = some o := fun b o e => by rw [heap3]; exact Heap.get?_push_of_some _ e
  have I3 : Inv X pins σ (upd H2 D (.dT [])) s3 := by
    rw [← es3]
    refine I2.laid (t' := s2.toks) (fun b o e => Heap.get?_push_of_some _ e) (Nat.le_of_eq eD) ?_
    rw [← eD]
    exact dt_empty s2.heap I2.big
  have own3 : ∀ b ∈ fp, FpOk X pins (upd H2 D (.dT [])) b ∧ b < s3.heap.objs.size := by
    intro b hb
    obtain ⟨o, e, _⟩ := T.obj _ _ at0 b hb
    have lt := Heap.lt_size e
    refine ⟨⟨?_, (own2 b hb).2⟩, by rw [heap3, Heap.size_push]; exact Nat.lt_succ_of_lt lt⟩
    rw [upd_ne (by rw [← eD]; exact Nat.ne_of_lt lt)]
    exact (own2 b hb).1
  have at3 := T.keep _ _ _ at0 fun b _ o e => grown b o e
  have I4 := block_start I3 ok hN own3
  have none3 : ∀ b ∈ fp, (upd H2 D (.dT [])) b = none := fun b hb => (own3 b hb).1.1
  generalize eH3 : upd H2 D (.dT []) = H3 at I3 I4 w0 none3 own3
  generalize ece : compEnvC scope (cellsFrom (s3.heap.objs.size + 1) scope.names (cloFrom X.env.cells scope.names [])) s3.heap.objs.size X.env = ce at I4
  have pg : PG (X.blk s3 H3 scope ce fp) tg g := by rw [← ece]; exact hg _ _ _ _ _
  have pt : PTs (X.blk s3 H3 scope ce fp) ifs tt := by rw [← ece]; exact ht _ _ _ _ _
  have pk : PE (X.blk s3 H3 scope ce fp) kx tk := by rw [← ece]; exact hk _ _ _ _ _
  have pv : PE (X.blk s3 H3 scope ce fp) vx tv := by rw [← ece]; exact hv _ _ _ _ _
  have locals : ce.locals = s3.heap.objs.size := by rw [← ece]; rfl
  generalize es4 : ({ s3 with heap := pushCells (s3.heap.push { cls := .type "dict", data := .dict #[] }) scope.names } : Shared) = s4 at I4
  have at4 : tn 0 s4.heap := T.keep _ _ _ at3 fun b _ o e => by rw [← es4]; exact pushCells_keeps _ _ _ _ (Heap.get?_push_of_some _ e)
  have mine : ∀ {σ' : L2.St} {H' : Hp} {s' : Shared}, Inv (X.blk s3 H3 scope ce fp) [] σ' H' s' → (∀ b ∈ fp, H' b = none) → ∀ b ∈ fp, FpOk (X.blk s3 H3 scope ce fp) [] H' b := by
    intro σ' H' s' I' non b hb
    have z := I'.ok.exf b hb
    exact ⟨non b hb, z.1, I'.ok.exfs b hb, .inl hb, fun x c e => z.2 x c e, fun p hp => absurd (show p ∈ ([] : List (Addr × Obj)) ++ [] from hp) (by simp)⟩
  have looped : codeAny (model X.prog X.w) X.A (.compLoop (.DictComp kx vx [⟨tg, iter, ifs, 0⟩] scope pos) 0 (.ref it) (.ref D) ce) (compPost (model X.prog X.w) X.A X.xe none (fun v s' => ∃ x H', Inv X pins σ H' s' ∧ RelV x v ∧ Q x H') (.ref D) s3.heap.objs.size) s4 := by
    refine compLoop_anyD (fun n s' => ∃ i H', Inv (X.blk s3 H3 scope ce fp) [] (wipe σ (own.map (·.2))) H' s' ∧ tn i s'.heap ∧ (∀ b ∈ fp, H' b = none) ∧ W i n H') ?_ n0 ⟨0, H3, I4, at4, none3, w0⟩
    rintro n s5 ⟨i, H5, I5, at5, none5, w5⟩
    rcases turn i n H5 w5 with ⟨stop, fin⟩ | ⟨go, Nx, next, step⟩
    · refine thnF (T.done (X.blk s3 H3 scope ce fp) rfl rfl rfl hc i [] s5 _ H5 (fun _ _ => False) I5 (mine I5 none5) at5 stop) fun r s6 ⟨er, I6⟩ => ?_
      subst er
      have I7 : Inv X pins σ H5 s6 := I3.call' (ch := fp) I6.os I6.base I6.hok I6.bare fun b hb => by
        have z := (own3 b hb).1
        exact ⟨z.2.2.2.1, z.2.1, z.2.2.2.2.1, z.2.2.2.2.2⟩
      have freeC : H5 s3.heap.objs.size = none := by
        rw [← locals]
        exact I6.free
      obtain ⟨m, names, _⟩ := I6.loc
      have names : s6.heap.Ns s3.heap.objs.size m := by
        rw [← locals]
        exact names
      obtain ⟨f0, f1, f2, f3, f4, f5⟩ := I3.fpOk (Nat.le_refl _) freeC
      exact ⟨m, names, fun h2 but => ⟨.ref D, H5, I7.turned (t' := s6.toks) (fun b o hb e => (but.2 b hb).trans e) f0 f1 f3 f4 f5, rfl, fin⟩⟩
    · refine thnF (T.item (X.blk s3 H3 scope ce fp) rfl rfl rfl hc i [] s5 _ H5 (fun _ _ => False) I5 (mine I5 none5) at5 go) fun r s6 ⟨u, er, h6⟩ => ?_
      subst er
      refine thnF h6 fun _ s7 ⟨x, H7, I7, r7, y7, at7, none7⟩ => ?_
      have I7p := I7.pinned (mine I7 none7) (T.obj _ _ at7)
      refine thnF (pg.run _ s7 _ H7 x u _ I7p r7 (step x H7 y7)) fun _ s8 ⟨σ8, H8, I8, wiped, q8⟩ => thnF (pt.run _ s8 σ8 H8 _ I8 q8) fun b s9 ⟨H9, I9, q9⟩ => ?_
      have close : ∀ {s' : Shared} {H' : Hp}, Inv (X.blk s3 H3 scope ce fp) ([] ++ pinsAt fp s7.heap) σ8 H' s' → Nx H' →
          ∃ m, m < n ∧ ∃ i H', Inv (X.blk s3 H3 scope ce fp) [] (wipe σ (own.map (·.2))) H' s' ∧ tn i s'.heap ∧ (∀ b ∈ fp, H' b = none) ∧ W i m H' := by
        intro s' H' I' nx
        obtain ⟨m2, lt, w2⟩ := next H' nx
        have stood : ∀ b ∈ fp, ∀ o, s7.heap.get? b = some o → s'.heap.get? b = some o ∧ H' b = none := fun b hb o e => by
          have z := I'.pin (b, o) (List.mem_append_right _ (List.mem_append_right _ (mem_pinsAt hb e)))
          exact ⟨z.1, z.2.1⟩
        have len : (wipe σ (own.map (·.2))).length = σ8.length := by rw [← wiped, wipe_length]
        refine ⟨m2, lt, i + 1, H', (I'.unpinned (pins := [])).weak len ?_, T.keep _ _ _ at7 fun b hb o e => (stood b hb o e).1, ?_, w2⟩
        · intro j v e
          rw [← wiped] at e
          exact (wipe_some e).1
        · intro b hb
          obtain ⟨o, e, _⟩ := T.obj _ _ at7 b hb
          exact (stood b hb o e).2
      cases b with
      | false =>
        rw [if_neg Bool.false_ne_true] at q9 ⊢
        exact close I9 q9
      | true =>
        rw [if_pos rfl] at q9 ⊢
        refine thnF (pk.run _ s9 σ8 H9 _ I9 q9) fun z s10 ⟨yk, H10, I10, r10, q10⟩ => thnF (pv.run _ s10 σ8 H10 _ I10 q10) ?_
        rintro z2 s11 ⟨yv, H11, I11, r11, ps, k, b, rfl, hb, hD, short, nx⟩
        cases (show z = Value.ref b from r10)
        exact dictSetT (X := X.blk s3 H3 scope ce fp) hu I11 hD hb short r11 fun s12 I12 => close I12 nx
  rw [eD, ← ece] at *
  exact codeAny_compStart_dict looped (T.self X.A 0 _ _ _ at4 looped)
end RR

namespace RR
open PySem PySem.Spec PyProof.Rows L2
/-- stored one after the other -/
def putAll {κ : Type} [DecidableEq κ] (ps more : List (κ × V)) : List (κ × V) := more.foldl (fun acc z => putK acc z.1 z.2) ps
/-- {(..): v, ..}, up to fifteen pairs, the keys tuples -/
def tDispT (trs : List (TE × TE)) : TE := fun σ H Q => ∀ p, H p = none → tPairs trs σ (upd H p (.dT [])) fun vs H2 => H2 p = some (.dT []) ∧ ∃ xs : List (List L2.Key × Addr × V),
  vs = xs.map (fun x => (V.ref x.2.1, x.2.2)) ∧ (∀ x ∈ xs, H2 x.2.1 = some (.tup (x.1.map kV))) ∧ xs.length ≤ 15 ∧ Q (.ref p) (upd H2 p (.dT (putAll [] (xs.map fun x => (x.1, x.2.2)))))
theorem carries_H {P : Program} {w : World} {H : Hp} {h : Heap} (ok : HOk P w H h) : ∀ (xs : List (List L2.Key × Addr × V)) (ws : List (Value × Value)), VV (xs.map fun x => (V.ref x.2.1, x.2.2)) ws → (∀ x ∈ xs, H x.2.1 = some (.tup (x.1.map kV))) →
    ∃ rs : List (List L2.Key × Addr × Value), CarriesH (tupleKind (mixKind P w)) h ws rs ∧ KT H (xs.map fun x => (x.1, x.2.2)) rs
  | [], _, .nil, _ => ⟨[], trivial, .nil⟩
  | x :: xs, (_, r) :: ws, .cons ⟨e, rv⟩ t, hx => by
    obtain ⟨rs, c, k⟩ := carries_H ok xs ws t fun y hy => hx y (List.mem_cons_of_mem _ hy)
    have hb := hx x (List.mem_cons_self ..)
    exact ⟨(x.1, x.2.1, r) :: rs, ⟨e, rfl, key_of ok hb, c⟩, .cons ⟨rfl, hb, rv⟩ k⟩
theorem KT.all {H : Hp} {more : List (List L2.Key × V)} {rs : List (List L2.Key × Addr × Value)} (m : KT H more rs) : ∀ {ps : List (List L2.Key × V)} {xs : List (List L2.Key × Addr × Value)}, KT H ps xs → KT H (putAll ps more) (storedAllH xs rs) := by
  induction m with
  | nil => intro ps xs k; exact k
  | @cons a b as bs r t ih =>
    intro ps xs k
    refine ih (ps := putK ps a.1 a.2) (xs := storedH xs b.1 b.2.1 b.2.2) ?_
    rw [← r.1]
    exact k.put a.1 r.2.1 r.2.2
theorem putAll_len {κ : Type} [DecidableEq κ] : ∀ (more ps : List (κ × V)), (putAll ps more).length ≤ ps.length + more.length
  | [], ps => Nat.le_refl _
  | z :: more, ps => by
    have a := putAll_len more (putK ps z.1 z.2)
    have b := length_putK ps z.1 z.2
    show (putAll (putK ps z.1 z.2) more).length ≤ _
    rw [List.length_cons]
    omega
theorem pe_dispT {X : Cx} {pos : Pos} {keys : List (Option Expr)} {values : List Expr} {trs : List (TE × TE)} (hu : X.A.units < cLine) (h : PPs X pos keys values trs) (hall : keys.all (·.isSome) = true) (hl : keys.length = values.length) (h0 : keys ≠ []) (h15 : keys.length ≤ 15) :
    PE X (.Dict keys values pos) (tDispT trs) := by
  constructor
  intro pins s σ H Q I q
  have free := I.hok.fresh (Nat.le_refl s.heap.objs.size)
  have I1 := I.laid (a := s.heap.objs.size) (o := .dT []) (h' := s.heap.push { cls := .type "dict", data := .dict #[] }) (t' := s.toks) (fun _ _ z => Heap.get?_push_of_some _ z) (Nat.le_refl _) (dt_empty s.heap I.big)
  have n := pairTrees_length keys values X.env pos hall hl
  have some_ : pairTrees keys values X.env pos ≠ [] := fun e => h0 (by rw [e] at n; exact List.length_eq_zero_iff.mp n.symm)
  rw [arm_eval_Dict, zip_pairTrees keys values X.env pos hall hl, dictDisplay_pairs _ some_ (by omega)]
  refine wpAny_bind (wpAny_standAt (wpAny_bind (wpAny_subDictH (knd := tupleKind (mixKind X.prog X.w)) hu (by omega) (thn (h.run pins _ σ _ _ I1 (q _ free)) ?_))))
  rintro ws s2 ⟨vs, H2, I2, rel, hp, xs, rfl, hx, few, q2⟩
  obtain ⟨rs, c, k⟩ := carries_H I2.hok xs ws rel hx
  obtain ⟨_, notSys, xs0, rel0, dd⟩ := dt_of I2.hok hp
  cases rel0
  refine ⟨rs, c, dd, fun h' tk dd' but => wpAny_pure ⟨.ref s.heap.objs.size, _, ?_, rfl, q2⟩⟩
  obtain ⟨o, es, ep, g, x, dt, en, _, nd⟩ := dd'
  have len := putAll_len (xs.map fun x => (x.1, x.2.2)) []
  rw [List.length_map, List.length_nil] at len
  refine d_write I2 (by rw [hp]; trivial) but ⟨o, g⟩ ⟨by rw [sizeLine_eq]; omega, notSys, _, ((KT.all k .nil).keeps fun b ys hb => ?_), o, es, ep, g, x, dt, en, nd⟩
  rwa [upd_ne (ne_of hb hp (fun z => nomatch z))]
end RR

namespace RR
open PySem PySem.Spec PyProof.Rows L2
section
variable {prog : Program} {w : World} {A : Around} {E : Value → Shared → Prop} {s : Shared}
/-- the iterator over the pairs of d, at the i-th; z the tuple that is out, if one is -/
def PairIt (h : Heap) (it d : Addr) (i n ep : Nat) (z : Value) (f : Bool) (u v : Value) : Prop :=
  h.get? it = some { cls := .type "dict_itemiterator", dict := none, data := .fields #[z, .bool f, .ref d, .int i 0, .int n 0, .int ep 0, u, v], slots := #[] }
/-- no tuple is out, or one at another address -/
def Owner (it : Addr) (z : Value) (f : Bool) : Prop := (z = .none ∧ f = false) ∨ ∃ a : Addr, z = rawInt a ∧ a ≠ it
theorem ref_not_none (d : Addr) : ¬ ((Value.ref d == Value.none) = true) := Bool.false_ne_true
theorem alive_any {a : Addr} {Q : Option Obj → Shared → Prop} (q : Q (s.heap.get? a) s) : wpAny (model prog w) A (loadIfAlive a) Q E s := fun _ _ _ => q
open PySem.W PySem.Calls PyProof.V in
theorem owner_free {it d : Addr} {i n ep : Nat} {z u v : Value} {f : Bool} {R : Bool → Shared → Prop} (e : PairIt s.heap it d i n ep z f u v) (hz : Owner it z f) (yes : R true s)
    (no : ∀ h', PairIt h' it d i n ep z true u v → Owner it z true → Heap.SameBut it s.heap h' → R false { s with heap := h' }) : wpAny (model prog w) A (Builtin.Dict_items.ownedTupleIsFree (.ref it)) R E s := by
  unfold Builtin.Dict_items.ownedTupleIsFree
  refine wpAny_bind (wpAny_field e rfl (x := z) rfl ?_)
  rcases hz with ⟨rfl, _⟩ | ⟨a, rfl, ne⟩
  · exact wpAny_pure yes
  · refine wpAny_bind (alive_any ?_)
    cases s.heap.get? (a : Int).toNat with
    | none => exact wpAny_pure yes
    | some o =>
      simp only [Option.isNone_some, Bool.false_eq_true, if_false]
      refine wpAny_bind (wpAny_field e rfl (x := .bool f) rfl ?_)
      cases f with
      | true =>
        rw [if_neg (show ¬ (Value.bool true != .bool true) = true from Bool.false_ne_true)]
        exact wpAny_pure (no s.heap e (.inr ⟨a, rfl, ne⟩) (Heap.SameBut.refl _ _))
      | false =>
        rw [if_pos (show (Value.bool false != .bool true) = true from rfl)]
        exact wpAny_bind (wpAny_setField_rec e (by simp) fun h3 e3 b3 => wpAny_pure (no h3 e3 (.inr ⟨a, rfl, ne⟩) b3))
open PySem.W PySem.Calls PyProof.V in
theorem nextAny {it d : Addr} {i ep : Nat} {es : Array DictEntry} {z u v : Value} {f : Bool} {Q : Option Value → Shared → Prop} (at_ : PairIt s.heap it d i es.size ep z f u v) (hz : Owner it z f) (raw : DT.Raw s.heap d es ep) (lt : i < es.size)
    (q : ∀ h' z' f' u' v', PairIt h' it d (i + 1) es.size ep z' f' u' v' → Owner it z' f' → h'.get? s.heap.objs.size = some { cls := .type "tuple", data := .seq #[es[i].key, es[i].val] } →
      (∀ b o, b ≠ it → s.heap.get? b = some o → h'.get? b = some o) → Q (some (.ref s.heap.objs.size)) { s with heap := h' }) : wpAny (model prog w) A (pyNext (.ref it)) Q E s := by
  obtain ⟨hp, gens, drawn, toks, os⟩ := s
  obtain ⟨obj, atObj, exa, dat⟩ := id raw
  have ty0 : Shared.TypeIs ⟨hp, gens, drawn, toks, os⟩ (.ref it) "dict_itemiterator" := ⟨_, at_, rfl⟩
  have less : it < hp.objs.size := Heap.lt_size at_
  have owns : Builtin.Dict_items.ownsTuple "dict_itemiterator" = true := by decide
  unfold pyNext
  refine wpAny_bind (wpAny_attempt (wpAny_callSpecial?_slot (name := Str.ofString "__next__") ty0 PySem.F.slot_dict_itemiterator_next (wpAny_call_entry PySem.F.slot_dict_itemiterator_next ty0 PySem.F.entry_dict_itemiterator_next ?_ (PySem.F.args_dict_itemiterator_next_1 _))))
  refine wpAny_bind (wpAny_pure (wpAny_bind (wpAny_bind ?_)))
  first | refine wpAny_bind (wpAny_typeNameOfWhole_itemiter ty0 (wpAny_pure ?_)) | refine wpAny_bind (wpAny_typeNameOf_itemiter ty0 (wpAny_pure ?_))
  refine wpAny_bind (wpAny_fieldsOf at_ rfl ?_)
  simp only [owns, if_true]
  show wpAny _ _ (if (Value.ref d == Value.none) = true then _ else _) _ _ _
  rw [if_neg (ref_not_none d)]
  refine wpAny_bind (wpAny_pure (wpAny_bind (wpAny_dictEntries atObj dat ?_)))
  rw [if_neg (by simp)]
  refine wpAny_bind (wpAny_pure (wpAny_bind (wpAny_dictEpoch atObj dat ?_)))
  rw [if_neg (by simp)]
  refine wpAny_pure ?_
  simp only [show ¬ ((i : Int) < 0) by omega, if_false, Int.toNat_natCast, Array.getElem?_eq_getElem lt]
  refine wpAny_bind ?_
  first | refine wpAny_bind (wpAny_typeNameOfWhole_itemiter ty0 (wpAny_pure ?_)) | refine wpAny_bind (wpAny_typeNameOf_itemiter ty0 (wpAny_pure ?_))
  refine wpAny_bind (wpAny_isOneOf_itemiter ty0 ?_)
  show wpAny _ _ (setField (.ref it) 3 (rawInt ((i : Int) + 1)) >>= _) _ _ _
  refine wpAny_bind (wpAny_setField_rec at_ (by simp) fun ha ea (ba : Heap.SameBut it hp ha) => ?_)
  have ea : PairIt ha it d (i + 1) es.size ep z f u v := by
    unfold PairIt
    rw [show ((i + 1 : Nat) : Int) = (i : Int) + 1 from rfl]
    simpa [rawInt] using ea
  have tya : Shared.TypeIs ⟨ha, gens, drawn, toks, os⟩ (.ref it) "dict_itemiterator" := ⟨_, ea, rfl⟩
  refine wpAny_bind (wpAny_holding (wpAny_bind (wpAny_isOneOf_itemiter tya (wpAny_bind (wpAny_isOneOf_itemiter tya ?_)))))
  show wpAny _ _ (Builtin.Dict_items.pairFromOwner (.ref it) 6 es[i].key es[i].val) _ _ _
  unfold Builtin.Dict_items.pairFromOwner
  refine wpAny_bind (wpAny_newTuple ?_)
  have eb : PairIt (ha.push { cls := .type "tuple", data := .seq #[es[i].key, es[i].val] }) it d (i + 1) es.size ep z f u v := Heap.get?_push_of_some _ ea
  generalize hpush : ha.push { cls := .type "tuple", data := .seq #[es[i].key, es[i].val] } = hb at eb
  have sizea : ha.objs.size = hp.objs.size := ba.1
  have tup : hb.get? hp.objs.size = some { cls := .type "tuple", data := .seq #[es[i].key, es[i].val] } := by rw [← hpush, ← sizea]; exact Heap.get?_push_size _ rfl
  have kept : ∀ b o, b ≠ it → hp.get? b = some o → hb.get? b = some o := fun b o ne g => by rw [← hpush]; exact Heap.get?_push_of_some _ (ba.extBut b o ne g)
  show wpAny _ _ (Builtin.Dict_items.ownedTupleIsFree (.ref it) >>= _) _ _ ⟨hb, gens, drawn, toks, os⟩
  rw [sizea]
  clear hpush ea ba tya sizea
  have tne : hp.objs.size ≠ it := Nat.ne_of_gt less
  have ended : ∀ h3 z' f' u' v', PairIt h3 it d (i + 1) es.size ep z' f' u' v' → Owner it z' f' → Heap.SameBut it hb h3 → Q (some (.ref hp.objs.size)) ⟨h3, gens, drawn, toks, os⟩ :=
    fun h3 z' f' u' v' e hz' but => q h3 z' f' u' v' e hz' (but.extBut _ _ tne tup) fun b o ne g => but.extBut b o ne (kept b o ne g)
  refine wpAny_bind (owner_free eb hz ?_ fun h3 e3 o3 b3 => ?_)
  · simp only [if_true]
    refine wpAny_bind (wpAny_field eb rfl (x := u) rfl (wpAny_bind (wpAny_field eb rfl (x := v) rfl ?_)))
    refine wpAny_bind (wpAny_setField_rec eb (by simp) fun h3 e3 b3 => wpAny_bind (wpAny_setField_rec e3 (by simp) fun h4 e4 b4 => wpAny_bind (wpAny_setField_rec e4 (by simp) fun h5 e5 b5 => wpAny_bind (wpAny_setField_rec e5 (by simp) fun h6 e6 b6 => ?_))))
    have but : Heap.SameBut it hb h6 := ((Heap.SameBut.trans (show Heap.SameBut it hb h3 from b3) b4).trans b5).trans b6
    exact wpAny_bind (wpAny_letGo (wpAny_pure (wpAny_pure ⟨_, rfl, wpAny_pure (ended h6 (rawInt hp.objs.size) false es[i].key es[i].val e6 (.inr ⟨_, rfl, tne⟩) but)⟩)))
  · simp only [Bool.false_eq_true, if_false]
    exact wpAny_pure (wpAny_pure ⟨_, rfl, wpAny_pure (ended h3 z true u v e3 o3 b3)⟩)
open PySem.W PySem.Calls PyProof.V in
theorem endAny {it d : Addr} {i ep : Nat} {es : Array DictEntry} {z u v : Value} {f : Bool} {Q : Option Value → Shared → Prop} (hh : A.handled = none) (at_ : PairIt s.heap it d i es.size ep z f u v) (hz : Owner it z f)
    (raw : DT.Raw s.heap d es ep) (ge : es.size ≤ i) (q : ∀ h', Heap.ExtBut it s.heap h' → Q none { s with heap := h' }) : wpAny (model prog w) A (pyNext (.ref it)) Q E s := by
  rcases hz with ⟨rfl, rfl⟩ | ⟨a, rfl, _⟩
  · exact DT.endI hh at_ raw ge q
  · exact DT.endO hh at_ raw ge q
end
/-- the pairs taken whole: for t in d.items(), t a name -/
theorem turn_pairsT {P : Program} {w : World} {K : PySem.W.Frag} {d it : Addr} {ob : Obj} {es : Array DictEntry} {ep : Nat} {ps : List (List L2.Key × V)} {nm : Str} {tpos : Pos} (data : ob.data = .dict es ep) :
    Turn P w K (.Name nm tpos) (ItT d ob ps) [it] it (fun i h => ∃ z f u v, PairIt h it d i es.size ep z f u v ∧ Owner it z f) := by
  refine ⟨by simp, fun i h st b hb => ?_, fun i h h' st k => ?_, ?_, ?_, fun A i s Q E st h => ?_⟩
  · obtain rfl : b = it := by simpa using hb
    obtain ⟨z, f, u, v, e, _⟩ := st
    exact ⟨_, e, fun v z => nomatch z⟩
  · obtain ⟨z, f, u, v, e, o⟩ := st
    exact ⟨z, f, u, v, k it (by simp) _ e, o⟩
  · intro X hP hw hK hc i pins s σ H E I hf st go
    subst hP hw hK
    obtain ⟨lock, lt⟩ := go
    obtain ⟨_, es2, ep2, raw, data2, size, ents⟩ := frz_ent I lock
    obtain ⟨rfl, rfl⟩ := same_data data data2
    have pi : ps[i]? = some (ps[i].1, ps[i].2) := List.getElem?_eq_getElem lt
    obtain ⟨q, en, hen, hkey, hval, hq⟩ := ents i _ _ pi
    obtain ⟨z, f, u, v, e, ow⟩ := st
    have there : it < s.heap.objs.size := Heap.lt_size e
    have hi : i < es2.size := by omega
    obtain rfl : es2[i] = en := by
      rw [Array.getElem?_eq_getElem hi] at hen
      exact Option.some.inj hen
    refine nextAny e ow raw hi fun h1 z1 f1 u1 v1 e1 ow1 tup keep => ⟨_, rfl, wpAny_pure ?_⟩
    have new : ObjOk X.prog X.w (upd H s.heap.objs.size (.tup [.ref q, ps[i].2])) h1 s.heap.objs.size (.tup [.ref q, ps[i].2]) := by
      refine ⟨by show 2 ≤ sizeLine; decide, [es2[i].key, es2[i].val], .cons ?_ (.cons hval .nil), ⟨_, tup, rfl, _, rfl⟩⟩
      rw [hkey]
      rfl
    have I2 := I.turnedNew (t' := s.toks) (ch := [it]) (h' := h1) (fun b o hb g => keep b o (by simpa using hb) g) hf (Nat.le_refl _) new
    refine ⟨.ref s.heap.objs.size, _, I2, rfl, ⟨_, q, ps[i].1, ps[i].2, pi, rfl, I.hok.fresh (Nat.le_refl _), hq, rfl⟩, ⟨_, _, _, _, e1, ow1⟩, fun b hb => ?_⟩
    obtain rfl : b = it := by simpa using hb
    rw [upd_ne (Nat.ne_of_lt there)]
    exact (hf b (by simp)).1
  · intro X hP hw hK hc i pins s σ H E I hf st stop
    subst hP hw hK
    obtain ⟨lock, ge⟩ := stop
    obtain ⟨_, es2, ep2, raw, data2, size, ents⟩ := frz_ent I lock
    obtain ⟨rfl, rfl⟩ := same_data data data2
    obtain ⟨f0, f1, f2, f3, f4, f5⟩ := hf it (by simp)
    obtain ⟨z, f, u, v, e, ow⟩ := st
    exact endAny (I.ok.hd hc) e ow raw (by omega) fun h1 ext => ⟨rfl, I.turned (t' := s.toks) (fun b o hb g => ext b o hb g) f0 f1 f3 f4 f5⟩
  · obtain ⟨z, f, u, v, e, _⟩ := st
    have ty : s.TypeIs (.ref it) "dict_itemiterator" := ⟨_, e, rfl⟩
    refine wpAny_pyIter_slot ty F.slot_dict_itemiterator_iter (wpAny_call_entry F.slot_dict_itemiterator_iter ty PySem.W.kcp_entry ?_ (F.args_dict_itemiterator_iter_1 _))
    show wpAny _ _ (ret (.ref it)) _ _ s
    exact wpAny_pure ⟨_, rfl, "dict_itemiterator", _, ty, F.slot_dict_itemiterator_next.lookup, h⟩
theorem pi_pairsT {X : Cx} {e : Expr} {td : TE} {apos cpos tpos : Pos} {nm : Str} (he : PE X e td) (hbase : attributeBase e "items" X.env (eval e X.env) = eval e X.env := by rfl) (hline : (apos.endLine == cpos.line) = true := by rfl) :
    PI X (.Name nm tpos) (.Call (.Attribute e "items" apos) [] [] cpos) (iItT td) := by
  constructor
  intro pins s σ H R I h
  refine wpAny_Call_method (T := "dict") (id := "dict.items") hbase rfl hline F.plainAttrs_dict F.slot_dict_items F.type_dict_items (thn (he.run pins s σ H _ I h) ?_)
  rintro u s1 ⟨x, H1, I1, rx, d, ob, ps, rfl, lock, q⟩
  obtain rfl : u = Value.ref d := rx
  obtain ⟨notSys, es, ep, raw, data, size, _⟩ := frz_ent I1 lock
  obtain ⟨o2, g2, x2, _⟩ := id raw
  refine ⟨raw.typeIs, fun b z => ⟨o2, by cases z; exact g2, x2.2.1⟩, ?_⟩
  have I2 : Inv X pins σ H1 { s1 with heap := s1.heap.push { cls := .type "dict_items", data := .fields #[.ref d] } } := I1.kept (t' := s1.toks) fun b o z => Heap.get?_push_of_some _ z
  have walk : wpAny (model X.prog X.w) X.A (pyIter (.ref s1.heap.objs.size)) (PIE X pins σ (.Name nm tpos) R) X.xe { s1 with heap := s1.heap.push { cls := .type "dict_items", data := .fields #[.ref d] } } :=
    DT.iterI (d := d) ⟨_, Heap.get?_push_size _ rfl, rfl, rfl⟩ (raw.push _) (pi_one (tk := s1.toks) I2 _ (turn_pairsT data) ⟨.none, false, .none, .none, Heap.get?_push_size _ rfl, .inl ⟨rfl, rfl⟩⟩ q)
  show wpAny _ _ (callWith cpos (.builtin "dict.items") [.ref d] [] []) _ X.xe s1
  exact method_meetsIn F.slot_dict_items F.entry_dict_items rfl (PySem.evalArgs_none ⟨rfl, raw.typeIs, F.args_dict_items_1 _, _, DT.meetsItems notSys, ⟨raw, walk⟩⟩)
end RR

namespace RR
open PySem PySem.Spec PyProof.Rows L2
/-! several dicts locked at once -/
def lkN (t : TE) : Nat → TE
  | 0 => t
  | n + 1 => tLockE (lkN t n)
def tLk (t : TE) : TE := fun σ H Q => ∃ n, lkN t n σ H Q
def lkSN (t : TS) : Nat → TS
  | 0 => t
  | n + 1 => tLock (lkSN t n)
def tLkS (t : TS) : TS := fun D σ H => ∃ n, lkSN t n D σ H
theorem pe_lkN {X : Cx} {e : Expr} {t : TE} (h : PE X e t) : ∀ n, PE X e (lkN t n)
  | 0 => h
  | n + 1 => pe_lock (pe_lkN h n)
theorem pe_lk {X : Cx} {e : Expr} {t : TE} (h : PE X e t) : PE X e (tLk t) := ⟨fun pins s σ H Q I ⟨n, q⟩ => (pe_lkN h n).run pins s σ H Q I q⟩
theorem ps_lkN {X : Cx} {st : Stmt} {t : TS} (h : PS X st t) : ∀ n, PS X st (lkSN t n)
  | 0 => h
  | n + 1 => ps_lock (ps_lkN h n)
theorem ps_lk {X : Cx} {st : Stmt} {t : TS} (h : PS X st t) : PS X st (tLkS t) := ⟨fun pins s σ H D I ⟨n, q⟩ => (ps_lkN h n).run pins s σ H D I q⟩
/-- without its repetitions -/
def once : List Addr → List Addr
  | [] => []
  | d :: r => if d ∈ r then once r else d :: once r
theorem once_mem (b : Addr) : ∀ ds : List Addr, b ∈ once ds ↔ b ∈ ds
  | [] => Iff.rfl
  | d :: r => by
    unfold once
    split
    · rename_i h
      rw [once_mem b r, List.mem_cons]
      constructor
      · exact .inr
      · rintro (rfl | h2)
        · exact h
        · exact h2
    · rw [List.mem_cons, List.mem_cons, once_mem b r]
theorem once_nodup : ∀ ds : List Addr, (once ds).Nodup
  | [] => List.nodup_nil
  | d :: r => by
    unfold once
    split
    · exact once_nodup r
    · rename_i h
      exact List.nodup_cons.mpr ⟨fun z => h ((once_mem d r).mp z), once_nodup r⟩
/-- what stood at ds stands there again -/
def back (ds : List Addr) (H H' : Hp) : Hp := fun b => if b ∈ ds then H b else H' b
/-- at ds stand the same things, locked -/
structure Lkd (ds : List Addr) (H Hl : Hp) : Prop where
  at_ : ∀ d ∈ ds, ∀ u, H d = some u → ∃ ob, Hl d = some (.frz ob u)
  off : ∀ b, b ∉ ds → Hl b = H b
theorem lk_step {d : Addr} {r : List Addr} {H Hl H' : Hp} {od : Obj} {u : HO} (nd : d ∉ r) (hd : H d = some u) (L : Lkd r (upd H d (.frz od u)) Hl) (P : Hp → Prop) :
    ((∀ b ∈ r, H' b = Hl b) ∧ (back r (upd H d (.frz od u)) H') d = some (.frz od u) ∧ P (upd (back r (upd H d (.frz od u)) H') d u)) = ((∀ b ∈ d :: r, H' b = Hl b) ∧ P (back (d :: r) H H')) := by
  have e1 : Hl d = some (.frz od u) := by rw [L.off d nd, upd_same]
  have e2 : (back r (upd H d (.frz od u)) H') d = H' d := if_neg nd
  have e3 : upd (back r (upd H d (.frz od u)) H') d u = back (d :: r) H H' := by
    funext b
    by_cases hb : b = d
    · subst hb
      rw [upd_same]
      exact (show back (b :: r) H H' b = H b from if_pos (List.mem_cons_self ..)).trans hd |>.symm
    · rw [upd_ne hb]
      unfold back
      by_cases hr : b ∈ r
      · rw [if_pos hr, if_pos (List.mem_cons_of_mem _ hr), upd_ne hb]
      · rw [if_neg hr, if_neg (by rw [List.mem_cons]; rintro (z | z) <;> contradiction)]
  rw [e2, e3]
  refine propext ⟨fun ⟨a, b, c⟩ => ⟨fun x hx => ?_, c⟩, fun ⟨a, c⟩ => ⟨fun x hx => a x (List.mem_cons_of_mem _ hx), (a d (List.mem_cons_self ..)).trans e1, c⟩⟩
  rcases List.mem_cons.mp hx with rfl | hx
  · rw [b, e1]
  · exact a x hx
theorem lkd_step {d : Addr} {r : List Addr} {H Hl : Hp} {od : Obj} {u : HO} (nd : d ∉ r) (hd : H d = some u) (L : Lkd r (upd H d (.frz od u)) Hl) : Lkd (d :: r) H Hl := by
  refine ⟨fun x hx v hv => ?_, fun b hb => ?_⟩
  · rcases List.mem_cons.mp hx with rfl | hx
    · rw [hd] at hv
      cases hv
      exact ⟨od, by rw [L.off x nd, upd_same]⟩
    · have ne : x ≠ d := fun z => nd (z ▸ hx)
      exact L.at_ x hx v (by rw [upd_ne ne]; exact hv)
  · rw [List.mem_cons] at hb
    rw [L.off b (fun z => hb (.inr z)), upd_ne (fun z => hb (.inl z))]
theorem lk_nodup {t : TE} {σ : L2.St} : ∀ (ds : List Addr) (H : Hp) (Q : VK), ds.Nodup → (∀ d ∈ ds, ∃ u, H d = some u ∧ Mut (some u)) → (∀ Hl, Lkd ds H Hl → t σ Hl fun v H' => (∀ d ∈ ds, H' d = Hl d) ∧ Q v (back ds H H')) → lkN t ds.length σ H Q
  | [], H, Q, _, _, h => by
    have := h H ⟨fun _ hd => (List.not_mem_nil hd).elim, fun _ _ => rfl⟩
    have e : (fun (v : V) (H' : Hp) => (∀ d ∈ ([] : List Addr), H' d = H d) ∧ Q v (back [] H H')) = Q := by
      funext v H'
      have e2 : back [] H H' = H' := funext fun b => if_neg List.not_mem_nil
      rw [e2]
      exact propext ⟨fun z => z.2, fun z => ⟨fun d hd => (List.not_mem_nil hd).elim, z⟩⟩
    rw [e] at this
    exact this
  | d :: r, H, Q, nd, hd, h => by
    obtain ⟨n1, n2⟩ := List.nodup_cons.mp nd
    obtain ⟨u, e, mu⟩ := hd d (List.mem_cons_self ..)
    refine ⟨d, _, e, mu, fun od => ?_⟩
    refine lk_nodup r _ _ n2 (fun x hx => ?_) fun Hl L => ?_
    · obtain ⟨qs, e2, mu2⟩ := hd x (List.mem_cons_of_mem _ hx)
      exact ⟨qs, by rw [upd_ne (show x ≠ d from fun z => n1 (by rw [← z]; exact hx))]; exact e2, mu2⟩
    · have := h Hl (lkd_step n1 e L)
      have e2 : (fun (v : V) (H' : Hp) => (∀ b ∈ d :: r, H' b = Hl b) ∧ Q v (back (d :: r) H H')) = fun v H' => (∀ b ∈ r, H' b = Hl b) ∧ (back r (upd H d (.frz od u)) H') d = some (.frz od u) ∧ Q v (upd (back r (upd H d (.frz od u)) H') d u) :=
        funext fun v => funext fun H' => (lk_step n1 e L (Q v)).symm
      rw [e2] at this
      exact this
theorem once_lkd {ds : List Addr} {H Hl : Hp} (L : Lkd (once ds) H Hl) : Lkd ds H Hl := ⟨fun d hd => L.at_ d ((once_mem d ds).mpr hd), fun b hb => L.off b fun z => hb ((once_mem b ds).mp z)⟩
theorem once_back (ds : List Addr) (H H' : Hp) : back (once ds) H H' = back ds H H' := by
  funext b
  unfold back
  by_cases hb : b ∈ ds
  · rw [if_pos hb, if_pos ((once_mem b ds).mpr hb)]
  · rw [if_neg hb, if_neg fun z => hb ((once_mem b ds).mp z)]
/-- the dicts at ds are locked while the expression goes -/
theorem lk_all {t : TE} {σ : L2.St} {H : Hp} {Q : VK} (ds : List Addr) (hd : ∀ d ∈ ds, ∃ u, H d = some u ∧ Mut (some u)) (h : ∀ Hl, Lkd ds H Hl → t σ Hl fun v H' => (∀ d ∈ ds, H' d = Hl d) ∧ Q v (back ds H H')) : tLk t σ H Q := by
  refine ⟨_, lk_nodup (once ds) H Q (once_nodup ds) (fun d hx => hd d ((once_mem d ds).mp hx)) fun Hl L => ?_⟩
  have := h Hl (once_lkd L)
  have e : (fun (v : V) (H' : Hp) => (∀ d ∈ ds, H' d = Hl d) ∧ Q v (back ds H H')) = fun v H' => (∀ d ∈ once ds, H' d = Hl d) ∧ Q v (back (once ds) H H') := by
    funext v H'
    rw [once_back]
    exact propext ⟨fun z => ⟨fun d hd => z.1 d ((once_mem d ds).mp hd), z.2⟩, fun z => ⟨fun d hd => z.1 d ((once_mem d ds).mpr hd), z.2⟩⟩
  rw [e] at this
  exact this
def lkEnds (ds : List Addr) (H Hl : Hp) (D : Ends) : Ends :=
  ⟨fun σ' H' => (∀ d ∈ ds, H' d = Hl d) ∧ D.nx σ' (back ds H H'), fun v H' => (∀ d ∈ ds, H' d = Hl d) ∧ D.rt v (back ds H H'), fun σ' H' => (∀ d ∈ ds, H' d = Hl d) ∧ D.bk σ' (back ds H H'), fun σ' H' => (∀ d ∈ ds, H' d = Hl d) ∧ D.ct σ' (back ds H H')⟩
theorem lkS_nodup {t : TS} {σ : L2.St} : ∀ (ds : List Addr) (H : Hp) (D : Ends), ds.Nodup → (∀ d ∈ ds, ∃ u, H d = some u ∧ Mut (some u)) → (∀ Hl, Lkd ds H Hl → t (lkEnds ds H Hl D) σ Hl) → lkSN t ds.length D σ H
  | [], H, D, _, _, h => by
    have := h H ⟨fun _ hd => (List.not_mem_nil hd).elim, fun _ _ => rfl⟩
    have e : lkEnds [] H H D = D := by
      have e2 : ∀ H', back [] H H' = H' := fun H' => funext fun b => if_neg List.not_mem_nil
      have e3 : ∀ (p : Prop) (H' : Hp), ((∀ d ∈ ([] : List Addr), H' d = H d) ∧ p) = p := fun p H' => propext ⟨fun z => z.2, fun z => ⟨fun d hd => (List.not_mem_nil hd).elim, z⟩⟩
      unfold lkEnds
      simp only [e2, e3]
    rw [e] at this
    exact this
  | d :: r, H, D, nd, hd, h => by
    obtain ⟨n1, n2⟩ := List.nodup_cons.mp nd
    obtain ⟨u, e, mu⟩ := hd d (List.mem_cons_self ..)
    refine ⟨d, _, e, mu, fun od => ?_⟩
    refine lkS_nodup r _ _ n2 (fun x hx => ?_) fun Hl L => ?_
    · obtain ⟨qs, e2, mu2⟩ := hd x (List.mem_cons_of_mem _ hx)
      exact ⟨qs, by rw [upd_ne (show x ≠ d from fun z => n1 (by rw [← z]; exact hx))]; exact e2, mu2⟩
    · have := h Hl (lkd_step n1 e L)
      unfold lkEnds at this ⊢
      simp only [lk_step n1 e L]
      exact this
theorem lkS_all {t : TS} {σ : L2.St} {H : Hp} {D : Ends} (ds : List Addr) (hd : ∀ d ∈ ds, ∃ u, H d = some u ∧ Mut (some u)) (h : ∀ Hl, Lkd ds H Hl → t (lkEnds ds H Hl D) σ Hl) : tLkS t D σ H := by
  refine ⟨_, lkS_nodup (once ds) H D (once_nodup ds) (fun d hx => hd d ((once_mem d ds).mp hx)) fun Hl L => ?_⟩
  have := h Hl (once_lkd L)
  have e : lkEnds ds H Hl D = lkEnds (once ds) H Hl D := by
    have e1 : ∀ H' : Hp, (∀ d ∈ ds, H' d = Hl d) = (∀ d ∈ once ds, H' d = Hl d) := fun H' => propext ⟨fun z d hd => z d ((once_mem d ds).mp hd), fun z d hd => z d ((once_mem d ds).mpr hd)⟩
    unfold lkEnds
    simp only [once_back, e1]
  rw [e] at this
  exact this
/-- what was there before stands behind the lock as it stood -/
theorem back_same {ds : List Addr} {H Hl H' : Hp} (L : Lkd ds H Hl) (s : Same Hl H') : Same H (back ds H H') := by
  intro b o e
  unfold back
  split
  · exact e
  · rename_i h
    exact s b o ((L.off b h).trans e)
theorem Lkd.kept {ds : List Addr} {H Hl H1 : Hp} (L : Lkd ds H Hl) (hd : ∀ d ∈ ds, ∃ u, H d = some u ∧ Mut (some u)) (s : Same Hl H1) : ∀ d ∈ ds, H1 d = Hl d := by
  intro d h
  obtain ⟨u, e, _⟩ := hd d h
  obtain ⟨ob, l⟩ := L.at_ d h u e
  rw [l, s _ _ l]
theorem Lkd.fresh {ds : List Addr} {H Hl : Hp} (L : Lkd ds H Hl) (hd : ∀ d ∈ ds, ∃ u, H d = some u ∧ Mut (some u)) {D : Addr} (n : Hl D = none) : H D = none ∧ D ∉ ds := by
  have a : D ∉ ds := fun h => by
    obtain ⟨u, e, _⟩ := hd D h
    obtain ⟨ob, l⟩ := L.at_ D h u e
    rw [l] at n
    cases n
  exact ⟨(L.off D a).symm.trans n, a⟩
theorem back_off {ds : List Addr} {H H1 : Hp} {D : Addr} (h : D ∉ ds) : back ds H H1 D = H1 D := if_neg h
/-- what was tracked ahead of the lock, of another kind than what is locked, stands within -/
theorem Lkd.there {ds : List Addr} {H Hl : Hp} (L : Lkd ds H Hl) {b : Addr} {o : HO} (e : H b = some o) (h : b ∉ ds) : Hl b = some o := (L.off b h).trans e
theorem mut_one {H : Hp} {a : Addr} {u : HO} (e : H a = some u) (m : Mut (some u)) : ∀ d ∈ [a], ∃ u, H d = some u ∧ Mut (some u) := by
  intro d h
  rw [List.mem_singleton] at h
  subst h
  exact ⟨u, e, m⟩
theorem mut_two {H : Hp} {a b : Addr} {u v : HO} (e : H a = some u) (m : Mut (some u)) (e2 : H b = some v) (m2 : Mut (some v)) : ∀ d ∈ [a, b], ∃ u, H d = some u ∧ Mut (some u) := by
  intro d h
  rcases List.mem_cons.mp h with rfl | h
  · exact ⟨u, e, m⟩
  · rw [List.mem_singleton] at h
    subst h
    exact ⟨v, e2, m2⟩
theorem back_new {ds : List Addr} {H Hl H' : Hp} (L : Lkd ds H Hl) {b : Addr} {o : HO} (hn : H b = none) (hd : ∀ d ∈ ds, H d ≠ none) (e : H' b = some o) : back ds H H' b = some o := by
  unfold back
  rw [if_neg fun z => hd b z hn]
  exact e
end RR

namespace RR
open PySem PySem.Spec PyProof.Rows L2
/-! texts in their order -/
def leS (a b : Str) : Bool := decide (a.cps.toList ≤ b.cps.toList)
theorem leS_iff {a b : Str} : leS a b = true ↔ a.cps.toList ≤ b.cps.toList := decide_eq_true_iff
theorem leS_trans (a b c : Str) (h : leS a b = true) (g : leS b c = true) : leS a c = true := leS_iff.mpr (List.le_trans (leS_iff.mp h) (leS_iff.mp g))
theorem leS_total (a b : Str) : (leS a b || leS b a) = true := by
  rw [Bool.or_eq_true, leS_iff, leS_iff]
  exact List.le_total _ _
theorem leS_anti {a b : Str} (h : leS a b = true) (g : leS b a = true) : a = b := by
  have e : a.cps.toList = b.cps.toList := List.le_antisymm (leS_iff.mp h) (leS_iff.mp g)
  cases a; cases b
  exact congrArg Str.mk (Array.toList_inj.mp e)
theorem leS_of {a b : Str} (h : ltCps b.cps.toList a.cps.toList = false) : leS a b = true := by
  rw [ltCps_eq] at h
  exact leS_iff.mpr (of_decide_eq_false h)
/-- sorted(xs) -/
def srt (xs : List Str) : List Str := xs.mergeSort leS
def Srtd (xs : List Str) : Prop := xs.Pairwise fun a b => leS a b = true
theorem srt_srtd (xs : List Str) : Srtd (srt xs) := List.pairwise_mergeSort leS_trans leS_total xs
theorem srt_perm (xs : List Str) : (srt xs).Perm xs := List.mergeSort_perm xs leS
theorem srt_len (xs : List Str) : (srt xs).length = xs.length := (srt_perm xs).length_eq
theorem srtd_eq {xs ys : List Str} (p : xs.Perm ys) (hx : Srtd xs) (hy : Srtd ys) : xs = ys := p.eq_of_pairwise (fun a b _ _ => leS_anti) hx hy
theorem srt_id {xs : List Str} (h : Srtd xs) : srt xs = xs := srtd_eq (srt_perm xs) (srt_srtd xs) h
theorem srt_congr {xs ys : List Str} (p : xs.Perm ys) : srt xs = srt ys := srtd_eq (((srt_perm xs).trans p).trans (srt_perm ys).symm) (srt_srtd xs) (srt_srtd ys)
theorem rising_srtd : ∀ (r : List Str) (x : Str), risingS x r = true → Srtd (x :: r)
  | [], x, _ => List.pairwise_singleton _ _
  | y :: r, x, h => by
    unfold risingS at h
    rw [Bool.and_eq_true] at h
    have q := rising_srtd r y h.2
    have xy : leS x y = true := leS_of (by simpa using h.1)
    refine List.pairwise_cons.mpr ⟨fun z hz => ?_, q⟩
    rcases List.mem_cons.mp hz with rfl | hz
    · exact xy
    · exact leS_trans _ _ _ xy ((List.pairwise_cons.mp q).1 z hz)
theorem srtd_of {xs : List Str} (h : sortedS xs = true) : Srtd xs := match xs, h with
  | [], _ => List.Pairwise.nil
  | x :: r, h => rising_srtd r x h
theorem srt_of {xs ys : List Str} (p : ys.Perm xs) (h : sortedS ys = true) : ys = srt xs := srtd_eq (p.trans (srt_perm xs).symm) (srtd_of h) (srt_srtd xs)
theorem collectT {prog : Program} {w : World} {A : Around} {E : Value → Shared → Prop} {s : Shared} {a : Addr} {o : Obj} {its : List Value} {n : Nat} {Q : List Value → Shared → Prop} (ho : s.heap.get? a = some o) (hc : o.cls = .type "tuple") (hd : o.data = .seq its.toArray n) (big : its.length ≤ sizeLine)
    (q : ∀ h', (∀ b u, s.heap.get? b = some u → h'.get? b = some u) → s.heap.objs.size ≤ h'.objs.size → Q its { s with heap := h' }) : wpAny (model prog w) A (collect (.ref a)) Q E s := by
  have there : (s.heap.push (seqObj "list" #[] 0)).get? a = some o := Heap.get?_push_of_some _ ho
  have fresh : (s.heap.push (seqObj "list" #[] 0)).get? s.heap.objs.size = some (seqObj "list" #[] 0) := Heap.get?_push_size _ rfl
  unfold collect
  refine wpAny_bind (wpAny_runValue (codeAny_builtin entry_proto_collect' ?_))
  show wpAny _ _ (do again (.builtin "list.__iadd__" ⟨[← newList [], .ref a], []⟩)) _ _ s
  refine wpAny_bind (wpAny_newList (wpAny_pure ⟨Code.quiet_builtin _ (by decide +kernel), codeAny_builtin entry_list_iadd' ?_⟩))
  show wpAny _ _ (Builtin.List.listExtendWith (.ref s.heap.objs.size) (.ref a) (.ref s.heap.objs.size)) _ _ { s with heap := s.heap.push (seqObj "list" #[] 0) }
  unfold Builtin.List.listExtendWith
  refine wpAny_bind (wpAny_typeOf (T := "tuple") ⟨o, there, hc⟩ ?_)
  rw [if_pos (by rw [show (Value.type "tuple" == Value.type "tuple") = true from rfl]; simp)]
  refine wpAny_bind (listItems_at there hd (wpAny_bind (listItems_at fresh rfl ?_)))
  rw [if_neg (by simp)]
  have fits : (#[] ++ its.toArray : Array Value).size ≤ sizeLine + 1 := by
    simp only [Array.size_append, List.size_toArray, List.length_nil]
    omega
  refine wpAny_bind (listUpdate_at fresh rfl ?_ (Nat.zero_le _) fits)
  refine wpAny_pure ?_
  show wpAny (model prog w) A (do
      let o ← load s.heap.objs.size
      match o.data with
      | .seq xs _ => pure xs.toList
      | _ => unsupported "internal:collect") Q E { s with heap := (s.heap.push (seqObj "list" #[] 0)).update s.heap.objs.size (Obj.mapSeq (· ++ its.toArray)) }
  refine wpAny_bind (wpAny_load (get?_update_seq fresh _) ?_)
  show wpAny _ _ (pure ((#[] : Array Value) ++ its.toArray).toList) Q E _
  rw [show ((#[] : Array Value) ++ its.toArray).toList = its by simp]
  refine wpAny_pure (q _ (fun b u e => ?_) (by rw [Heap.size_update, size_push']; exact Nat.le_succ _))
  rw [Heap.get?_update_ne _ _ _ _ (Nat.ne_of_lt (Heap.lt_size e))]
  exact Heap.get?_push_of_some _ e
section
variable {X : Cx}
/-- sorted(t), t a tuple of fewer than 64 texts -/
def rSortT (K : PySem.W.Frag) : List V → Hp → VK → Prop := fun vs H Q => ∃ (a : Addr) (xs : List Str), vs = [V.ref a] ∧ SqT K H a (xs.map V.str) ∧ xs.length < 64 ∧ ∀ p, H p = none → Q (.ref p) (upd H p (.lst ((srt xs).map V.str)))
theorem cr_sortT : CallR X (.builtin "sorted") (rSortT X.K) := by
  intro pins s σ H vs us Q I r h
  obtain ⟨a, xs, rfl, hs, h64, q⟩ := h
  obtain ⟨its, rv, tup, _⟩ := I.tuple hs
  rw [Vals.ref1 r]
  have hS := rv.strs
  have len : its.length = xs.length := by rw [← rv.length, List.length_map]
  obtain ⟨o, ho, hc, n, hd⟩ := tup
  refine Calls.call_function_entry kind_sorted plain_sorted entry_sorted (args_sorted1 _) ?_
  unfold Builtin.«sorted»
  refine wpAny_bind (m := checkCount "sorted" 1 1 _) (wpAny_pure ?_)
  have big : its.length ≤ sizeLine := by
    rw [len, sizeLine_eq]
    omega
  refine wpAny_bind (collectT ho hc hd big fun h1 k1 below => wpAny_bind (wpAny_newList ?_ big))
  have at1 : (h1.push { cls := .type "list", data := .seq its.toArray }).get? h1.objs.size = some (seqObj "list" its.toArray 0) := Heap.get?_push_size _ rfl
  refine wpAny_bind (wpAny_holding (wpAny_call_entry slot_list_sort ⟨_, at1, rfl⟩ entry_list_sort (list_sort_treeK strKind_oneLt at1 hS.keysOf (fun v₁ v₂ rest e => keyKind_strs (by rw [← e]; exact hS)) (by rw [len]; exact h64) fun st' hp hs => ⟨_, rfl, ?_⟩) (args_list_sort _)))
  obtain ⟨ys, g1, g2, g3⟩ := sorted_out_str hS hp hs
  obtain rfl := srt_of g2 g3
  obtain ⟨ep, at2⟩ := sortedHeap_at (vs := its) (out := (arrOf st').map (·.2)) at1
  have few : ((srt xs).map V.str).length ≤ sizeLine := by
    rw [List.length_map, srt_len, sizeLine_eq]
    omega
  have old : ∀ b u, s.heap.get? b = some u → b < h1.objs.size := fun b u e => Heap.lt_size (k1 b u e)
  refine wpAny_pure ⟨_, rfl, .ref h1.objs.size, upd H h1.objs.size (.lst ((srt xs).map V.str)), I.laid (t' := s.toks) (fun b u e => ?_) below ⟨few, ((arrOf st').map (·.2)).toList, ep, vals_of_strs g1, by rw [Array.toArray_toList]; exact at2⟩, rfl, q _ (I.hok.fresh below)⟩
  have lt := old b u e
  rw [sortedHeap_old (Nat.ne_of_lt lt) (by rw [size_push']; exact Nat.lt_succ_of_lt lt), Heap.get?_push_ne _ _ _ (Nat.ne_of_lt lt)]
  exact k1 b u e
end
end RR

namespace RR
open PySem PySem.Spec PyProof.Rows L2
/-! polynomials as lists of terms -/
abbrev Mono := List Str
abbrev Poly := List (Mono × Int)
def kI (m : Mono) : List L2.Key := m.map Sum.inr
theorem kI_V (m : Mono) : (kI m).map kV = m.map V.str := by
  unfold kI
  rw [List.map_map]
  rfl
theorem kI_inj {m n : Mono} : kI m = kI n ↔ m = n := by
  constructor
  · intro h
    exact List.map_inj_right (f := (Sum.inr : Str → L2.Key)) (fun a b z => Sum.inr.inj z) |>.mp h
  · rintro rfl
    rfl
def enc (p : Poly) : List (List L2.Key × V) := p.map fun t => (kI t.1, V.int t.2)
theorem enc_len (p : Poly) : (enc p).length = p.length := List.length_map ..
theorem enc_at {p : Poly} {i : Nat} {k : List L2.Key} {v : V} (h : (enc p)[i]? = some (k, v)) : ∃ m c, p[i]? = some (m, c) ∧ k = kI m ∧ v = .int c := by
  unfold enc at h
  rw [List.getElem?_map] at h
  cases e : p[i]? with
  | none => rw [e] at h; cases h
  | some t =>
    rw [e] at h
    cases h
    exact ⟨t.1, t.2, rfl, rfl, rfl⟩
/-- the coefficient that is held -/
def getP (p : Poly) (m : Mono) : Option Int := (p.find? fun t => decide (t.1 = m)).map (·.2)
def cf (p : Poly) (m : Mono) : Int := (getP p m).getD 0
def putP (p : Poly) (m : Mono) (c : Int) : Poly := if (p.any fun t => decide (t.1 = m)) = true then p.map (fun t => if t.1 = m then (t.1, c) else t) else p ++ [(m, c)]
def KN (p : Poly) : Prop := (p.map (·.1)).Nodup
theorem enc_get (p : Poly) (m : Mono) : valV (enc p) (kI m) = (getP p m).map V.int := by
  induction p with
  | nil => rfl
  | cons t p ih =>
    by_cases e : t.1 = m
    · rw [show enc (t :: p) = (kI t.1, V.int t.2) :: enc p from rfl, valV_pos (kI_inj.mpr e)]
      simp [getP, List.find?_cons, e]
    · rw [show enc (t :: p) = (kI t.1, V.int t.2) :: enc p from rfl, valV_neg (fun z => e (kI_inj.mp z)), ih]
      simp [getP, List.find?_cons, e]
theorem enc_put (p : Poly) (m : Mono) (c : Int) : putK (enc p) (kI m) (.int c) = enc (putP p m c) := by
  have a : ((enc p).any fun kv => decide (kv.1 = kI m)) = p.any fun t => decide (t.1 = m) := by
    unfold enc
    rw [List.any_map]
    congr 1
    funext t
    exact decide_eq_decide.mpr kI_inj
  unfold putK putP
  rw [a]
  split
  · unfold enc
    rw [List.map_map, List.map_map]
    refine List.map_congr_left fun t _ => ?_
    by_cases e : t.1 = m
    · simp [e]
    · simp [e, kI_inj]
  · simp [enc]
theorem getP_of {p : Poly} (kn : KN p) {i : Nat} {m : Mono} {c : Int} (h : p[i]? = some (m, c)) : getP p m = some c := by
  induction p generalizing i with
  | nil => simp at h
  | cons t p ih =>
    unfold KN at kn
    rw [List.map_cons, List.nodup_cons] at kn
    cases i with
    | zero =>
      simp at h
      subst h
      simp [getP]
    | succ i =>
      rw [List.getElem?_cons_succ] at h
      have ne : t.1 ≠ m := fun e => kn.1 (by rw [e]; exact List.mem_map.mpr ⟨(m, c), List.mem_of_getElem? h, rfl⟩)
      have := ih kn.2 h
      unfold getP at this ⊢
      rw [List.find?_cons]
      simp [ne, this]
theorem putP_new {p : Poly} {m : Mono} (h : m ∉ p.map (·.1)) (c : Int) : putP p m c = p ++ [(m, c)] := by
  unfold putP
  rw [if_neg]
  intro z
  obtain ⟨t, ht, e⟩ := List.any_eq_true.mp z
  exact h (List.mem_map.mpr ⟨t, ht, of_decide_eq_true e⟩)
theorem putP_keys (p : Poly) (m : Mono) (c : Int) : (putP p m c).map (·.1) = if (p.any fun t => decide (t.1 = m)) = true then p.map (·.1) else p.map (·.1) ++ [m] := by
  unfold putP
  split
  · rw [List.map_map]
    refine List.map_congr_left fun t _ => ?_
    simp only [Function.comp]
    split <;> rfl
  · simp
theorem putP_kn {p : Poly} (kn : KN p) (m : Mono) (c : Int) : KN (putP p m c) := by
  unfold KN
  rw [putP_keys]
  split
  · exact kn
  · rename_i h
    refine List.nodup_append.mpr ⟨kn, by simp, ?_⟩
    rintro a ha b hb rfl
    rw [List.mem_singleton] at hb
    subst hb
    obtain ⟨t, ht, e⟩ := List.mem_map.mp ha
    exact h (List.any_eq_true.mpr ⟨t, ht, decide_eq_true e⟩)
/-- without zeros -/
def nz (p : Poly) : Poly := p.filter fun t => decide (t.2 ≠ 0)
def addP (p : Poly) (t : Mono × Int) : Poly := putP p t.1 (cf p t.1 + t.2)
def sums (ts : Poly) : Poly := ts.foldl addP []
def coll (ts : Poly) : Poly := nz (sums ts)
def mrg (a b : Mono) : Mono := srt (a ++ b)
def prods (p q : Poly) : Poly := p.flatMap fun s => q.map fun t => (mrg s.1 t.1, s.2 * t.2)
def mulP (p q : Poly) : Poly := coll (prods p q)
def plusP (p q : Poly) : Poly := coll (p ++ q)
def sclP (p : Poly) (n : Int) : Poly := nz (p.map fun t => (t.1, t.2 * n))
def minP (p q : Poly) : Poly := plusP p (sclP q (-1))
def conP (n : Int) : Poly := nz [([], n)]
def varP (x : Str) : Poly := [([x], 1)]
theorem nz_kn {p : Poly} (kn : KN p) : KN (nz p) := List.Nodup.sublist (List.Sublist.map _ List.filter_sublist) kn
theorem sums_kn (ts : Poly) : KN (sums ts) := by
  have : ∀ (ts p : Poly), KN p → KN (ts.foldl addP p) := by
    intro ts
    induction ts with
    | nil => exact fun p h => h
    | cons t ts ih => exact fun p h => ih _ (putP_kn h _ _)
  exact this ts [] List.nodup_nil
theorem coll_kn (ts : Poly) : KN (coll ts) := nz_kn (sums_kn ts)
theorem scl_keys (p : Poly) (n : Int) : (p.map fun t => (t.1, t.2 * n)).map (·.1) = p.map (·.1) := by
  rw [List.map_map]
  rfl
theorem scl_kn {p : Poly} (kn : KN p) (n : Int) : KN (sclP p n) := nz_kn (by unfold KN; rw [scl_keys]; exact kn)
theorem con_kn (n : Int) : KN (conP n) := nz_kn (by unfold KN; simp)
theorem var_kn (x : Str) : KN (varP x) := by unfold KN varP; simp
theorem sums_snoc (ts : Poly) (t : Mono × Int) : sums (ts ++ [t]) = addP (sums ts) t := by
  unfold sums
  rw [List.foldl_append]
  rfl
theorem putP_len (p : Poly) (m : Mono) (c : Int) : (putP p m c).length ≤ p.length + 1 := by
  unfold putP
  split
  · rw [List.length_map]; omega
  · rw [List.length_append]; exact Nat.le_refl _
theorem sums_len (ts : Poly) : (sums ts).length ≤ ts.length := by
  have : ∀ (ts p : Poly), (ts.foldl addP p).length ≤ p.length + ts.length := by
    intro ts
    induction ts with
    | nil => exact fun p => Nat.le_refl _
    | cons t ts ih =>
      intro p
      have a := ih (addP p t)
      have b := putP_len p t.1 (cf p t.1 + t.2)
      show ((ts.foldl addP (addP p t))).length ≤ _
      unfold addP at a ⊢
      rw [List.length_cons]
      omega
  have := this ts []
  rw [List.length_nil] at this
  unfold sums
  omega
/-- at a the dict of a polynomial -/
def PD (H : Hp) (a : Addr) (p : Poly) : Prop := H a = some (.dT (enc p))
def MT (H : Hp) (a : Addr) (m : Mono) : Prop := H a = some (.tup (m.map V.str))
/-- at b the pair of a monomial and a number -/
def TP1 (H : Hp) (b : Addr) (t : Mono × Int) : Prop := ∃ q, H b = some (.tup [.ref q, .int t.2]) ∧ MT H q t.1
theorem MT.keep {H H' : Hp} {a : Addr} {m : Mono} (h : MT H a m) (s : Same H H') : MT H' a m := s _ _ h
theorem TP1.keep {H H' : Hp} {b : Addr} {t : Mono × Int} (h : TP1 H b t) (s : Same H H') : TP1 H' b t := let ⟨q, h1, h2⟩ := h; ⟨q, s _ _ h1, s _ _ h2⟩
theorem MT.key {H : Hp} {a : Addr} {m : Mono} (h : MT H a m) : H a = some (.tup ((kI m).map kV)) := by rw [kI_V]; exact h
theorem PD.get {H : Hp} {d b : Addr} {p : Poly} {m : Mono} (hd : Rd H d (.dT (enc p))) (hb : MT H b m) : DGet H d (.ref b) ((getP p m).map V.int) := .inr ⟨_, _, b, hd, rfl, hb.key, (enc_get p m).symm⟩
theorem PD.put {H : Hp} {d b : Addr} {p : Poly} {m : Mono} {c : Int} (hd : PD H d p) (hb : MT H b m) (hl : p.length < sizeLine) : DPut H d (.ref b) (.int c) (upd H d (.dT (enc (putP p m c)))) := by
  rw [← enc_put]
  exact DPut.t hd hb.key (by rw [enc_len]; exact hl)
theorem getD_int (o : Option Int) : ((o.map V.int).getD (.int 0)) = .int (o.getD 0) := by cases o <;> rfl
theorem nz_snoc (p : Poly) (m : Mono) (c : Int) : nz (p ++ [(m, c)]) = if c = 0 then nz p else nz p ++ [(m, c)] := by
  unfold nz
  rw [List.filter_append]
  by_cases h : c = 0 <;> simp [h]
theorem take_snoc {p : Poly} {i : Nat} {t : Mono × Int} (h : p[i]? = some t) : p.take (i + 1) = p.take i ++ [t] := by
  rw [List.take_add_one, h]
  rfl
theorem nz_fresh {p : Poly} (kn : KN p) {i : Nat} {m : Mono} {c : Int} (h : p[i]? = some (m, c)) : m ∉ (nz (p.take i)).map (·.1) := by
  intro z
  obtain ⟨t, ht, rfl⟩ := List.mem_map.mp z
  have ht := (List.mem_filter.mp ht).1
  have kn2 : KN (p.take (i + 1)) := List.Nodup.sublist (List.Sublist.map _ (List.take_sublist _ _)) kn
  unfold KN at kn2
  rw [take_snoc h, List.map_append, List.nodup_append] at kn2
  exact kn2.2.2 t.1 (List.mem_map.mpr ⟨t, ht, rfl⟩) t.1 (by simp) rfl
theorem nz_len (p : Poly) : (nz p).length ≤ p.length := List.length_filter_le ..
theorem sz_lt {n : Nat} (h : n ≤ 100000) : n < sizeLine := Nat.lt_of_le_of_lt h (by decide)
theorem paired_at {α β : Type} {G : α → β → Prop} {l : List α} {m : List β} (h : Paired G l m) {i : Nat} {b : β} (e : m[i]? = some b) : ∃ a, l[i]? = some a ∧ G a b := by
  induction h generalizing i with
  | nil => simp at e
  | cons r t ih =>
    cases i with
    | zero =>
      simp at e
      exact ⟨_, rfl, e ▸ r⟩
    | succ i => exact ih e
theorem ref_at {as : List Addr} {i : Nat} {v : V} (h : (as.map V.ref)[i]? = some v) : ∃ b, as[i]? = some b ∧ v = .ref b := by
  rw [List.getElem?_map] at h
  obtain ⟨b, hb, rfl⟩ := Option.map_eq_some_iff.mp h
  exact ⟨b, hb, rfl⟩
theorem scl_at {p : Poly} {i : Nat} {m : Mono} {c : Int} (h : p[i]? = some (m, c)) (n : Int) : (p.map fun t => (t.1, t.2 * n))[i]? = some (m, c * n) := by
  rw [List.getElem?_map, h]
  rfl
theorem take_fresh {p : Poly} (kn : KN p) {i : Nat} {m : Mono} {c : Int} (h : p[i]? = some (m, c)) : m ∉ (p.take i).map (·.1) := by
  intro z
  obtain ⟨t, ht, rfl⟩ := List.mem_map.mp z
  have kn2 : KN (p.take (i + 1)) := List.Nodup.sublist (List.Sublist.map _ (List.take_sublist _ _)) kn
  unfold KN at kn2
  rw [take_snoc h, List.map_append, List.nodup_append] at kn2
  exact kn2.2.2 t.1 (List.mem_map.mpr ⟨t, ht, rfl⟩) t.1 (by simp) rfl
/-- the value -/
def prv (v : Str → Int) (m : Mono) : Int := m.foldl (fun z x => z * v x) 1
def ev1 (v : Str → Int) (t : Mono × Int) : Int := t.1.foldl (fun z x => z * v x) t.2
def evp (v : Str → Int) (p : Poly) : Int := p.foldl (fun z t => z + ev1 v t) 0
theorem evp_snoc (v : Str → Int) (p : Poly) (t : Mono × Int) : evp v (p ++ [t]) = evp v p + ev1 v t := by
  unfold evp
  rw [List.foldl_append]
  rfl
theorem paired_keep {H H' : Hp} (s : Same H H') {as : List Addr} {ts : Poly} (h : Paired (TP1 H) as ts) : Paired (TP1 H') as ts := Paired.mapP h fun _ _ r => r.keep s
theorem flat_take {α : Type} {ls : List (List α)} {i : Nat} {l : List α} (h : ls[i]? = some l) : (ls.take (i + 1)).flatten = (ls.take i).flatten ++ l := by
  rw [List.take_add_one, h, List.flatten_append]
  simp
theorem flat_le {α : Type} (ls : List (List α)) (i : Nat) : (ls.take i).flatten.length ≤ ls.flatten.length := by
  have e : ls.flatten = (ls.take i).flatten ++ (ls.drop i).flatten := by rw [← List.flatten_append, List.take_append_drop]
  rw [e, List.length_append]
  omega
theorem scl_len (p : Poly) (n : Int) : (sclP p n).length ≤ p.length := by
  have := nz_len (p.map fun t => (t.1, t.2 * n))
  rw [List.length_map] at this
  exact this
theorem sm_one {B : Nat} (h : 1 ≤ B) : Sm B 1 := Nat.lt_of_lt_of_le (by decide) (Nat.pow_le_pow_right (by decide) h)
theorem sm_neg1 {B : Nat} (h : 1 ≤ B) : Sm B (-1) := sm_one h
theorem refs_append (as bs : List Addr) : as.map V.ref ++ bs.map V.ref = (as ++ bs).map V.ref := List.map_append.symm
theorem prods_len (p r : Poly) : (prods p r).length = p.length * r.length := by
  induction p with
  | nil => simp [prods]
  | cons s p ih =>
    unfold prods at ih ⊢
    rw [List.flatMap_cons, List.length_append, ih, List.length_map, List.length_cons, Nat.succ_mul]
    omega
/-! walks -/
theorem dcT_it {J : It} {n : Nat} {G : Hp → Prop} {Y : Nat → Hp → V → Hp → Prop} (w : Walk J n G Y) {g : TG} {tt : TT} {tk tv : TE} {vs : List Nat} {σ : L2.St} {H1 : Hp} {D : Addr} {Qd : Hp → Prop} (Pv : Nat → Hp → Prop) (h0 : Pv 0 (upd H1 D (.dT []))) (hG : ∀ i H, i ≤ n → Pv i H → G H)
    (hs : ∀ i x H H', i < n → Pv i H → Y i H x H' → g x (wipe σ vs) H' fun σ2 H2 => wipe σ2 vs = wipe σ vs ∧ tt σ2 H2 fun b H3 =>
      if b = true then tk σ2 H3 fun y H4 => tv σ2 H4 fun z H5 => ∃ ps k b, y = .ref b ∧ H5 b = some (.tup (k.map kV)) ∧ H5 D = some (.dT ps) ∧ ps.length < sizeLine ∧ Pv (i + 1) (upd H5 D (.dT (putK ps k z))) else Pv (i + 1) H3) (hd : ∀ H, Pv n H → Qd H) :
    ∃ W : Nat → Nat → Hp → Prop, (∃ m, W 0 m (upd H1 D (.dT []))) ∧ ∀ i m H, W i m H →
      (J.stop i H ∧ Qd H) ∨ (J.go i H ∧ ∃ Nx : Hp → Prop, (∀ H', Nx H' → ∃ m', m' < m ∧ W (i + 1) m' H') ∧ ∀ x H', J.yld i H x H' → g x (wipe σ vs) H' fun σ2 H2 => wipe σ2 vs = wipe σ vs ∧ tt σ2 H2 fun b H3 =>
        if b = true then tk σ2 H3 fun y H4 => tv σ2 H4 fun z H5 => ∃ ps k b, y = .ref b ∧ H5 b = some (.tup (k.map kV)) ∧ H5 D = some (.dT ps) ∧ ps.length < sizeLine ∧ Nx (upd H5 D (.dT (putK ps k z))) else Nx H3) := by
  refine ⟨fun i m H => m = n - i ∧ i ≤ n ∧ Pv i H, ⟨n, by simp, Nat.zero_le _, h0⟩, ?_⟩
  rintro i m H ⟨rfl, le, p⟩
  have gd := hG i H le p
  by_cases lt : i < n
  · exact .inr ⟨w.goes i H lt gd, Pv (i + 1), fun H' p' => ⟨n - (i + 1), by omega, rfl, lt, p'⟩, fun x H' y => hs i x H H' lt p (w.yields i H x H' lt gd y)⟩
  · obtain rfl : i = n := by omega
    exact .inl ⟨w.stops H gd, hd H p⟩
end RR

namespace RR
open PySem PySem.Spec PyProof.Rows L2
section
variable {J : It} {n : Nat} {G : Hp → Prop} {Y : Nat → Hp → V → Hp → Prop}
/-- a comprehension with two fors, the outer walk -/
theorem lc2_it (w : Walk J n G Y) {g : TG} {tt : TT} {wi1 : TI} {g1 : TG} {tt1 : TT} {te : TE} {vs vs1 : List Nat} {σ : L2.St} {H1 : Hp} {D : Addr} {Qd : Hp → Prop} (Pv : Nat → Hp → Prop) (h0 : Pv 0 (upd H1 D (.lst []))) (hG : ∀ i H, i ≤ n → Pv i H → G H)
    (hs : ∀ i x H H', i < n → Pv i H → Y i H x H' → g x (wipe σ vs) H' fun σ2 H2 => wipe σ2 vs = wipe σ vs ∧ tt σ2 H2 fun b H3 =>
      if b = true then wi1 σ2 H3 fun J1 H4 => ∃ W1 : Nat → Nat → Hp → Prop, (∃ m, W1 0 m H4) ∧ ∀ j k H, W1 j k H →
        (J1.stop j H ∧ Pv (i + 1) H) ∨ (J1.go j H ∧ ∃ Nx1 : Hp → Prop, (∀ H', Nx1 H' → ∃ k', k' < k ∧ W1 (j + 1) k' H') ∧ ∀ x H', J1.yld j H x H' → g1 x (wipe σ2 vs1) H' fun σ3 H5 => wipe σ3 vs1 = wipe σ2 vs1 ∧ tt1 σ3 H5 fun b H6 =>
          if b = true then te σ3 H6 fun y H7 => ∃ acc, H7 D = some (.lst acc) ∧ acc.length < sizeLine ∧ Nx1 (upd H7 D (.lst (acc ++ [y]))) else Nx1 H6)
      else Pv (i + 1) H3) (hd : ∀ H, Pv n H → Qd H) :
    ∃ W : Nat → Nat → Hp → Prop, (∃ m, W 0 m (upd H1 D (.lst []))) ∧ ∀ i m H, W i m H →
      (J.stop i H ∧ Qd H) ∨ (J.go i H ∧ ∃ Nx : Hp → Prop, (∀ H', Nx H' → ∃ m', m' < m ∧ W (i + 1) m' H') ∧ ∀ x H', J.yld i H x H' → g x (wipe σ vs) H' fun σ2 H2 => wipe σ2 vs = wipe σ vs ∧ tt σ2 H2 fun b H3 =>
        if b = true then wi1 σ2 H3 fun J1 H4 => ∃ W1 : Nat → Nat → Hp → Prop, (∃ m, W1 0 m H4) ∧ ∀ j k H, W1 j k H →
          (J1.stop j H ∧ Nx H) ∨ (J1.go j H ∧ ∃ Nx1 : Hp → Prop, (∀ H', Nx1 H' → ∃ k', k' < k ∧ W1 (j + 1) k' H') ∧ ∀ x H', J1.yld j H x H' → g1 x (wipe σ2 vs1) H' fun σ3 H5 => wipe σ3 vs1 = wipe σ2 vs1 ∧ tt1 σ3 H5 fun b H6 =>
            if b = true then te σ3 H6 fun y H7 => ∃ acc, H7 D = some (.lst acc) ∧ acc.length < sizeLine ∧ Nx1 (upd H7 D (.lst (acc ++ [y]))) else Nx1 H6)
        else Nx H3) := by
  refine ⟨fun i m H => m = n - i ∧ i ≤ n ∧ Pv i H, ⟨n, by simp, Nat.zero_le _, h0⟩, ?_⟩
  rintro i m H ⟨rfl, hi, p⟩
  have q := hG i H hi p
  by_cases hlt : i < n
  · exact .inr ⟨w.goes i H hlt q, Pv (i + 1), fun H' p' => ⟨n - (i + 1), by omega, rfl, hlt, p'⟩, fun x H' y => hs i x H H' hlt p (w.yields i H x H' hlt q y)⟩
  · have e : i = n := by omega
    subst e
    exact .inl ⟨w.stops H q, hd H p⟩
/-- .. and the inner one -/
theorem in_it (w : Walk J n G Y) {g1 : TG} {tt1 : TT} {te : TE} {vs1 : List Nat} {σ2 : L2.St} {H4 : Hp} {D : Addr} {N : Hp → Prop} (Pv : Nat → Hp → Prop) (h0 : Pv 0 H4) (hG : ∀ i H, i ≤ n → Pv i H → G H)
    (hs : ∀ j x H H', j < n → Pv j H → Y j H x H' → g1 x (wipe σ2 vs1) H' fun σ3 H5 => wipe σ3 vs1 = wipe σ2 vs1 ∧ tt1 σ3 H5 fun b H6 =>
      if b = true then te σ3 H6 fun y H7 => ∃ acc, H7 D = some (.lst acc) ∧ acc.length < sizeLine ∧ Pv (j + 1) (upd H7 D (.lst (acc ++ [y]))) else Pv (j + 1) H6) (hd : ∀ H, Pv n H → N H) :
    ∃ W1 : Nat → Nat → Hp → Prop, (∃ m, W1 0 m H4) ∧ ∀ j k H, W1 j k H →
      (J.stop j H ∧ N H) ∨ (J.go j H ∧ ∃ Nx1 : Hp → Prop, (∀ H', Nx1 H' → ∃ k', k' < k ∧ W1 (j + 1) k' H') ∧ ∀ x H', J.yld j H x H' → g1 x (wipe σ2 vs1) H' fun σ3 H5 => wipe σ3 vs1 = wipe σ2 vs1 ∧ tt1 σ3 H5 fun b H6 =>
        if b = true then te σ3 H6 fun y H7 => ∃ acc, H7 D = some (.lst acc) ∧ acc.length < sizeLine ∧ Nx1 (upd H7 D (.lst (acc ++ [y]))) else Nx1 H6) := by
  refine ⟨fun i m H => m = n - i ∧ i ≤ n ∧ Pv i H, ⟨n, by simp, Nat.zero_le _, h0⟩, ?_⟩
  rintro i m H ⟨rfl, hi, p⟩
  have q := hG i H hi p
  by_cases hlt : i < n
  · exact .inr ⟨w.goes i H hlt q, Pv (i + 1), fun H' p' => ⟨n - (i + 1), by omega, rfl, hlt, p'⟩, fun x H' y => hs i x H H' hlt p (w.yields i H x H' hlt q y)⟩
  · have e : i = n := by omega
    subst e
    exact .inl ⟨w.stops H q, hd H p⟩
end
end RR

namespace RR
open PySem PySem.Spec PyProof.Rows L2
/-! values of polynomials -/
def prd (v : Str → Int) : Mono → Int
  | [] => 1
  | x :: m => v x * prd v m
def sumv (v : Str → Int) : Poly → Int
  | [] => 0
  | t :: p => t.2 * prd v t.1 + sumv v p
theorem prd_perm (v : Str → Int) {m n : Mono} (h : m.Perm n) : prd v m = prd v n := by
  induction h with
  | nil => rfl
  | cons x _ ih => simp only [prd, ih]
  | swap x y l => simp only [prd]; exact Int.mul_left_comm ..
  | trans _ _ a b => exact a.trans b
theorem prd_append (v : Str → Int) (m n : Mono) : prd v (m ++ n) = prd v m * prd v n := by
  induction m with
  | nil => simp [prd]
  | cons x m ih => simp only [List.cons_append, prd, ih, Int.mul_assoc]
theorem prd_mrg (v : Str → Int) (m n : Mono) : prd v (mrg m n) = prd v m * prd v n := by rw [← prd_append]; exact prd_perm v (srt_perm _)
theorem ev1_eq (v : Str → Int) (t : Mono × Int) : ev1 v t = t.2 * prd v t.1 := by
  obtain ⟨m, c⟩ := t
  unfold ev1
  show m.foldl _ c = c * prd v m
  induction m generalizing c with
  | nil => simp [prd]
  | cons x m ih => rw [List.foldl_cons, ih, prd, Int.mul_assoc]
theorem sumv_append (v : Str → Int) (p r : Poly) : sumv v (p ++ r) = sumv v p + sumv v r := by
  induction p with
  | nil => simp [sumv]
  | cons t p ih => simp only [List.cons_append, sumv, ih, Int.add_assoc]
theorem evp_eq (v : Str → Int) (p : Poly) : evp v p = sumv v p := by
  have : ∀ (p : Poly) (z : Int), p.foldl (fun z t => z + ev1 v t) z = z + sumv v p := by
    intro p
    induction p with
    | nil => intro z; simp [sumv]
    | cons t p ih => intro z; rw [List.foldl_cons, ih, ev1_eq, sumv, Int.add_assoc]
  unfold evp
  rw [this]
  omega
theorem sumv_nz (v : Str → Int) (p : Poly) : sumv v (nz p) = sumv v p := by
  induction p with
  | nil => rfl
  | cons t p ih =>
    unfold nz at ih ⊢
    by_cases h : t.2 = 0
    · rw [List.filter_cons_of_neg (by simp [h]), ih, sumv, h, Int.zero_mul, Int.zero_add]
    · rw [List.filter_cons_of_pos (by simp [h]), sumv, sumv, ih]
theorem cf_cons (t : Mono × Int) (p : Poly) (m : Mono) : cf (t :: p) m = if t.1 = m then t.2 else cf p m := by
  unfold cf getP
  rw [List.find?_cons]
  by_cases h : t.1 = m <;> simp [h]
theorem putP_cons (t : Mono × Int) (p : Poly) (kn : KN (t :: p)) (m : Mono) (c : Int) : putP (t :: p) m c = if t.1 = m then (m, c) :: p else t :: putP p m c := by
  unfold KN at kn
  rw [List.map_cons, List.nodup_cons] at kn
  by_cases h : t.1 = m
  · rw [if_pos h]
    unfold putP
    rw [if_pos (by simp [h])]
    rw [List.map_cons, if_pos h, h]
    congr 1
    rw [List.map_congr_left (g := id)]
    · simp
    · intro s hs
      rw [if_neg (fun e => kn.1 (by rw [h, ← e]; exact List.mem_map.mpr ⟨s, hs, rfl⟩))]
      rfl
  · rw [if_neg h]
    unfold putP
    rw [List.any_cons, decide_eq_false h, Bool.false_or]
    split
    · rw [List.map_cons, if_neg h]
    · rfl
theorem sumv_add (v : Str → Int) : ∀ (p : Poly), KN p → ∀ t : Mono × Int, sumv v (addP p t) = sumv v p + t.2 * prd v t.1
  | [], _, t => by simp [addP, putP, cf, getP, sumv]
  | s :: p, kn, t => by
    have ih := sumv_add v p (by unfold KN at kn ⊢; rw [List.map_cons, List.nodup_cons] at kn; exact kn.2) t
    unfold addP at ih ⊢
    rw [putP_cons _ _ kn, cf_cons]
    by_cases h : s.1 = t.1
    · rw [if_pos h, if_pos h, sumv, sumv, h]
      simp only []
      rw [Int.add_mul]
      omega
    · rw [if_neg h, if_neg h, sumv, sumv, ih]
      omega
theorem sumv_sums (v : Str → Int) (ts : Poly) : sumv v (sums ts) = sumv v ts := by
  have : ∀ (ts p : Poly), KN p → sumv v (ts.foldl addP p) = sumv v p + sumv v ts := by
    intro ts
    induction ts with
    | nil => intro p _; simp [sumv]
    | cons t ts ih =>
      intro p kn
      rw [List.foldl_cons, ih (addP p t) (putP_kn kn _ _), sumv_add v p kn, sumv, Int.add_assoc]
  have := this ts [] List.nodup_nil
  unfold sums
  rw [this]
  simp [sumv]
theorem sumv_coll (v : Str → Int) (ts : Poly) : sumv v (coll ts) = sumv v ts := by unfold coll; rw [sumv_nz, sumv_sums]
theorem sumv_plus (v : Str → Int) (p r : Poly) : sumv v (plusP p r) = sumv v p + sumv v r := by unfold plusP; rw [sumv_coll, sumv_append]
theorem sumv_scl (v : Str → Int) (p : Poly) (n : Int) : sumv v (sclP p n) = sumv v p * n := by
  unfold sclP
  rw [sumv_nz]
  induction p with
  | nil => simp [sumv]
  | cons t p ih => rw [List.map_cons, sumv, sumv, ih, Int.add_mul]; congr 1; exact Int.mul_right_comm ..
theorem sumv_min (v : Str → Int) (p r : Poly) : sumv v (minP p r) = sumv v p - sumv v r := by unfold minP; rw [sumv_plus, sumv_scl]; omega
theorem sumv_con (v : Str → Int) (n : Int) : sumv v (conP n) = n := by unfold conP; rw [sumv_nz]; simp [sumv, prd]
theorem sumv_var (v : Str → Int) (x : Str) : sumv v (varP x) = v x := by simp [varP, sumv, prd]
theorem sumv_mul (v : Str → Int) (p r : Poly) : sumv v (mulP p r) = sumv v p * sumv v r := by
  unfold mulP
  rw [sumv_coll]
  induction p with
  | nil => simp [prods, sumv]
  | cons s p ih =>
    have e : prods (s :: p) r = (r.map fun t => (mrg s.1 t.1, s.2 * t.2)) ++ prods p r := by simp [prods]
    rw [e, sumv_append, ih, sumv, Int.add_mul]
    congr 1
    clear ih e
    induction r with
    | nil => simp [sumv]
    | cons t r ih =>
      rw [List.map_cons, sumv, sumv, ih, prd_mrg, Int.mul_add]
      congr 1
      grind
/-! how large they are -/
structure Bd (N L M : Nat) (p : Poly) : Prop where
  kn : KN p
  len : p.length ≤ N
  deg : ∀ t ∈ p, t.1.length ≤ L
  cof : ∀ t ∈ p, t.2.natAbs ≤ M
theorem Bd.mono {N L M N' L' M' : Nat} {p : Poly} (h : Bd N L M p) (a : N ≤ N') (b : L ≤ L') (c : M ≤ M') : Bd N' L' M' p := ⟨h.kn, Nat.le_trans h.len a, fun t ht => Nat.le_trans (h.deg t ht) b, fun t ht => Nat.le_trans (h.cof t ht) c⟩
theorem Bd.sm {N L M B : Nat} {p : Poly} (h : Bd N L M p) (hB : M < 2 ^ B) : ∀ t ∈ p, Sm B t.2 := fun t ht => Nat.lt_of_le_of_lt (h.cof t ht) hB
theorem nz_sub {p : Poly} {t : Mono × Int} (h : t ∈ nz p) : t ∈ p := (List.mem_filter.mp h).1
theorem Bd.con (n : Int) : Bd 1 0 n.natAbs (conP n) := by
  refine ⟨con_kn n, nz_len _, fun t ht => ?_, fun t ht => ?_⟩
  all_goals
    have := nz_sub ht
    rw [List.mem_singleton] at this
    subst this
    exact Nat.le_refl _
theorem Bd.var (x : Str) : Bd 1 1 1 (varP x) := by
  refine ⟨var_kn x, Nat.le_refl _, fun t ht => ?_, fun t ht => ?_⟩
  all_goals
    unfold varP at ht
    rw [List.mem_singleton] at ht
    subst ht
    exact Nat.le_refl _
theorem Bd.scl {N L M : Nat} {p : Poly} (h : Bd N L M p) (n : Int) : Bd N L (M * n.natAbs) (sclP p n) := by
  refine ⟨scl_kn h.kn n, Nat.le_trans (scl_len p n) h.len, fun t ht => ?_, fun t ht => ?_⟩
  all_goals
    obtain ⟨s, hs, rfl⟩ := List.mem_map.mp (nz_sub ht)
  · exact h.deg s hs
  · show (s.2 * n).natAbs ≤ _
    rw [Int.natAbs_mul]
    exact Nat.mul_le_mul_right _ (h.cof s hs)
theorem mem_put {p : Poly} {m : Mono} {c : Int} {t : Mono × Int} (h : t ∈ putP p m c) : t = (m, c) ∨ t ∈ p := by
  unfold putP at h
  split at h
  · obtain ⟨s, hs, e⟩ := List.mem_map.mp h
    by_cases z : s.1 = m
    · rw [if_pos z, z] at e
      exact .inl e.symm
    · rw [if_neg z] at e
      exact .inr (e ▸ hs)
  · rcases List.mem_append.mp h with h | h
    · exact .inr h
    · exact .inl (List.mem_singleton.mp h)
theorem cf_le {p : Poly} {K : Nat} (h : ∀ t ∈ p, t.2.natAbs ≤ K) (m : Mono) : (cf p m).natAbs ≤ K := by
  unfold cf getP
  cases e : p.find? fun t => decide (t.1 = m) with
  | none => exact Nat.zero_le _
  | some t => exact h t (List.mem_of_find?_eq_some e)
theorem sums_bd {L M : Nat} : ∀ (ts p : Poly) (K : Nat), (∀ t ∈ ts, t.1.length ≤ L ∧ t.2.natAbs ≤ M) → (∀ t ∈ p, t.1.length ≤ L ∧ t.2.natAbs ≤ K) → ∀ t ∈ ts.foldl addP p, t.1.length ≤ L ∧ t.2.natAbs ≤ K + ts.length * M
  | [], p, K, _, hp, t, ht => by
    have := hp t ht
    simp
    exact this
  | s :: ts, p, K, hs, hp, t, ht => by
    have hs1 := hs s (List.mem_cons_self ..)
    have := sums_bd ts (addP p s) (K + M) (fun t ht => hs t (List.mem_cons_of_mem _ ht)) (fun t ht => ?_) t ht
    · rw [List.length_cons, Nat.succ_mul]
      omega
    · rcases mem_put ht with rfl | ht
      · refine ⟨hs1.1, ?_⟩
        have := cf_le (fun t ht => (hp t ht).2) s.1
        show (cf p s.1 + s.2).natAbs ≤ _
        omega
      · have := hp t ht
        omega
theorem Bd.coll {N L M : Nat} {ts : Poly} (h1 : ts.length ≤ N) (h2 : ∀ t ∈ ts, t.1.length ≤ L ∧ t.2.natAbs ≤ M) : Bd N L (N * M) (coll ts) := by
  have b := sums_bd ts [] 0 h2 (fun t ht => (List.not_mem_nil ht).elim)
  refine ⟨coll_kn ts, Nat.le_trans (nz_len _) (Nat.le_trans (sums_len ts) h1), fun t ht => (b t (nz_sub ht)).1, fun t ht => ?_⟩
  have := (b t (nz_sub ht)).2
  have := Nat.mul_le_mul_right M h1
  omega
theorem Bd.plus {N N' L M : Nat} {p r : Poly} (h : Bd N L M p) (g : Bd N' L M r) : Bd (N + N') L ((N + N') * M) (plusP p r) := by
  refine Bd.coll ?_ fun t ht => ?_
  · rw [List.length_append]
    exact Nat.add_le_add h.len g.len
  · rcases List.mem_append.mp ht with ht | ht
    · exact ⟨h.deg t ht, h.cof t ht⟩
    · exact ⟨g.deg t ht, g.cof t ht⟩
theorem Bd.min {N N' L M : Nat} {p r : Poly} (h : Bd N L M p) (g : Bd N' L M r) : Bd (N + N') L ((N + N') * M) (minP p r) := by
  have := g.scl (-1)
  rw [show (-1 : Int).natAbs = 1 from rfl, Nat.mul_one] at this
  exact h.plus this
theorem Bd.mul {N N' L L' M M' : Nat} {p r : Poly} (h : Bd N L M p) (g : Bd N' L' M' r) : Bd (N * N') (L + L') (N * N' * (M * M')) (mulP p r) := by
  refine Bd.coll ?_ fun t ht => ?_
  · rw [prods_len]
    exact Nat.mul_le_mul h.len g.len
  · unfold prods at ht
    obtain ⟨s, hs, ht⟩ := List.mem_flatMap.mp ht
    obtain ⟨u, hu, rfl⟩ := List.mem_map.mp ht
    refine ⟨?_, ?_⟩
    · show (srt (s.1 ++ u.1)).length ≤ _
      rw [srt_len, List.length_append]
      exact Nat.add_le_add (h.deg s hs) (g.deg u hu)
    · show (s.2 * u.2).natAbs ≤ _
      rw [Int.natAbs_mul]
      exact Nat.mul_le_mul (h.cof s hs) (g.cof u hu)
end RR
namespace RR
open PySem PySem.Spec PyProof.Rows L2
/-! a module's own tuple -/
def TupO (o : Obj) (xs : List V) : Prop := o.cls = .type "tuple" ∧ ∃ (its : Array Value) (n : Nat), o.data = .seq its n ∧ its.size ≤ sizeLine ∧ Vals xs its.toList
theorem TupO.by_ {o : Obj} {xs : List V} {its : Array Value} {n : Nat} (h1 : o.cls = .type "tuple") (h2 : o.data = .seq its n) (h3 : its.size ≤ sizeLine) (h4 : Vals xs its.toList) : TupO o xs := ⟨h1, its, n, h2, h3, h4⟩
def TupK (K : PySem.W.Frag) (a : Addr) (xs : List V) : Prop := ∃ o, K.lookup a = some o ∧ TupO o xs
theorem TupK.of {K : PySem.W.Frag} {a : Addr} {o : Obj} {xs : List V} (h : K.lookup a = some o) (g : TupO o xs) : TupK K a xs := ⟨o, h, g⟩
theorem TupK.sq {K : PySem.W.Frag} {a : Addr} {xs : List V} (h : TupK K a xs) (H : Hp) : SqT K H a xs := by
  obtain ⟨o, h1, h2, its, n, h3, h4, h5⟩ := h
  exact .inr ⟨o, its, n, h1, h2, h3, h4, h5⟩
end RR
namespace RR
open PySem PySem.Spec PyProof.Rows L2
/-- at d the relation that a polynomial is 0 -/
def ZR (H : Hp) (d : Addr) (p : Poly) : Prop := ∃ z, H d = some (.tup [.str (PySem.Str.ofString "zero"), .ref z]) ∧ PD H z p
theorem ZR.keep {H H' : Hp} {d : Addr} {p : Poly} (h : ZR H d p) (s : Same H H') : ZR H' d p := let ⟨z, a, b⟩ := h; ⟨z, s _ _ a, s _ _ b⟩
theorem PD.keep {H H' : Hp} {d : Addr} {p : Poly} (h : PD H d p) (s : Same H H') : PD H' d p := s _ _ h
def oneP (x y a : Poly) : Poly := minP (minP (mulP x x) (mulP (minP (mulP a a) (conP 1)) (mulP y y))) (conP 1)
/-- a polynomial of moderate size -/
abbrev Md (p : Poly) : Prop := Bd 8 8 (2 ^ 100) p
theorem Md.of {N L M : Nat} {p : Poly} (h : Bd N L M p) (a : N ≤ 8) (b : L ≤ 8) (c : M ≤ 2 ^ 100) : Md p := h.mono a b c
theorem Bd.deg2 {N L M N' L' M' : Nat} {p r : Poly} (h : Bd N L M p) (g : Bd N' L' M' r) (k : L + L' < 64) : ∀ s ∈ p, ∀ t ∈ r, s.1.length + t.1.length < 64 := fun s hs t ht => by
  have a := h.deg s hs
  have b := g.deg t ht
  omega
theorem Bd.mulLen {N L M N' L' M' : Nat} {p r : Poly} (h : Bd N L M p) (g : Bd N' L' M' r) (k : N * N' ≤ 100000) : p.length * r.length ≤ 100000 := Nat.le_trans (Nat.mul_le_mul h.len g.len) k
theorem Bd.addLen {N L M N' L' M' : Nat} {p r : Poly} (h : Bd N L M p) (g : Bd N' L' M' r) (k : N + N' ≤ 100000) : p.length + r.length ≤ 100000 := Nat.le_trans (Nat.add_le_add h.len g.len) k
theorem Md.one : Md (conP 1) := (Bd.con 1).mono (by decide) (by decide) (by decide +kernel)
end RR
namespace RR
open PySem PySem.Spec PyProof.Rows L2
abbrev Sd (p : Poly) : Prop := Bd 8 8 (2 ^ 90) p
theorem Sd.md {p : Poly} (h : Sd p) : Md p := h.mono (by decide) (by decide) (by decide +kernel)
def nms : List Str := ["x", "y", "u", "v", "s", "t", "b", "r", "p", "q", "c", "d", "e"]
def eqsP (k a : Poly) (P : Str → Poly) : List Poly :=
  [oneP (P "x") (P "y") a, oneP (P "u") (P "v") a, oneP (P "s") (P "t") (P "b"), minP (P "v") (mulP (plusP (P "r") (conP 1)) (mulP (P "y") (P "y"))), minP (P "b") (plusP (conP 1) (mulP (P "p") (sclP (P "y") 4))),
    minP (P "b") (plusP a (mulP (P "q") (P "u"))), minP (P "s") (plusP (P "x") (mulP (P "c") (P "u"))), minP (P "t") (plusP k (mulP (P "d") (sclP (P "y") 4))), minP (P "y") (plusP k (P "e"))]
end RR
namespace RR
open PySem PySem.Spec PyProof.Rows L2
/-- what stands between two statements -/
theorem seq_cut {t u : TS} {D : Ends} {σ : L2.St} {H : Hp} (R : L2.St → Hp → Prop) (h2 : ∀ σ' H', R σ' H' → u D σ' H') (h1 : ∀ nx : L2.St → Hp → Prop, (∀ σ' H', R σ' H' → nx σ' H') → t { D with nx := nx } σ H) : tSeq t u D σ H := h1 (u D) h2
end RR
namespace RR
open PySem PySem.Spec PyProof.Rows L2
theorem dvi (a b : Int) : decide (V.int a = V.int b) = decide (a = b) := decide_eq_decide.mpr ⟨fun h => by injection h, fun h => by rw [h]⟩
theorem dvb (a b : Bool) : decide (V.bl a = V.bl b) = decide (a = b) := decide_eq_decide.mpr ⟨fun h => by injection h, fun h => by rw [h]⟩
end RR

namespace RR
open PySem PySem.Spec PyProof.Rows L2
section
variable {X : Cx}
/-- name = {k: v for ..}, the keys ints or texts -/
theorem ps_setDc {i : Nat} {y : Str} {py : Pos} {kx vx tg iter : Expr} {ifs : List Expr} {scope : Scope} {own : List (Str × Nat)} {pos spos : Pos} {wi : TI} {g : TG} {tt : TT} {tk tv : TE} (hc : X.calm = true) (hN : X.N.Nodup) (hy : X.N[i]? = some y) (hyl : X.env.scope.names.lookup y = some .local)
    (hsw : swapsWith (.DictComp kx vx [⟨tg, iter, ifs, 0⟩] scope pos) (some (.Name y py)) spos.line X.env = pure true) (hi : PI X tg iter wi) (ok : BlkOk X.N X.env.scope scope own)
    (hg : ∀ (s : Shared) (H : Hp) (C : Addr) (cl : List (Str × Addr)) (fp : List Addr), PG (X.blk s H scope (compEnvC scope cl C X.env) fp) tg g)
    (ht : ∀ (s : Shared) (H : Hp) (C : Addr) (cl : List (Str × Addr)) (fp : List Addr), PTs (X.blk s H scope (compEnvC scope cl C X.env) fp) ifs tt)
    (hk : ∀ (s : Shared) (H : Hp) (C : Addr) (cl : List (Str × Addr)) (fp : List Addr), PE (X.blk s H scope (compEnvC scope cl C X.env) fp) kx tk)
    (hv : ∀ (s : Shared) (H : Hp) (C : Addr) (cl : List (Str × Addr)) (fp : List Addr), PE (X.blk s H scope (compEnvC scope cl C X.env) fp) vx tv)
    (hs : ∀ x, foldedSetIterable iter X.env x = pure x := by intro _; rfl) :
    PS X (.Assign [.Name y py] (.DictComp kx vx [⟨tg, iter, ifs, 0⟩] scope pos) spos) (tAsg (tDc wi g tt tk tv (own.map (·.2))) (gName i)) := by
  constructor
  intro pins s σ H D I reading
  rw [exec_Assign_Name_used _ _ _ _ hsw]
  refine wpAny_bind (wpAny_standAt (wpAny_bind ?_))
  have reading : tDc wi g tt tk tv (own.map (·.2)) σ H (fun x H1 => gName i x σ H1 D.nx) := reading
  show wpAny _ X.A (do let _ ← comprehension (.DictComp kx vx [⟨tg, iter, ifs, 0⟩] scope pos) scope X.env (firstIterPos [⟨tg, iter, ifs, 0⟩] pos) newDict false (eval iter X.env) (some (assign (.Name y py) X.env))) _ _ s
  refine wpAny_bind (thn (dc_core (Qf := fun _ s' => SP X pins D .next s') hc hN I hi ok hg ht hk hv hs reading ?_) fun _ s' q => wpAny_pure (wpAny_pure q))
  intro L C s' m H' I' q names ⟨f0, f1, f2, f3, f4, f5⟩
  show wpAny _ _ (assign (.Name y py) X.env (.ref L)) _ _ _
  refine wpAny_assign_Name (store_ok2 (v := V.ref L) I' hN hy (.inl hyl) rfl (fun s2 I2 ⟨a, but, ha⟩ => ?_) (.inr hyl))
  have apart : C ≠ a := by
    rcases ha with z | z
    · rw [z]
      exact f1
    · exact fun e => f4 y a z e.symm
  exact ⟨m, names.sameBut but apart, fun h3 but3 => ⟨_, H', I2.turned (t' := s2.toks) (fun b o hb e => (but3.2 b hb).trans e) f0 f1 f3 f4 f5, q⟩⟩
theorem sw_dict {kx vx : Expr} {gs : List Comprehension} {scope : Scope} {pos py : Pos} {y : Str} {l : Nat} {env : Env} (hk : env.scope.kind = .function) (hy : env.scope.names.lookup y = some .local) (hl : (py.line == pos.line) = true)
    (ha : (scope.names.any fun (n, k) => n == y && (k == .local || k == .cell)) = false) : swapsWith (.DictComp kx vx gs scope pos) (some (.Name y py)) l env = pure true := by
  have a : env.kindOf y = some .local := hy
  have b : env.blockKind = .function := by
    unfold Env.blockKind
    rw [hk]
    rfl
  unfold swapsWith
  simp only [b, a, ha, Expr.pos, hl]
  rfl
/-- over a walk -/
theorem dc_it {J : It} {n : Nat} {G : Hp → Prop} {Y : Nat → Hp → V → Hp → Prop} (w : Walk J n G Y) {g : TG} {tt : TT} {tk tv : TE} {vs : List Nat} {σ : L2.St} {H1 : Hp} {D : Addr} {Qd : Hp → Prop} (Pv : Nat → Hp → Prop) (h0 : Pv 0 (upd H1 D (.dK []))) (hG : ∀ i H, i ≤ n → Pv i H → G H)
    (hs : ∀ i x H H', i < n → Pv i H → Y i H x H' → g x (wipe σ vs) H' fun σ2 H2 => wipe σ2 vs = wipe σ vs ∧ tt σ2 H2 fun b H3 =>
      if b = true then tk σ2 H3 fun y H4 => tv σ2 H4 fun z H5 => ∃ ks k, y = kV k ∧ H5 D = some (.dK ks) ∧ ks.length < sizeLine ∧ Pv (i + 1) (upd H5 D (.dK (putK ks k z))) else Pv (i + 1) H3) (hd : ∀ H, Pv n H → Qd H) :
    ∃ W : Nat → Nat → Hp → Prop, (∃ m, W 0 m (upd H1 D (.dK []))) ∧ ∀ i m H, W i m H →
      (J.stop i H ∧ Qd H) ∨ (J.go i H ∧ ∃ Nx : Hp → Prop, (∀ H', Nx H' → ∃ m', m' < m ∧ W (i + 1) m' H') ∧ ∀ x H', J.yld i H x H' → g x (wipe σ vs) H' fun σ2 H2 => wipe σ2 vs = wipe σ vs ∧ tt σ2 H2 fun b H3 =>
        if b = true then tk σ2 H3 fun y H4 => tv σ2 H4 fun z H5 => ∃ ks k, y = kV k ∧ H5 D = some (.dK ks) ∧ ks.length < sizeLine ∧ Nx (upd H5 D (.dK (putK ks k z))) else Nx H3) := by
  refine ⟨fun i m H => m = n - i ∧ i ≤ n ∧ Pv i H, ⟨n, by simp, Nat.zero_le _, h0⟩, ?_⟩
  rintro i m H ⟨rfl, le, p⟩
  have gd := hG i H le p
  by_cases lt : i < n
  · exact .inr ⟨w.goes i H lt gd, Pv (i + 1), fun H' p' => ⟨n - (i + 1), by omega, rfl, lt, p'⟩, fun x H' y => hs i x H H' lt p (w.yields i H x H' lt gd y)⟩
  · obtain rfl : i = n := by omega
    exact .inl ⟨w.stops H gd, hd H p⟩
end
end RR
namespace RR
open PySem PySem.Spec PyProof.Rows L2
/-- dict(d), d a dict with keys ints and texts: a copy -/
theorem call_dictK {X : Cx} : CallR X (.type "dict") (fun xs H Q => ∃ (a : Addr) (ks : List (L2.Key × V)), xs = [.ref a] ∧ Rd H a (.dK ks) ∧ ∀ p, H p = none → Q (.ref p) (upd H p (.dK ks))) := by
  intro pins s σ H vs us Q I r h
  obtain ⟨a, ks, rfl, hd, q⟩ := h
  rw [Vals.ref1 r]
  exact d_copyOf I hd fun p s' np I' => ⟨.ref p, _, I', rfl, q p np⟩
end RR

namespace RR
open PySem PySem.Spec PyProof.Rows L2
/-! which names stand in a polynomial -/
def NmP (S : List Str) (p : Poly) : Prop := ∀ t ∈ p, ∀ x ∈ t.1, x ∈ S
theorem NmP.nz {S : List Str} {p : Poly} (h : NmP S p) : NmP S (nz p) := fun t ht => h t (nz_sub ht)
theorem NmP.app {S : List Str} {p r : Poly} (h : NmP S p) (g : NmP S r) : NmP S (p ++ r) := fun t ht => by
  rcases List.mem_append.mp ht with z | z
  · exact h t z
  · exact g t z
theorem NmP.sums {S : List Str} {ts : Poly} (h : NmP S ts) : NmP S (sums ts) := by
  have : ∀ (ts p : Poly), NmP S ts → NmP S p → NmP S (ts.foldl addP p) := by
    intro ts
    induction ts with
    | nil => exact fun p _ h => h
    | cons s ts ih =>
      intro p hs hp
      refine ih _ (fun t ht => hs t (List.mem_cons_of_mem _ ht)) fun t ht => ?_
      rcases mem_put ht with rfl | z
      · exact hs s (List.mem_cons_self ..)
      · exact hp t z
  exact this ts [] h fun t ht => (List.not_mem_nil ht).elim
theorem NmP.coll {S : List Str} {ts : Poly} (h : NmP S ts) : NmP S (coll ts) := h.sums.nz
theorem NmP.plus {S : List Str} {p r : Poly} (h : NmP S p) (g : NmP S r) : NmP S (plusP p r) := (h.app g).coll
theorem NmP.scl {S : List Str} {p : Poly} (h : NmP S p) (n : Int) : NmP S (sclP p n) := NmP.nz fun t ht => by
  obtain ⟨s, hs, rfl⟩ := List.mem_map.mp ht
  exact h s hs
theorem NmP.min {S : List Str} {p r : Poly} (h : NmP S p) (g : NmP S r) : NmP S (minP p r) := h.plus (g.scl _)
theorem NmP.con (S : List Str) (n : Int) : NmP S (conP n) := NmP.nz fun t ht => by
  rw [List.mem_singleton] at ht
  subst ht
  exact fun x hx => (List.not_mem_nil hx).elim
theorem NmP.var {S : List Str} {x : Str} (h : x ∈ S) : NmP S (varP x) := fun t ht y hy => by
  unfold varP at ht
  rw [List.mem_singleton] at ht
  subst ht
  rw [List.mem_singleton] at hy
  subst hy
  exact h
theorem NmP.mul {S : List Str} {p r : Poly} (h : NmP S p) (g : NmP S r) : NmP S (mulP p r) := NmP.coll fun t ht x hx => by
  unfold prods at ht
  obtain ⟨s, hs, ht⟩ := List.mem_flatMap.mp ht
  obtain ⟨u, hu, rfl⟩ := List.mem_map.mp ht
  rcases List.mem_append.mp ((srt_perm _).mem_iff.mp hx) with z | z
  · exact h s hs x z
  · exact g u hu x z
/-- small enough for its value to be worked out -/
structure Wk (S : List Str) (p : Poly) : Prop where
  nm : NmP S p
  bd : ∃ N L M, Bd N L M p ∧ L ≤ 100 ∧ M < 2 ^ 1000
theorem Wk.use {S : List Str} {p : Poly} (h : Wk S p) : ∀ t ∈ p, Sm 100000 t.2 ∧ t.1.length ≤ 100 ∧ ∀ x ∈ t.1, x ∈ S := by
  obtain ⟨nm, N, L, M, b, hL, hM⟩ := h
  exact fun t ht => ⟨(b.sm hM t ht).mono (by decide), Nat.le_trans (b.deg t ht) hL, nm t ht⟩
theorem oneP_wk {S : List Str} {x y a : Poly} (nx : NmP S x) (ny : NmP S y) (na : NmP S a) (bx : Md x) (by_ : Md y) (ba : Md a) : Wk S (oneP x y a) := by
  have b1 : Bd 1 0 1 (conP 1) := Bd.con 1
  have b3 := (ba.mul ba).min (b1.mono (Nat.le_refl _) (Nat.zero_le _) (show 1 ≤ 8 * 8 * (2 ^ 100 * 2 ^ 100) by decide +kernel))
  have b5 := b3.mul (by_.mul by_)
  have b6 := ((bx.mul bx).mono (Nat.le_refl _) (show 8 + 8 ≤ 8 + 8 + (8 + 8) by decide) (show 8 * 8 * (2 ^ 100 * 2 ^ 100) ≤ (8 * 8 + 1) * (8 * 8) * ((8 * 8 + 1) * (8 * 8 * (2 ^ 100 * 2 ^ 100)) * (8 * 8 * (2 ^ 100 * 2 ^ 100))) by decide +kernel)).min b5
  have b7 := b6.min (b1.mono (Nat.le_refl _) (Nat.zero_le _) (show 1 ≤ (8 * 8 + (8 * 8 + 1) * (8 * 8)) * ((8 * 8 + 1) * (8 * 8) * ((8 * 8 + 1) * (8 * 8 * (2 ^ 100 * 2 ^ 100)) * (8 * 8 * (2 ^ 100 * 2 ^ 100)))) by decide +kernel))
  exact ⟨((nx.mul nx).min (((na.mul na).min (NmP.con S 1)).mul (ny.mul ny))).min (NmP.con S 1), _, _, _, b7, by decide, by decide +kernel⟩
/-- a difference of products of two small ones -/
theorem lin_wk {S : List Str} {l p : Poly} {N L M : Nat} (nl : NmP S l) (np : NmP S p) (bl : Md l) (bp : Bd N L M p) (hN : N ≤ 1000) (hL : L ≤ 50) (hM : M ≤ 2 ^ 500) : Wk S (minP l p) := by
  have b := (bl.mono (Nat.le_refl _) (show 8 ≤ 50 by decide) (show 2 ^ 100 ≤ 2 ^ 500 by decide +kernel)).min (bp.mono hN hL hM)
  exact ⟨nl.min np, _, _, _, b, by decide, by decide +kernel⟩
theorem eqsP_wk {S : List Str} {k a : Poly} {P : Str → Poly} (nk : NmP S k) (na : NmP S a) (bk : Sd k) (ba : Sd a) (h : ∀ n ∈ nms, NmP S (P n) ∧ Sd (P n)) : ∀ p ∈ eqsP k a P, Wk S p := by
  have b1 : Bd 1 0 1 (conP 1) := Bd.con 1
  have hx := h "x" (by decide +kernel)
  have hy := h "y" (by decide +kernel)
  have hu := h "u" (by decide +kernel)
  have hv := h "v" (by decide +kernel)
  have hs := h "s" (by decide +kernel)
  have ht := h "t" (by decide +kernel)
  have hb := h "b" (by decide +kernel)
  have hr := h "r" (by decide +kernel)
  have hp := h "p" (by decide +kernel)
  have hq := h "q" (by decide +kernel)
  have hc := h "c" (by decide +kernel)
  have hd := h "d" (by decide +kernel)
  have he := h "e" (by decide +kernel)
  have b4 := hy.2.scl 4
  intro p hm
  unfold eqsP at hm
  simp only [List.mem_cons, List.not_mem_nil, or_false] at hm
  rcases hm with rfl | rfl | rfl | rfl | rfl | rfl | rfl | rfl | rfl
  · exact oneP_wk hx.1 hy.1 na hx.2.md hy.2.md ba.md
  · exact oneP_wk hu.1 hv.1 na hu.2.md hv.2.md ba.md
  · exact oneP_wk hs.1 ht.1 hb.1 hs.2.md ht.2.md hb.2.md
  · exact lin_wk hv.1 ((hr.1.plus (NmP.con S 1)).mul (hy.1.mul hy.1)) hv.2.md ((hr.2.plus (b1.mono (Nat.le_refl _) (Nat.zero_le _) (show 1 ≤ 2 ^ 90 by decide +kernel))).mul (hy.2.mul hy.2)) (by decide) (by decide) (by decide +kernel)
  · exact lin_wk hb.1 ((NmP.con S 1).plus (hp.1.mul (hy.1.scl 4))) hb.2.md ((b1.mono (Nat.le_refl _) (Nat.zero_le _) (show 1 ≤ 8 * 8 * (2 ^ 90 * (2 ^ 90 * (4 : Int).natAbs)) by decide +kernel)).plus (hp.2.mul b4)) (by decide) (by decide) (by decide +kernel)
  · exact lin_wk hb.1 (na.plus (hq.1.mul hu.1)) hb.2.md ((ba.mono (Nat.le_refl _) (show 8 ≤ 8 + 8 by decide) (show 2 ^ 90 ≤ 8 * 8 * (2 ^ 90 * 2 ^ 90) by decide +kernel)).plus (hq.2.mul hu.2)) (by decide) (by decide) (by decide +kernel)
  · exact lin_wk hs.1 (hx.1.plus (hc.1.mul hu.1)) hs.2.md ((hx.2.mono (Nat.le_refl _) (show 8 ≤ 8 + 8 by decide) (show 2 ^ 90 ≤ 8 * 8 * (2 ^ 90 * 2 ^ 90) by decide +kernel)).plus (hc.2.mul hu.2)) (by decide) (by decide) (by decide +kernel)
  · exact lin_wk ht.1 (nk.plus (hd.1.mul (hy.1.scl 4))) ht.2.md ((bk.mono (Nat.le_refl _) (show 8 ≤ 8 + 8 by decide) (show 2 ^ 90 ≤ 8 * 8 * (2 ^ 90 * (2 ^ 90 * (4 : Int).natAbs)) by decide +kernel)).plus (hd.2.mul b4)) (by decide) (by decide) (by decide +kernel)
  · exact lin_wk hy.1 (nk.plus he.1) hy.2.md (bk.plus he.2) (by decide) (by decide) (by decide +kernel)
theorem sd_con {n : Int} (h : Sm 80 n) : Sd (conP n) := (Bd.con n).mono (by decide) (by decide) (Nat.le_of_lt (Nat.lt_of_lt_of_le h (by decide +kernel)))
theorem sd_var (x : Str) : Sd (varP x) := (Bd.var x).mono (by decide) (by decide) (by decide +kernel)
/-- the equations, as equations between numbers -/
def eqI (k a : Int) (f : Str → Int) : Bool :=
  decide (f "x" * f "x" - (a * a - 1) * (f "y" * f "y") - 1 = 0) && (decide (f "u" * f "u" - (a * a - 1) * (f "v" * f "v") - 1 = 0) && (decide (f "s" * f "s" - (f "b" * f "b" - 1) * (f "t" * f "t") - 1 = 0) &&
  (decide (f "v" - (f "r" + 1) * (f "y" * f "y") = 0) && (decide (f "b" - (1 + f "p" * (f "y" * 4)) = 0) && (decide (f "b" - (a + f "q" * f "u") = 0) && (decide (f "s" - (f "x" + f "c" * f "u") = 0) &&
  (decide (f "t" - (k + f "d" * (f "y" * 4)) = 0) && decide (f "y" - (k + f "e") = 0))))))))
theorem eqsP_all (k a : Int) (f : Str → Int) : ((eqsP (conP k) (conP a) varP).all fun p => decide (evp f p = 0)) = eqI k a f := by
  unfold eqsP eqI oneP
  simp only [List.all_cons, List.all_nil, Bool.and_true, evp_eq, sumv_min, sumv_mul, sumv_plus, sumv_scl, sumv_con, sumv_var]
theorem eqsP_len (k a : Poly) (P : Str → Poly) : (eqsP k a P).length = 9 := rfl
/-! dicts with texts as keys -/
theorem putK_new {kz : List (L2.Key × V)} {k : L2.Key} (h : valV kz k = none) (v : V) : putK kz k v = kz ++ [(k, v)] := by
  unfold putK
  rw [if_neg]
  rw [valV_any, h]
  exact Bool.false_ne_true
theorem valV_snoc2 {kz : List (L2.Key × V)} {k j : L2.Key} (h : valV kz k = none) (v : V) : valV (kz ++ [(k, v)]) j = if j = k then some v else valV kz j := valV_snoc k j v kz h
end RR

namespace RR
open PySem PySem.Spec PyProof.Rows L2
/-! the numbers that force the index -/
structure W8 where
  x : Int
  y : Int
  u : Int
  v : Int
  b : Int
  r : Int
  p : Int
  q : Int
def nW (k : Nat) (a : Int) : Nat := 2 * k * (py a k).toNat
def qW (k : Nat) (a : Int) : Int := ((1 - a) * px a (nW k a)) % (4 * py a k)
def bW (k : Nat) (a : Int) : Int := a + qW k a * px a (nW k a)
def w8 (k : Nat) (a : Int) : W8 := ⟨px a k, py a k, px a (nW k a), py a (nW k a), bW k a, py a (nW k a) / (py a k * py a k) - 1, (bW k a - 1) / (4 * py a k), (bW k a - a) / px a (nW k a)⟩
def turnB (m u b : Int) : Int := if b % m = 1 then b else b + u
def iterB (m u : Int) : Nat → Int → Int
  | 0, b => b
  | n + 1, b => turnB m u (iterB m u n b)
def mod8 (st : Nat) (i : Nat) (a : Int) (w : W8) : W8 :=
  if st = 1 then
    let n := 4 * i * w.y.toNat
    let b := iterB (4 * w.y) (px a n) (4 * w.y).toNat a
    ⟨w.x, w.y, px a n, py a n, b, py a n / (w.y * w.y) - 1, (b - 1) / (4 * w.y), (b - a) / px a n⟩
  else if st = 2 then ⟨w.x, w.y, w.u, w.v, w.b + 4 * w.y * w.u, w.r, w.p + w.u, w.q + 4 * w.y⟩ else w
def eqV (k a x y u v s t b r p q c d e : Int) : Bool :=
  decide (x * x - (a * a - 1) * (y * y) - 1 = 0) && (decide (u * u - (a * a - 1) * (v * v) - 1 = 0) && (decide (s * s - (b * b - 1) * (t * t) - 1 = 0) &&
  (decide (v - (r + 1) * (y * y) = 0) && (decide (b - (1 + p * (y * 4)) = 0) && (decide (b - (a + q * u) = 0) && (decide (s - (x + c * u) = 0) &&
  (decide (t - (k + d * (y * 4)) = 0) && decide (y - (k + e) = 0))))))))
theorem eqI_V (k a : Int) (f : Str → Int) : eqI k a f = eqV k a (f "x") (f "y") (f "u") (f "v") (f "s") (f "t") (f "b") (f "r") (f "p") (f "q") (f "c") (f "d") (f "e") := rfl
/-- the law's try of another pair of b -/
def tr (k a : Int) (w : W8) (s t : Int) : Bool :=
  if s < w.x ∨ t < k ∨ w.y < k then false
  else decide (0 ≤ w.b) && (decide (0 ≤ w.r) && (decide (0 ≤ w.p) && (decide (0 ≤ w.q) && (decide (0 ≤ (s - w.x) / w.u) && eqV k a w.x w.y w.u w.v s t w.b w.r w.p w.q ((s - w.x) / w.u) ((t - k) / (4 * w.y)) (w.y - k)))))
def okJ (i a : Int) (w : W8) (j : Nat) (s t : Int) : Bool :=
  (tr i a w s t == (decide ((j : Int) = i) || (tr i a w s t && (decide (((j : Int) - i) % (4 * w.y) = 0) || decide (((j : Int) + i) % (4 * w.y) = 0))))) &&
  (List.range (w.y.toNat + 3)).all fun o => decide ((o : Int) = i) || (decide (o = 0) || !tr o a w s t)
def loopK (i a : Int) (w : W8) : Nat → Nat → Int → Int → Bool
  | 0, _, _, _ => true
  | f + 1, j, s, t => okJ i a w j s t && loopK i a w f (j + 1) (w.b * s + (w.b * w.b - 1) * t) (s + w.b * t)
def lastK (i : Nat) : Nat := [60, 24, 8].getD (i - 1) 0
def modK (i : Nat) : Nat := [4, 4, 2].getD (i - 1) 0
def chk43 : Bool := (List.range 3).all fun i => (List.range (modK (i + 1))).all fun m => (List.range 3).all fun st =>
  let w := mod8 st (i + 1) (m + 2) (w8 (i + 1) (m + 2))
  loopK (i + 1) (m + 2) w (lastK (i + 1)) 1 w.b 1 && tr (i + 1) (m + 2) w (px w.b (i + 1)) (py w.b (i + 1))
end RR
namespace RR
open PySem PySem.Spec PyProof.Rows L2
theorem chk43_ok : chk43 = true := by decide +kernel
theorem loopK_spec {i a : Int} {w : W8} : ∀ (f j : Nat), loopK i a w f j (px w.b j) (py w.b j) = true → ∀ k, j ≤ k → k < j + f → okJ i a w k (px w.b k) (py w.b k) = true
  | 0, j, _, k, h1, h2 => by omega
  | f + 1, j, h, k, h1, h2 => by
    unfold loopK at h
    rw [Bool.and_eq_true] at h
    by_cases e : k = j
    · subst e
      exact h.1
    · exact loopK_spec f (j + 1) (by rw [px1, py1]; exact h.2) k (by omega) (by omega)
theorem chk43_at {i m st : Nat} (hi : i < 3) (hm : m < modK (i + 1)) (hs : st < 3) : let w := mod8 st (i + 1) (m + 2) (w8 (i + 1) (m + 2))
    (∀ j, 1 ≤ j → j ≤ lastK (i + 1) → okJ (i + 1) (m + 2) w j (px w.b j) (py w.b j) = true) ∧ tr (i + 1) (m + 2) w (px w.b (i + 1)) (py w.b (i + 1)) = true := by
  have h := chk43_ok
  unfold chk43 at h
  have h1 := List.all_eq_true.mp h i (List.mem_range.mpr hi)
  have h2 := List.all_eq_true.mp h1 m (List.mem_range.mpr hm)
  have h3 := List.all_eq_true.mp h2 st (List.mem_range.mpr hs)
  rw [Bool.and_eq_true] at h3
  refine ⟨fun j j1 j2 => ?_, h3.2⟩
  refine loopK_spec (lastK (i + 1)) 1 ?_ j j1 (by omega)
  have e1 : px (mod8 st (i + 1) (m + 2) (w8 (i + 1) (m + 2))).b 1 = (mod8 st (i + 1) (m + 2) (w8 (i + 1) (m + 2))).b := by rw [px1, px0, py0]; omega
  have e2 : py (mod8 st (i + 1) (m + 2) (w8 (i + 1) (m + 2))).b 1 = 1 := by rw [py1, px0, py0]; omega
  rw [e1, e2]
  exact h3.1
/-! a dict of thirteen numbers -/
def kzOf (ns : List Str) (vs : List Int) : List (L2.Key × V) := ns.zipWith (fun n v => (Sum.inr n, V.int v)) vs
theorem valV_zip : ∀ {ns : List Str} {vs : List Int} {i : Nat} {n : Str} {v : Int}, ns.Nodup → ns[i]? = some n → vs[i]? = some v → valV (kzOf ns vs) (.inr n) = some (.int v)
  | [], _, _, _, _, _, h, _ => by simp at h
  | m :: ns, [], _, _, _, _, _, h => by simp at h
  | m :: ns, w :: vs, 0, n, v, _, h, g => by
    simp at h g
    subst h g
    exact valV_pos (p := (Sum.inr m, V.int w)) rfl
  | m :: ns, w :: vs, i + 1, n, v, nd, h, g => by
    rw [List.nodup_cons] at nd
    rw [List.getElem?_cons_succ] at h g
    have ne : m ≠ n := fun e => nd.1 (e ▸ List.mem_of_getElem? h)
    exact (valV_neg (p := (Sum.inr m, V.int w)) (fun e => ne (Sum.inr.inj e))).trans (valV_zip nd.2 h g)
theorem valV_none : ∀ {ns : List Str} {vs : List Int} {n : Str}, n ∉ ns → valV (kzOf ns vs) (.inr n) = none
  | [], _, _, _ => by unfold kzOf; rw [List.zipWith_nil_left]; rfl
  | _ :: _, [], _, _ => by unfold kzOf; rw [List.zipWith_nil_right]; rfl
  | m :: ns, w :: vs, n, h => by
    rw [List.mem_cons] at h
    exact (valV_neg (p := (Sum.inr m, V.int w)) (fun e => h (.inl (Sum.inr.inj e).symm))).trans (valV_none fun z => h (.inr z))
theorem map_put : ∀ {ns : List Str} {vs : List Int} {i : Nat} {n : Str} (z : Int), ns.Nodup → ns[i]? = some n → (kzOf ns vs).map (fun kv => if kv.1 = Sum.inr n then (kv.1, V.int z) else kv) = kzOf ns (vs.set i z)
  | [], _, _, _, _, _, h => by simp at h
  | m :: ns, [], _, _, _, _, _ => by simp [kzOf]
  | m :: ns, w :: vs, 0, n, z, nd, h => by
    simp at h
    subst h
    rw [List.nodup_cons] at nd
    unfold kzOf
    rw [List.set_cons_zero, List.zipWith_cons_cons, List.zipWith_cons_cons, List.map_cons, if_pos rfl]
    congr 1
    refine (List.map_congr_left (g := id) fun kv hkv => ?_).trans (List.map_id _)
    obtain ⟨k, hk⟩ := List.mem_iff_getElem?.mp hkv
    rw [List.getElem?_zipWith] at hk
    cases e : ns[k]? with
    | none => rw [e] at hk; simp at hk
    | some x =>
      cases e2 : vs[k]? with
      | none => rw [e, e2] at hk; simp at hk
      | some y =>
        rw [e, e2] at hk
        simp at hk
        subst hk
        exact if_neg fun q => nd.1 (by rw [← Sum.inr.inj q]; exact List.mem_of_getElem? e)
  | m :: ns, w :: vs, i + 1, n, z, nd, h => by
    rw [List.nodup_cons] at nd
    rw [List.getElem?_cons_succ] at h
    have ne : m ≠ n := fun e => nd.1 (e ▸ List.mem_of_getElem? h)
    have ih := map_put (vs := vs) z nd.2 h
    unfold kzOf at ih ⊢
    rw [List.set_cons_succ, List.zipWith_cons_cons, List.zipWith_cons_cons, List.map_cons, ih, if_neg (fun e => ne (Sum.inr.inj e))]
theorem put_zip {ns : List Str} {vs : List Int} {i : Nat} {n : Str} {w : Int} (z : Int) (nd : ns.Nodup) (h : ns[i]? = some n) (g : vs[i]? = some w) : putK (kzOf ns vs) (.inr n) (.int z) = kzOf ns (vs.set i z) := by
  unfold putK
  rw [if_pos (by rw [valV_any, valV_zip nd h g]; rfl), map_put z nd h]
theorem merge_new : ∀ (more ks : List (L2.Key × V)), ((ks ++ more).map (·.1)).Nodup → mergeK ks more = ks ++ more
  | [], ks, _ => (List.append_nil ks).symm
  | z :: more, ks, nd => by
    have e : putK ks z.1 z.2 = ks ++ [z] := by
      refine putK_new ?_ z.2
      cases h : valV ks z.1 with
      | none => rfl
      | some v =>
        exfalso
        unfold valV at h
        obtain ⟨kv, hf, _⟩ := Option.map_eq_some_iff.mp h
        have h1 := List.mem_of_find?_eq_some hf
        have h2 := of_decide_eq_true (List.find?_some (p := fun kv : L2.Key × V => decide (kv.1 = z.1)) hf)
        rw [List.map_append, List.nodup_append] at nd
        exact nd.2.2 kv.1 (List.mem_map.mpr ⟨kv, h1, rfl⟩) z.1 (by simp) h2
    show mergeK (putK ks z.1 z.2) more = _
    rw [e, merge_new more (ks ++ [z]) (by rw [List.append_assoc]; exact nd), List.append_assoc]
    rfl
theorem nms_nd : nms.Nodup := by decide +kernel
theorem kz_keys : ∀ (ns : List Str) (vs : List Int), ns.length = vs.length → (kzOf ns vs).map (·.1) = ns.map Sum.inr
  | [], [], _ => rfl
  | n :: ns, v :: vs, h => by
    unfold kzOf
    rw [List.zipWith_cons_cons, List.map_cons, List.map_cons]
    congr 1
    exact kz_keys ns vs (by simpa using h)
theorem merge_kz {vs : List Int} (h : vs.length = 13) : mergeK [] (kzOf nms vs) = kzOf nms vs := by
  rw [merge_new _ _ (by rw [List.nil_append, kz_keys _ _ (by rw [h]; rfl)]; exact List.pairwise_map.mpr (nms_nd.imp fun h e => h (Sum.inr.inj e))), List.nil_append]
end RR
namespace RR
open PySem PySem.Spec PyProof.Rows L2
theorem cdiv_of {i j : Int} (h : 0 < j) (s : Sm 9000 j) : CDivW i j := ⟨h, (Nat.log2_lt (by omega)).mpr s⟩
end RR
namespace RR
open PySem PySem.Spec PyProof.Rows L2
def smB (n : Nat) (x : Int) : Bool := Nat.blt x.natAbs (2 ^ n)
theorem smB_ok {n : Nat} {x : Int} (h : smB n x = true) : Sm n x := Nat.blt_eq.mp h
def wA (i m st : Nat) : W8 := mod8 st (i + 1) (m + 2) (w8 (i + 1) (m + 2))
def chkF1 (k : Nat) (a : Int) : Bool := smB 9000 (px a k) && (smB 9000 (px a (nW k a)) && (smB 9000 (bW k a) && (smB 9000 (px (bW k a) k) && (decide (2 ≤ bW k a) && (Nat.blt (nW k a) (2 ^ 100) && (smB 4000 (py a k) && (smB 9000 (px a (4 * k * (py a k).toNat)) && (Nat.blt (4 * k * (py a k).toNat) (2 ^ 100) && decide (py a k < 100)))))))))
def chkF2 (w : W8) (l : Nat) : Bool := decide (2 ≤ w.b) && (smB 9000 w.b && (smB 10000 (px w.b l) && (decide (0 < w.u) && (decide (0 < w.y) && (decide (0 ≤ w.x) && (decide (0 ≤ w.v) && (smB 9000 w.u && (smB 4000 w.y && (smB 90000 w.x && (smB 90000 w.v && (smB 90000 w.r && (smB 90000 w.p && smB 90000 w.q))))))))))))
def chkF : Bool := (List.range 3).all fun i => (List.range (modK (i + 1))).all fun m => chkF1 (i + 1) (m + 2) && (List.range 3).all fun st => chkF2 (wA i m st) (lastK (i + 1))
theorem chkF_ok : chkF = true := by decide +kernel
theorem chkF_at {i m : Nat} (hi : i < 3) (hm : m < modK (i + 1)) : chkF1 (i + 1) (m + 2) = true ∧ ∀ st, st < 3 → chkF2 (wA i m st) (lastK (i + 1)) = true := by
  have h := chkF_ok
  unfold chkF at h
  have h1 := List.all_eq_true.mp h i (List.mem_range.mpr hi)
  have h2 := List.all_eq_true.mp h1 m (List.mem_range.mpr hm)
  rw [Bool.and_eq_true] at h2
  exact ⟨h2.1, fun st hs => List.all_eq_true.mp h2.2 st (List.mem_range.mpr hs)⟩
theorem chkF1_of {k : Nat} {a : Int} (h : chkF1 k a = true) : Sm 9000 (px a k) ∧ Sm 9000 (px a (nW k a)) ∧ Sm 9000 (bW k a) ∧ Sm 9000 (px (bW k a) k) ∧ 2 ≤ bW k a ∧ nW k a < 2 ^ 100 ∧ Sm 4000 (py a k) ∧ Sm 9000 (px a (4 * k * (py a k).toNat)) ∧ 4 * k * (py a k).toNat < 2 ^ 100 ∧ py a k < 100 := by
  unfold chkF1 at h
  simp only [Bool.and_eq_true, decide_eq_true_eq] at h
  obtain ⟨h1, h2, h3, h4, h5, h6, h7, h8, h9, h10⟩ := h
  exact ⟨smB_ok h1, smB_ok h2, smB_ok h3, smB_ok h4, h5, Nat.blt_eq.mp h6, smB_ok h7, smB_ok h8, Nat.blt_eq.mp h9, h10⟩
theorem chkF2_of {w : W8} {l : Nat} (h : chkF2 w l = true) : 2 ≤ w.b ∧ Sm 9000 w.b ∧ Sm 10000 (px w.b l) ∧ 0 < w.u ∧ 0 < w.y ∧ 0 ≤ w.x ∧ 0 ≤ w.v ∧ Sm 9000 w.u ∧ Sm 4000 w.y ∧ Sm 90000 w.x ∧ Sm 90000 w.v ∧ Sm 90000 w.r ∧ Sm 90000 w.p ∧ Sm 90000 w.q := by
  unfold chkF2 at h
  simp only [Bool.and_eq_true, decide_eq_true_eq] at h
  obtain ⟨h1, h2, h3, h4, h5, h6, h7, h8, h9, h10, h11, h12, h13, h14⟩ := h
  exact ⟨h1, smB_ok h2, smB_ok h3, h4, h5, h6, h7, smB_ok h8, smB_ok h9, smB_ok h10, smB_ok h11, smB_ok h12, smB_ok h13, smB_ok h14⟩
end RR
namespace RR
open PySem PySem.Spec PyProof.Rows L2
theorem kz_get {H1 : Hp} {D : Addr} {vs : List Int} {n : Str} {v : Int} (i : Nat) (h : H1 D = some (.dK (kzOf nms vs))) (g : nms[i]? = some n) (l : vs[i]? = some v) : DGet H1 D (kV (.inr n)) (some (.int v)) := .inl ⟨_, _, .inl h, rfl, (valV_zip nms_nd g l).symm⟩
theorem kz_put {H1 : Hp} {D : Addr} {vs : List Int} {n : Str} {v : Int} (i : Nat) (z : Int) (h : H1 D = some (.dK (kzOf nms vs))) (g : nms[i]? = some n) (l : vs[i]? = some v) : DPut H1 D (kV (.inr n)) (.int z) (upd H1 D (.dK (kzOf nms (vs.set i z)))) := by
  have := DPut.k (v := .int z) (k := .inr n) h (sz_lt (by unfold kzOf; rw [List.length_zipWith]; exact Nat.le_trans (Nat.min_le_left ..) (by decide)))
  rw [put_zip z nms_nd g l] at this
  exact this
end RR
namespace RR
open PySem PySem.Spec PyProof.Rows L2
def vsW (k : Nat) (a : Int) : List Int := [px a k, py a k, px a (nW k a), py a (nW k a), px (bW k a) k, py (bW k a) k, bW k a, (w8 k a).r, (w8 k a).p, (w8 k a).q, (px (bW k a) k - px a k) / px a (nW k a), (py (bW k a) k - k) / (4 * py a k), py a k - k]
end RR

namespace RR
open PySem PySem.Spec PyProof.Rows L2
/-- bits -/
def bl (n : Nat) : Nat := Builtin.Int.intBits (n : Int)
theorem bl_lt (n : Nat) : n < 2 ^ bl n := by
  have h : Sm (bl n) (n : Int) := sm_bits (Nat.le_refl _)
  unfold Sm at h
  rwa [Int.natAbs_natCast] at h
theorem bl_le {n : Nat} (h : 1 ≤ n) : 2 ^ (bl n - 1) ≤ n := by
  unfold bl Builtin.Int.intBits
  split
  · rename_i e
    have e0 : (n : Int) = 0 := by simpa using e
    omega
  · rw [Nat.add_sub_cancel, Int.natAbs_natCast]
    exact Nat.log2_self_le (by omega)
theorem div_zero {n b p : Nat} (hb : 1 ≤ b) (h : bl n ≤ (bl b - 1) * p) : n / b ^ p = 0 := by
  refine Nat.div_eq_of_lt (Nat.lt_of_lt_of_le (bl_lt n) (Nat.le_trans (Nat.pow_le_pow_right (by omega) h) ?_))
  rw [Nat.pow_mul]
  exact Nat.pow_le_pow_left (bl_le hb) p
theorem half_pow (e L i : Nat) (h : i < L) : e / 2 ^ (L - i) = e / 2 ^ (L - 1 - i) / 2 := by
  rw [Nat.div_div_eq_div_mul, ← Nat.pow_succ]
  congr 2
  omega
theorem ch_rec (b k : Nat) : (ch b (k + 1) : Int) = (ch b k : Int) * ((b : Int) - k) / (k + 1) := by
  have e1 := fall_ch b k
  have e2 := fall_ch b (k + 1)
  have e3 : fall (b : Int) (k + 1) = fall b k * (b - k) := rfl
  have e5 : (fac (k + 1) : Int) = ((k : Int) + 1) * (fac k : Int) := by
    show (((k + 1) * fac k : Nat) : Int) = _
    push_cast
    rfl
  rw [e3, e1, e5] at e2
  have f0 : (fac k : Int) ≠ 0 := by have := fac_pos k; omega
  have e6 : (ch b k : Int) * ((b : Int) - k) = (ch b (k + 1) : Int) * ((k : Int) + 1) := by
    refine Int.eq_of_mul_eq_mul_right f0 ?_
    grind
  rw [e6, Int.mul_ediv_cancel _ (by omega)]
/-- the row by its own rule -/
def pd (b : Nat) : Nat → Nat
  | 0 => 1
  | k + 1 => pd b k * (b - k) / (k + 1)
theorem pd_ch {b : Nat} : ∀ k : Nat, k ≤ b → pd b k = ch b k := by
  intro k
  induction k with
  | zero => intro _; unfold ch pd; rfl
  | succ k ih =>
    intro h
    show pd b k * (b - k) / (k + 1) = _
    rw [ih (by omega)]
    have := ch_rec b k
    have e : (((ch b k * (b - k) / (k + 1) : Nat)) : Int) = (ch b (k + 1) : Int) := by
      rw [this]
      push_cast
      rw [Int.ofNat_sub (by omega)]
    omega
def hp (b u : Nat) : Nat → Nat
  | 0 => 0
  | k + 1 => hp b u k * u + pd b (b - k)
def hz (b u : Nat) : Nat → Nat
  | 0 => 0
  | k + 1 => hz b u k * u + ch b (b - k)
theorem hp_hz (b u : Nat) : ∀ k, hp b u k = hz b u k := by
  intro k
  induction k with
  | zero => rfl
  | succ k ih =>
    show hp b u k * u + pd b (b - k) = hz b u k * u + ch b (b - k)
    rw [ih, pd_ch _ (Nat.sub_le _ _)]
theorem hp_ok : (List.range 25).all (fun b => (List.range 26).all (fun k => decide (hp b (2 ^ (b + 1)) k < 2 ^ 2000)) && hp b (2 ^ (b + 1)) (b + 1) == (2 ^ (b + 1) + 1) ^ b) = true := by decide +kernel
theorem hz_end {b : Nat} (h : b < 25) : hz b (2 ^ (b + 1)) (b + 1) = (2 ^ (b + 1) + 1) ^ b := by
  have := List.all_eq_true.mp hp_ok b (List.mem_range.mpr h)
  rw [Bool.and_eq_true] at this
  rw [← hp_hz]
  exact eq_of_beq this.2
theorem hz_lt {b k : Nat} (h : b < 25) (hk : k < 26) : hz b (2 ^ (b + 1)) k < 2 ^ 2000 := by
  have := List.all_eq_true.mp hp_ok b (List.mem_range.mpr h)
  rw [Bool.and_eq_true] at this
  rw [← hp_hz]
  exact of_decide_eq_true (List.all_eq_true.mp this.1 k (List.mem_range.mpr hk))
/-- the row as the list holds it -/
def rowV (b n : Nat) : List V := (List.range n).map fun k => V.int (ch b k : Int)
theorem rowV_len (b n : Nat) : (rowV b n).length = n := by
  unfold rowV
  rw [List.length_map, List.length_range]
theorem rowV_at {b n k : Nat} (h : k < n) : (rowV b n)[k]? = some (V.int (ch b k : Int)) := by
  unfold rowV
  rw [List.getElem?_map, List.getElem?_range h]
  rfl
theorem rowV_succ (b n : Nat) : rowV b (n + 1) = rowV b n ++ [V.int (ch b n : Int)] := by
  unfold rowV
  rw [List.range_succ, List.map_append]
  rfl
def toV (l : List Nat) : List V := l.map fun (d : Nat) => V.int (d : Int)
theorem toV_len (l : List Nat) : (toV l).length = l.length := by
  unfold toV
  rw [List.length_map]
theorem toV_app (l m : List Nat) : toV (l ++ m) = toV l ++ toV m := by
  unfold toV
  rw [List.map_append]
theorem toV_at {l : List Nat} {j d : Nat} (h : l[j]? = some d) : (toV l)[j]? = some (V.int (d : Int)) := by
  unfold toV
  rw [List.getElem?_map, h]
  rfl
/-- [.. for k in range(n)] -/
theorem lc_rng {n : Nat} {g : TG} {tt : TT} {te : TE} {vs : List Nat} {σ : L2.St} {H1 : Hp} {D : Addr} {Qd : Hp → Prop} (Pv : Nat → Hp → Prop) (h0 : Pv 0 (upd H1 D (.lst [])))
    (hs : ∀ (i : Nat) H, i < n → Pv i H → g (.int (i : Int)) (wipe σ vs) H fun σ2 H2 => wipe σ2 vs = wipe σ vs ∧ tt σ2 H2 fun b H3 =>
      if b = true then te σ2 H3 fun y H4 => ∃ acc, H4 D = some (.lst acc) ∧ acc.length < sizeLine ∧ Pv (i + 1) (upd H4 D (.lst (acc ++ [y]))) else Pv (i + 1) H3) (hd : ∀ H, Pv n H → Qd H) :
    ∃ W : Nat → Nat → Hp → Prop, (∃ m, W 0 m (upd H1 D (.lst []))) ∧ ∀ i m H, W i m H →
      ((Itr 0 n).stop i H ∧ Qd H) ∨ ((Itr 0 n).go i H ∧ ∃ Nx : Hp → Prop, (∀ H', Nx H' → ∃ m', m' < m ∧ W (i + 1) m' H') ∧ ∀ x H', (Itr 0 n).yld i H x H' → g x (wipe σ vs) H' fun σ2 H2 => wipe σ2 vs = wipe σ vs ∧ tt σ2 H2 fun b H3 =>
        if b = true then te σ2 H3 fun y H4 => ∃ acc, H4 D = some (.lst acc) ∧ acc.length < sizeLine ∧ Nx (upd H4 D (.lst (acc ++ [y]))) else Nx H3) :=
  lc_range (lo := 0) (n := n) Pv h0 (fun i H hi p => by rw [Int.zero_add]; exact hs i H hi p) hd
theorem layAll (l : List Nat) : PyData.canLayAll0 (l.map fun (k : Nat) => PyData.int (k : Int)) = true := by
  induction l with
  | nil => rfl
  | cons x l ih => simp only [List.map_cons, PyData.canLayAll0, PyData.canLay0, ih, Bool.and_true]
theorem depthAll (l : List Nat) : PyData.depthAll (l.map fun (k : Nat) => PyData.int (k : Int)) ≤ 1 := by
  induction l with
  | nil => decide
  | cons x l ih =>
    simp only [List.map_cons, PyData.depthAll, PyData.depth]
    omega
theorem ints_shaped (l : List Nat) : SeqAt.shaped (.list (l.map fun (k : Nat) => PyData.int (k : Int))) = true := by
  unfold SeqAt.shaped
  have h1 : PyData.canLay0 (.list (l.map fun (k : Nat) => PyData.int (k : Int))) = true := by
    simp only [PyData.canLay0, layAll]
  have h2 := depthAll l
  rw [h1, Bool.true_and]
  refine decide_eq_true ?_
  simp only [PyData.depth]
  omega
theorem ints_dp {K : PySem.W.Frag} {H : Hp} (l : List Nat) : DpAll K H (toV l) (l.map fun (k : Nat) => PyData.int (k : Int)) := by
  induction l with
  | nil => exact .nil
  | cons x l ih => exact .cons (.int _) ih
/-- a number by its digits -/
def val (b : Nat) : List Nat → Nat
  | [] => 0
  | d :: r => d + b * val b r
theorem val_lt {b : Nat} : ∀ ds : List Nat, (∀ d ∈ ds, d < b) → val b ds < b ^ ds.length := by
  intro ds
  induction ds with
  | nil => intro _; show 0 < 1; omega
  | cons d r ih =>
    intro h
    have h1 := ih fun x hx => h x (List.mem_cons_of_mem _ hx)
    have h2 := h d List.mem_cons_self
    show d + b * val b r < b ^ (r.length + 1)
    rw [Nat.pow_succ]
    have : b * (val b r + 1) ≤ b * b ^ r.length := Nat.mul_le_mul_left b h1
    rw [Nat.mul_add, Nat.mul_one] at this
    rw [Nat.mul_comm (b ^ r.length) b]
    omega
theorem val_drop {b : Nat} {ds : List Nat} {k d : Nat} (h : ds[k]? = some d) : val b (ds.drop k) = d + b * val b (ds.drop (k + 1)) := by
  obtain ⟨hl, e⟩ := List.getElem?_eq_some_iff.mp h
  rw [List.drop_eq_getElem_cons hl, e]
  rfl
theorem val_div {b : Nat} (hb : 0 < b) : ∀ (k : Nat) (ds : List Nat), (∀ d ∈ ds, d < b) → val b ds / b ^ k = val b (ds.drop k) := by
  intro k
  induction k with
  | zero => intro ds _; rw [Nat.pow_zero, Nat.div_one, List.drop_zero]
  | succ k ih =>
    intro ds h
    match ds, h with
    | [], _ => rw [List.drop_nil]; exact Nat.zero_div _
    | d :: r, h =>
      rw [Nat.pow_succ, Nat.mul_comm, ← Nat.div_div_eq_div_mul]
      have h2 := h d List.mem_cons_self
      have e : val b (d :: r) / b = val b r := by
        show (d + b * val b r) / b = _
        rw [Nat.add_mul_div_left _ _ hb, Nat.div_eq_of_lt h2, Nat.zero_add]
      rw [e, ih r fun x hx => h x (List.mem_cons_of_mem _ hx)]
      rfl
theorem val_at {b : Nat} (hb : 0 < b) {ds : List Nat} {k d : Nat} (hd : ∀ x ∈ ds, x < b) (h : ds[k]? = some d) : val b ds / b ^ k % b = d := by
  rw [val_div hb k ds hd, val_drop h, Nat.add_mul_mod_self_left, Nat.mod_eq_of_lt (hd d (List.mem_of_getElem? h))]
theorem val_beyond {b : Nat} (hb : 0 < b) {ds : List Nat} {k : Nat} (hd : ∀ x ∈ ds, x < b) (h : ds.length ≤ k) : val b ds / b ^ k % b = 0 := by
  rw [val_div hb k ds hd, List.drop_eq_nil_of_le h]
  exact Nat.zero_mod _
end RR

namespace RR
open PySem PySem.Spec PyProof.Rows L2
/-! the table of the law: an index from 1 to 4 with its bases -/
def basesK (k : Nat) : Nat := [8, 8, 4, 2].getD (k - 1) 0
def firstB (m u : Int) (want : Int) : Nat → Int → Bool
  | 0, b => decide (b = want) && decide (b % m = 1)
  | n + 1, b => if b % m = 1 then decide (b = want) else decide (b ≠ want) && firstB m u want n (b + u)
def kof (n : Nat) : Nat := [1, 2, 3, 1, 2, 3, 1, 4].getD n 1
/-- the first number of figures that is tried -/
def cnt0 (k : Nat) (a : Int) : Nat := ((Builtin.Int.intBits (max (px a (nW k a)) (px (bW k a) k)) : Nat) - 1) * 301029995 / 10 ^ 9
def tenUp (g : Int) : Nat → Nat → Int → Nat
  | 0, n, _ => n
  | f + 1, n, p => if p ≤ g then tenUp g f (n + 1) (p * 10) else n
def maxL : List Int → Int
  | [] => 0
  | x :: l => l.foldl max x
def chk41 (k : Nat) (a : Int) : Bool :=
  let y := py a k
  let u := px a (nW k a)
  let b := bW k a
  smB 100 (px a (2 * k + 3)) && (smB 9000 u && (smB 9000 b && (smB 90000 (px b (k + 3)) && (decide (2 ≤ b) && (Nat.blt (nW k a) (2 ^ 40) && (smB 4000 y && (decide (y < 1000) &&
    (firstB (4 * y) u b (qW k a).toNat a && decide (qW k a < 4 * y)))))))))
theorem chk41_ok : ((List.range 4).all fun k => (List.range (basesK (k + 1))).all fun m => chk41 (k + 1) (m + 2)) = true := by decide +kernel
end RR
namespace RR
open PySem PySem.Spec PyProof.Rows L2
theorem chk41_of {k : Nat} {a : Int} (h : chk41 k a = true) : Sm 100 (px a (2 * k + 3)) ∧ Sm 9000 (px a (nW k a)) ∧ Sm 9000 (bW k a) ∧ Sm 90000 (px (bW k a) (k + 3)) ∧ 2 ≤ bW k a ∧ nW k a < 2 ^ 40 ∧ Sm 4000 (py a k) ∧ py a k < 1000 ∧ firstB (4 * py a k) (px a (nW k a)) (bW k a) (qW k a).toNat a = true ∧ qW k a < 4 * py a k := by
  unfold chk41 at h
  simp only [Bool.and_eq_true, decide_eq_true_eq] at h
  obtain ⟨h1, h2, h3, h4, h5, h6, h7, h8, h9, h10⟩ := h
  exact ⟨smB_ok h1, smB_ok h2, smB_ok h3, smB_ok h4, h5, Nat.blt_eq.mp h6, smB_ok h7, h8, h9, h10⟩
end RR
namespace RR
open PySem PySem.Spec PyProof.Rows L2
theorem sm_ten (k : Nat) : Sm (4 * k + 1) ((10 ^ k : Nat) : Int) := by
  unfold Sm
  rw [Int.natAbs_natCast]
  have h1 : 10 ^ k ≤ 16 ^ k := Nat.pow_le_pow_left (by decide) k
  have h2 : (16 : Nat) ^ k = 2 ^ (4 * k) := by rw [show (16 : Nat) = 2 ^ 4 from rfl, ← Nat.pow_mul]
  have h3 : 2 ^ (4 * k) < 2 ^ (4 * k + 1) := Nat.pow_lt_pow_right (by decide) (by omega)
  omega
theorem ten_succ (k : Nat) : ((10 ^ k : Nat) : Int) * 10 = ((10 ^ (k + 1) : Nat) : Int) := by
  rw [Nat.pow_succ]
  push_cast
  rfl
end RR
namespace RR
open PySem PySem.Spec PyProof.Rows L2
theorem nine_eqv (z1 z2 z3 z4 z5 z6 z7 z8 z9 : Int) : PyData.eqv (.list [.int z1, .int z2, .int z3, .int z4, .int z5, .int z6, .int z7, .int z8, .int z9]) (.list [.int 0, .int 0, .int 0, .int 0, .int 0, .int 0, .int 0, .int 0, .int 0]) =
    (decide (z1 = 0) && (decide (z2 = 0) && (decide (z3 = 0) && (decide (z4 = 0) && (decide (z5 = 0) && (decide (z6 = 0) && (decide (z7 = 0) && (decide (z8 = 0) && decide (z9 = 0))))))))) := by
  simp only [PyData.eqv, PyData.eqvAll, Bool.and_true]
  rfl
theorem nine_dp {K : PySem.W.Frag} {H : Hp} (z1 z2 z3 z4 z5 z6 z7 z8 z9 : Int) : DpAll K H [.int z1, .int z2, .int z3, .int z4, .int z5, .int z6, .int z7, .int z8, .int z9] [.int z1, .int z2, .int z3, .int z4, .int z5, .int z6, .int z7, .int z8, .int z9] :=
  .cons (.int _) (.cons (.int _) (.cons (.int _) (.cons (.int _) (.cons (.int _) (.cons (.int _) (.cons (.int _) (.cons (.int _) (.cons (.int _) .nil))))))))
theorem nine_shaped (z1 z2 z3 z4 z5 z6 z7 z8 z9 : Int) : SeqAt.shaped (.list [.int z1, .int z2, .int z3, .int z4, .int z5, .int z6, .int z7, .int z8, .int z9]) = true := rfl
end RR
namespace RR
open PySem PySem.Spec PyProof.Rows L2
def eqL (k a : Int) : List Int → Bool
  | [x, y, u, v, s, t, b, r, p, q, c, d, e] => eqV k a x y u v s t b r p q c d e
  | _ => false
def grt (k : Nat) (a : Int) : Int := max (px a (nW k a)) (px (bW k a) k)
def figN (k : Nat) (a : Int) : Nat := tenUp (grt k a) 20 (cnt0 k a) ((10 ^ cnt0 k a : Nat) : Int)
def chk41b (k : Nat) (a : Int) : Bool :=
  let vs := vsW k a
  let g := grt k a
  let n := figN k a
  (vs.all fun v => smB 90000 v && (decide (0 ≤ v) && decide (v ≤ g))) && (eqL k a vs && (Nat.ble 1 n && (Nat.blt n 9000 && (decide (((10 ^ (n - 1) : Nat) : Int) ≤ g) && (decide (g < ((10 ^ n : Nat) : Int)) && Nat.ble (cnt0 k a) n)))))
theorem chk41b_ok : ((List.range 4).all fun k => (List.range (basesK (k + 1))).all fun m => chk41b (k + 1) (m + 2)) = true := by decide +kernel
theorem chk41_at {k m : Nat} (hk : k < 4) (hm : m < basesK (k + 1)) : chk41 (k + 1) (m + 2) = true ∧ chk41b (k + 1) (m + 2) = true :=
  ⟨List.all_eq_true.mp (List.all_eq_true.mp chk41_ok k (List.mem_range.mpr hk)) m (List.mem_range.mpr hm), List.all_eq_true.mp (List.all_eq_true.mp chk41b_ok k (List.mem_range.mpr hk)) m (List.mem_range.mpr hm)⟩
theorem chk41b_of {k : Nat} {a : Int} (h : chk41b k a = true) : (∀ v ∈ vsW k a, Sm 90000 v ∧ 0 ≤ v ∧ v ≤ grt k a) ∧ eqL k a (vsW k a) = true ∧ 1 ≤ figN k a ∧ figN k a < 9000 ∧ ((10 ^ (figN k a - 1) : Nat) : Int) ≤ grt k a ∧ grt k a < ((10 ^ figN k a : Nat) : Int) ∧ cnt0 k a ≤ figN k a := by
  unfold chk41b at h
  simp only [Bool.and_eq_true, decide_eq_true_eq, List.all_eq_true] at h
  obtain ⟨h1, h2, h3, h4, h5, h6, h7⟩ := h
  exact ⟨fun v hv => ⟨smB_ok (h1 v hv).1, (h1 v hv).2.1, (h1 v hv).2.2⟩, h2, Nat.ble_eq.mp h3, Nat.blt_eq.mp h4, h5, h6, Nat.ble_eq.mp h7⟩
theorem len13 {l : List Int} (h : l.length = 13) : ∃ x y u v s t b r p q c d e, l = [x, y, u, v, s, t, b, r, p, q, c, d, e] := by
  match l, h with
  | [x, y, u, v, s, t, b, r, p, q, c, d, e], _ => exact ⟨x, y, u, v, s, t, b, r, p, q, c, d, e, rfl⟩
/-- a member of a list of V made of ints -/
theorem basesK_pos {k : Nat} (h : k < 4) : 0 < basesK (k + 1) := by
  have : k = 0 ∨ k = 1 ∨ k = 2 ∨ k = 3 := by omega
  rcases this with rfl | rfl | rfl | rfl <;> decide
theorem basesK_le {k : Nat} (h : k < 4) : basesK (k + 1) ≤ 8 := by
  have : k = 0 ∨ k = 1 ∨ k = 2 ∨ k = 3 := by omega
  rcases this with rfl | rfl | rfl | rfl <;> decide
theorem valV_drop {ks : List (L2.Key × V)} {k j : L2.Key} : valV (dropK ks k) j = if j = k then none else valV ks j := by
  induction ks with
  | nil => split <;> rfl
  | cons p r ih =>
    by_cases e : p.1 = k
    · rw [dropK_pos e, ih]
      split
      · rfl
      · rename_i z
        rw [valV_neg (fun w => z (w.symm.trans e))]
    · rw [dropK_neg e]
      by_cases e2 : p.1 = j
      · rw [valV_pos e2, valV_pos e2, if_neg (fun z => e (e2.trans z))]
      · rw [valV_neg e2, valV_neg e2, ih]
end RR
namespace RR
open PySem PySem.Spec PyProof.Rows L2
theorem kz_at {vs : List Int} {i : Nat} {k : L2.Key} {v : V} (h : (kzOf nms vs)[i]? = some (k, v)) : ∃ n w, nms[i]? = some n ∧ vs[i]? = some w ∧ k = .inr n ∧ v = .int w := by
  unfold kzOf at h
  rw [List.getElem?_zipWith] at h
  cases e : nms[i]? with
  | none => rw [e] at h; simp at h
  | some n =>
    cases e2 : vs[i]? with
    | none => rw [e, e2] at h; simp at h
    | some w =>
      rw [e, e2] at h
      simp at h
      exact ⟨n, w, rfl, rfl, h.1.symm, h.2.symm⟩
theorem yes_ {σ : L2.St} {H : Hp} {Q : Bool → Hp → Prop} (q : Q true H) : tYes σ H Q := q
theorem ift_ {Q R : Prop} (q : Q) : if true = true then Q else R := by
  rw [if_pos rfl]
  exact q
theorem kz_lc {σ : L2.St} {H : Hp} {W : Addr} {vs : List Int} {i j : Nat} {te : TE} {f : Int → V} {Q : VK} (hl : vs.length = 13) (hW : H W = some (.dK (kzOf nms vs))) (hi : σ[i]? = some (some (.ref W)))
    (hw : ∀ v, wipe ((wipe σ [j]).set j (some v)) [j] = wipe σ [j]) (hte : ∀ (H1 : Hp) (n : Str) (v : Int) (R : VK), DGet H1 W (.str n) (some (.int v)) → R (f v) H1 → te ((wipe σ [j]).set j (some (.str n))) H1 R)
    (q : ∀ H' D, Same H H' → H D = none → H' D = some (.lst (vs.map f)) → Q (.ref D) H') : tLk (tLc (iKeys (tVar i)) (gName j) tYes te [j]) σ H Q := by
  have hm := mut_one hW trivial
  refine lk_all [W] hm fun Hl L => ?_
  obtain ⟨ob, lk⟩ := L.at_ W (List.mem_singleton.mpr rfl) _ hW
  have hlen : (kzOf nms vs).length = 13 := by
    unfold kzOf
    rw [List.length_zipWith, hl]
    rfl
  refine ⟨_, hi, W, ob, rfl, .inl ⟨_, lk, fun D nD => ?_⟩⟩
  refine lc_it walk_keys (fun i H' => H' D = some (.lst ((vs.take i).map f)) ∧ Same Hl H') ?_ ?_ ?_ ?_
  · exact ⟨upd_same, same_upd nD⟩
  · rintro i H1 _ ⟨_, s⟩
    exact s _ _ lk
  · rintro i x H1 H2 lt ⟨hD, s⟩ ⟨rfl, k, v, hk, rfl⟩
    obtain ⟨n, w, h1, h2, rfl, rfl⟩ := kz_at hk
    refine ⟨hw _, yes_ (ift_ (hte _ n w _ (.inl ⟨_, _, .inr ⟨ob, s _ _ lk⟩, rfl, (valV_zip nms_nd h1 h2).symm⟩) ⟨_, hD, ?_, ?_, Same.new s nD⟩))⟩
    · rw [List.length_map]
      exact sz_lt (Nat.le_trans (List.length_take_le' ..) (by omega))
    · rw [upd_same, List.take_succ, h2, List.map_append]
      rfl
  · rintro H1 ⟨hD, s⟩
    rw [hlen, List.take_of_length_le (by omega)] at hD
    obtain ⟨n1, n2⟩ := L.fresh hm nD
    exact ⟨L.kept hm s, q _ D (back_same L s) n1 ((back_off n2).trans hD)⟩
end RR
namespace RR
open PySem PySem.Spec PyProof.Rows L2
theorem px7_ok : ((List.range 8).all fun m => smB 64 (px ((m : Int) + 2) 7)) = true := by decide +kernel
theorem px7_at {m : Nat} (h : m < 8) : Sm 64 (px ((m : Int) + 2) 7) := smB_ok (List.all_eq_true.mp px7_ok m (List.mem_range.mpr h))
end RR
namespace RR
open PySem PySem.Spec PyProof.Rows L2
theorem eqL_succ {k a yy : Int} {vs : List Int} (hl : vs.length = 13) (h1 : vs[1]? = some yy) (h2 : vs[12]? = some (yy - k)) : eqL (k + 1) a vs = false := by
  obtain ⟨x, y, u, v, s, t, b, r, p, q, c, d, e, rfl⟩ := len13 hl
  have e1 : y = yy := Option.some.inj h1
  have e2 : e = yy - k := Option.some.inj h2
  show eqV (k + 1) a x y u v s t b r p q c d e = false
  unfold eqV
  rw [decide_eq_false (show ¬ (y - (k + 1 + e) = 0) by omega)]
  simp
end RR

namespace RR
open PySem PySem.Spec PyProof.Rows L2
namespace WK
variable {σ : L2.St} {H : Hp} {Q : VK}
theorem tV0 {v : V} {t : L2.St} (q : Q v H) : tVar 0 (some v :: t) H Q := ⟨v, rfl, q⟩
theorem tV1 {a0 : Option V} {v : V} {t : L2.St} (q : Q v H) : tVar 1 (a0 :: some v :: t) H Q := ⟨v, rfl, q⟩
theorem tV2 {a0 a1 : Option V} {v : V} {t : L2.St} (q : Q v H) : tVar 2 (a0 :: a1 :: some v :: t) H Q := ⟨v, rfl, q⟩
theorem tV3 {a0 a1 a2 : Option V} {v : V} {t : L2.St} (q : Q v H) : tVar 3 (a0 :: a1 :: a2 :: some v :: t) H Q := ⟨v, rfl, q⟩
theorem tV4 {a0 a1 a2 a3 : Option V} {v : V} {t : L2.St} (q : Q v H) : tVar 4 (a0 :: a1 :: a2 :: a3 :: some v :: t) H Q := ⟨v, rfl, q⟩
theorem tV5 {a0 a1 a2 a3 a4 : Option V} {v : V} {t : L2.St} (q : Q v H) : tVar 5 (a0 :: a1 :: a2 :: a3 :: a4 :: some v :: t) H Q := ⟨v, rfl, q⟩
theorem tV6 {a0 a1 a2 a3 a4 a5 : Option V} {v : V} {t : L2.St} (q : Q v H) : tVar 6 (a0 :: a1 :: a2 :: a3 :: a4 :: a5 :: some v :: t) H Q := ⟨v, rfl, q⟩
theorem tV7 {a0 a1 a2 a3 a4 a5 a6 : Option V} {v : V} {t : L2.St} (q : Q v H) : tVar 7 (a0 :: a1 :: a2 :: a3 :: a4 :: a5 :: a6 :: some v :: t) H Q := ⟨v, rfl, q⟩
theorem tV8 {a0 a1 a2 a3 a4 a5 a6 a7 : Option V} {v : V} {t : L2.St} (q : Q v H) : tVar 8 (a0 :: a1 :: a2 :: a3 :: a4 :: a5 :: a6 :: a7 :: some v :: t) H Q := ⟨v, rfl, q⟩
theorem tV9 {a0 a1 a2 a3 a4 a5 a6 a7 a8 : Option V} {v : V} {t : L2.St} (q : Q v H) : tVar 9 (a0 :: a1 :: a2 :: a3 :: a4 :: a5 :: a6 :: a7 :: a8 :: some v :: t) H Q := ⟨v, rfl, q⟩
theorem tV10 {a0 a1 a2 a3 a4 a5 a6 a7 a8 a9 : Option V} {v : V} {t : L2.St} (q : Q v H) : tVar 10 (a0 :: a1 :: a2 :: a3 :: a4 :: a5 :: a6 :: a7 :: a8 :: a9 :: some v :: t) H Q := ⟨v, rfl, q⟩
theorem tV11 {a0 a1 a2 a3 a4 a5 a6 a7 a8 a9 a10 : Option V} {v : V} {t : L2.St} (q : Q v H) : tVar 11 (a0 :: a1 :: a2 :: a3 :: a4 :: a5 :: a6 :: a7 :: a8 :: a9 :: a10 :: some v :: t) H Q := ⟨v, rfl, q⟩
theorem tV12 {a0 a1 a2 a3 a4 a5 a6 a7 a8 a9 a10 a11 : Option V} {v : V} {t : L2.St} (q : Q v H) : tVar 12 (a0 :: a1 :: a2 :: a3 :: a4 :: a5 :: a6 :: a7 :: a8 :: a9 :: a10 :: a11 :: some v :: t) H Q := ⟨v, rfl, q⟩
theorem tV13 {a0 a1 a2 a3 a4 a5 a6 a7 a8 a9 a10 a11 a12 : Option V} {v : V} {t : L2.St} (q : Q v H) : tVar 13 (a0 :: a1 :: a2 :: a3 :: a4 :: a5 :: a6 :: a7 :: a8 :: a9 :: a10 :: a11 :: a12 :: some v :: t) H Q := ⟨v, rfl, q⟩
theorem tV14 {a0 a1 a2 a3 a4 a5 a6 a7 a8 a9 a10 a11 a12 a13 : Option V} {v : V} {t : L2.St} (q : Q v H) : tVar 14 (a0 :: a1 :: a2 :: a3 :: a4 :: a5 :: a6 :: a7 :: a8 :: a9 :: a10 :: a11 :: a12 :: a13 :: some v :: t) H Q := ⟨v, rfl, q⟩
theorem tV15 {a0 a1 a2 a3 a4 a5 a6 a7 a8 a9 a10 a11 a12 a13 a14 : Option V} {v : V} {t : L2.St} (q : Q v H) : tVar 15 (a0 :: a1 :: a2 :: a3 :: a4 :: a5 :: a6 :: a7 :: a8 :: a9 :: a10 :: a11 :: a12 :: a13 :: a14 :: some v :: t) H Q := ⟨v, rfl, q⟩
theorem tV16 {a0 a1 a2 a3 a4 a5 a6 a7 a8 a9 a10 a11 a12 a13 a14 a15 : Option V} {v : V} {t : L2.St} (q : Q v H) : tVar 16 (a0 :: a1 :: a2 :: a3 :: a4 :: a5 :: a6 :: a7 :: a8 :: a9 :: a10 :: a11 :: a12 :: a13 :: a14 :: a15 :: some v :: t) H Q := ⟨v, rfl, q⟩
theorem tV17 {a0 a1 a2 a3 a4 a5 a6 a7 a8 a9 a10 a11 a12 a13 a14 a15 a16 : Option V} {v : V} {t : L2.St} (q : Q v H) : tVar 17 (a0 :: a1 :: a2 :: a3 :: a4 :: a5 :: a6 :: a7 :: a8 :: a9 :: a10 :: a11 :: a12 :: a13 :: a14 :: a15 :: a16 :: some v :: t) H Q := ⟨v, rfl, q⟩
theorem tV18 {a0 a1 a2 a3 a4 a5 a6 a7 a8 a9 a10 a11 a12 a13 a14 a15 a16 a17 : Option V} {v : V} {t : L2.St} (q : Q v H) : tVar 18 (a0 :: a1 :: a2 :: a3 :: a4 :: a5 :: a6 :: a7 :: a8 :: a9 :: a10 :: a11 :: a12 :: a13 :: a14 :: a15 :: a16 :: a17 :: some v :: t) H Q := ⟨v, rfl, q⟩
theorem tV19 {a0 a1 a2 a3 a4 a5 a6 a7 a8 a9 a10 a11 a12 a13 a14 a15 a16 a17 a18 : Option V} {v : V} {t : L2.St} (q : Q v H) : tVar 19 (a0 :: a1 :: a2 :: a3 :: a4 :: a5 :: a6 :: a7 :: a8 :: a9 :: a10 :: a11 :: a12 :: a13 :: a14 :: a15 :: a16 :: a17 :: a18 :: some v :: t) H Q := ⟨v, rfl, q⟩
theorem tV20 {a0 a1 a2 a3 a4 a5 a6 a7 a8 a9 a10 a11 a12 a13 a14 a15 a16 a17 a18 a19 : Option V} {v : V} {t : L2.St} (q : Q v H) : tVar 20 (a0 :: a1 :: a2 :: a3 :: a4 :: a5 :: a6 :: a7 :: a8 :: a9 :: a10 :: a11 :: a12 :: a13 :: a14 :: a15 :: a16 :: a17 :: a18 :: a19 :: some v :: t) H Q := ⟨v, rfl, q⟩
theorem tV21 {a0 a1 a2 a3 a4 a5 a6 a7 a8 a9 a10 a11 a12 a13 a14 a15 a16 a17 a18 a19 a20 : Option V} {v : V} {t : L2.St} (q : Q v H) : tVar 21 (a0 :: a1 :: a2 :: a3 :: a4 :: a5 :: a6 :: a7 :: a8 :: a9 :: a10 :: a11 :: a12 :: a13 :: a14 :: a15 :: a16 :: a17 :: a18 :: a19 :: a20 :: some v :: t) H Q := ⟨v, rfl, q⟩
theorem tV22 {a0 a1 a2 a3 a4 a5 a6 a7 a8 a9 a10 a11 a12 a13 a14 a15 a16 a17 a18 a19 a20 a21 : Option V} {v : V} {t : L2.St} (q : Q v H) : tVar 22 (a0 :: a1 :: a2 :: a3 :: a4 :: a5 :: a6 :: a7 :: a8 :: a9 :: a10 :: a11 :: a12 :: a13 :: a14 :: a15 :: a16 :: a17 :: a18 :: a19 :: a20 :: a21 :: some v :: t) H Q := ⟨v, rfl, q⟩
theorem tV23 {a0 a1 a2 a3 a4 a5 a6 a7 a8 a9 a10 a11 a12 a13 a14 a15 a16 a17 a18 a19 a20 a21 a22 : Option V} {v : V} {t : L2.St} (q : Q v H) : tVar 23 (a0 :: a1 :: a2 :: a3 :: a4 :: a5 :: a6 :: a7 :: a8 :: a9 :: a10 :: a11 :: a12 :: a13 :: a14 :: a15 :: a16 :: a17 :: a18 :: a19 :: a20 :: a21 :: a22 :: some v :: t) H Q := ⟨v, rfl, q⟩
theorem tV24 {a0 a1 a2 a3 a4 a5 a6 a7 a8 a9 a10 a11 a12 a13 a14 a15 a16 a17 a18 a19 a20 a21 a22 a23 : Option V} {v : V} {t : L2.St} (q : Q v H) : tVar 24 (a0 :: a1 :: a2 :: a3 :: a4 :: a5 :: a6 :: a7 :: a8 :: a9 :: a10 :: a11 :: a12 :: a13 :: a14 :: a15 :: a16 :: a17 :: a18 :: a19 :: a20 :: a21 :: a22 :: a23 :: some v :: t) H Q := ⟨v, rfl, q⟩
theorem tV25 {a0 a1 a2 a3 a4 a5 a6 a7 a8 a9 a10 a11 a12 a13 a14 a15 a16 a17 a18 a19 a20 a21 a22 a23 a24 : Option V} {v : V} {t : L2.St} (q : Q v H) : tVar 25 (a0 :: a1 :: a2 :: a3 :: a4 :: a5 :: a6 :: a7 :: a8 :: a9 :: a10 :: a11 :: a12 :: a13 :: a14 :: a15 :: a16 :: a17 :: a18 :: a19 :: a20 :: a21 :: a22 :: a23 :: a24 :: some v :: t) H Q := ⟨v, rfl, q⟩
theorem tV26 {a0 a1 a2 a3 a4 a5 a6 a7 a8 a9 a10 a11 a12 a13 a14 a15 a16 a17 a18 a19 a20 a21 a22 a23 a24 a25 : Option V} {v : V} {t : L2.St} (q : Q v H) : tVar 26 (a0 :: a1 :: a2 :: a3 :: a4 :: a5 :: a6 :: a7 :: a8 :: a9 :: a10 :: a11 :: a12 :: a13 :: a14 :: a15 :: a16 :: a17 :: a18 :: a19 :: a20 :: a21 :: a22 :: a23 :: a24 :: a25 :: some v :: t) H Q := ⟨v, rfl, q⟩
theorem tV27 {a0 a1 a2 a3 a4 a5 a6 a7 a8 a9 a10 a11 a12 a13 a14 a15 a16 a17 a18 a19 a20 a21 a22 a23 a24 a25 a26 : Option V} {v : V} {t : L2.St} (q : Q v H) : tVar 27 (a0 :: a1 :: a2 :: a3 :: a4 :: a5 :: a6 :: a7 :: a8 :: a9 :: a10 :: a11 :: a12 :: a13 :: a14 :: a15 :: a16 :: a17 :: a18 :: a19 :: a20 :: a21 :: a22 :: a23 :: a24 :: a25 :: a26 :: some v :: t) H Q := ⟨v, rfl, q⟩
theorem tV28 {a0 a1 a2 a3 a4 a5 a6 a7 a8 a9 a10 a11 a12 a13 a14 a15 a16 a17 a18 a19 a20 a21 a22 a23 a24 a25 a26 a27 : Option V} {v : V} {t : L2.St} (q : Q v H) : tVar 28 (a0 :: a1 :: a2 :: a3 :: a4 :: a5 :: a6 :: a7 :: a8 :: a9 :: a10 :: a11 :: a12 :: a13 :: a14 :: a15 :: a16 :: a17 :: a18 :: a19 :: a20 :: a21 :: a22 :: a23 :: a24 :: a25 :: a26 :: a27 :: some v :: t) H Q := ⟨v, rfl, q⟩
theorem tV29 {a0 a1 a2 a3 a4 a5 a6 a7 a8 a9 a10 a11 a12 a13 a14 a15 a16 a17 a18 a19 a20 a21 a22 a23 a24 a25 a26 a27 a28 : Option V} {v : V} {t : L2.St} (q : Q v H) : tVar 29 (a0 :: a1 :: a2 :: a3 :: a4 :: a5 :: a6 :: a7 :: a8 :: a9 :: a10 :: a11 :: a12 :: a13 :: a14 :: a15 :: a16 :: a17 :: a18 :: a19 :: a20 :: a21 :: a22 :: a23 :: a24 :: a25 :: a26 :: a27 :: a28 :: some v :: t) H Q := ⟨v, rfl, q⟩
theorem gN0 {R : L2.St → Hp → Prop} {v : V} {b : Option V} {t : L2.St} (q : R (some v :: t) H) : gName 0 v (b :: t) H R := q
theorem gN1 {R : L2.St → Hp → Prop} {a0 b : Option V} {v : V} {t : L2.St} (q : R (a0 :: some v :: t) H) : gName 1 v (a0 :: b :: t) H R := q
theorem gN2 {R : L2.St → Hp → Prop} {a0 a1 b : Option V} {v : V} {t : L2.St} (q : R (a0 :: a1 :: some v :: t) H) : gName 2 v (a0 :: a1 :: b :: t) H R := q
theorem gN3 {R : L2.St → Hp → Prop} {a0 a1 a2 b : Option V} {v : V} {t : L2.St} (q : R (a0 :: a1 :: a2 :: some v :: t) H) : gName 3 v (a0 :: a1 :: a2 :: b :: t) H R := q
theorem gN4 {R : L2.St → Hp → Prop} {a0 a1 a2 a3 b : Option V} {v : V} {t : L2.St} (q : R (a0 :: a1 :: a2 :: a3 :: some v :: t) H) : gName 4 v (a0 :: a1 :: a2 :: a3 :: b :: t) H R := q
theorem gN5 {R : L2.St → Hp → Prop} {a0 a1 a2 a3 a4 b : Option V} {v : V} {t : L2.St} (q : R (a0 :: a1 :: a2 :: a3 :: a4 :: some v :: t) H) : gName 5 v (a0 :: a1 :: a2 :: a3 :: a4 :: b :: t) H R := q
theorem gN6 {R : L2.St → Hp → Prop} {a0 a1 a2 a3 a4 a5 b : Option V} {v : V} {t : L2.St} (q : R (a0 :: a1 :: a2 :: a3 :: a4 :: a5 :: some v :: t) H) : gName 6 v (a0 :: a1 :: a2 :: a3 :: a4 :: a5 :: b :: t) H R := q
theorem gN7 {R : L2.St → Hp → Prop} {a0 a1 a2 a3 a4 a5 a6 b : Option V} {v : V} {t : L2.St} (q : R (a0 :: a1 :: a2 :: a3 :: a4 :: a5 :: a6 :: some v :: t) H) : gName 7 v (a0 :: a1 :: a2 :: a3 :: a4 :: a5 :: a6 :: b :: t) H R := q
theorem gN8 {R : L2.St → Hp → Prop} {a0 a1 a2 a3 a4 a5 a6 a7 b : Option V} {v : V} {t : L2.St} (q : R (a0 :: a1 :: a2 :: a3 :: a4 :: a5 :: a6 :: a7 :: some v :: t) H) : gName 8 v (a0 :: a1 :: a2 :: a3 :: a4 :: a5 :: a6 :: a7 :: b :: t) H R := q
theorem gN9 {R : L2.St → Hp → Prop} {a0 a1 a2 a3 a4 a5 a6 a7 a8 b : Option V} {v : V} {t : L2.St} (q : R (a0 :: a1 :: a2 :: a3 :: a4 :: a5 :: a6 :: a7 :: a8 :: some v :: t) H) : gName 9 v (a0 :: a1 :: a2 :: a3 :: a4 :: a5 :: a6 :: a7 :: a8 :: b :: t) H R := q
theorem gN10 {R : L2.St → Hp → Prop} {a0 a1 a2 a3 a4 a5 a6 a7 a8 a9 b : Option V} {v : V} {t : L2.St} (q : R (a0 :: a1 :: a2 :: a3 :: a4 :: a5 :: a6 :: a7 :: a8 :: a9 :: some v :: t) H) : gName 10 v (a0 :: a1 :: a2 :: a3 :: a4 :: a5 :: a6 :: a7 :: a8 :: a9 :: b :: t) H R := q
theorem gN11 {R : L2.St → Hp → Prop} {a0 a1 a2 a3 a4 a5 a6 a7 a8 a9 a10 b : Option V} {v : V} {t : L2.St} (q : R (a0 :: a1 :: a2 :: a3 :: a4 :: a5 :: a6 :: a7 :: a8 :: a9 :: a10 :: some v :: t) H) : gName 11 v (a0 :: a1 :: a2 :: a3 :: a4 :: a5 :: a6 :: a7 :: a8 :: a9 :: a10 :: b :: t) H R := q
theorem gN12 {R : L2.St → Hp → Prop} {a0 a1 a2 a3 a4 a5 a6 a7 a8 a9 a10 a11 b : Option V} {v : V} {t : L2.St} (q : R (a0 :: a1 :: a2 :: a3 :: a4 :: a5 :: a6 :: a7 :: a8 :: a9 :: a10 :: a11 :: some v :: t) H) : gName 12 v (a0 :: a1 :: a2 :: a3 :: a4 :: a5 :: a6 :: a7 :: a8 :: a9 :: a10 :: a11 :: b :: t) H R := q
theorem gN13 {R : L2.St → Hp → Prop} {a0 a1 a2 a3 a4 a5 a6 a7 a8 a9 a10 a11 a12 b : Option V} {v : V} {t : L2.St} (q : R (a0 :: a1 :: a2 :: a3 :: a4 :: a5 :: a6 :: a7 :: a8 :: a9 :: a10 :: a11 :: a12 :: some v :: t) H) : gName 13 v (a0 :: a1 :: a2 :: a3 :: a4 :: a5 :: a6 :: a7 :: a8 :: a9 :: a10 :: a11 :: a12 :: b :: t) H R := q
theorem gN14 {R : L2.St → Hp → Prop} {a0 a1 a2 a3 a4 a5 a6 a7 a8 a9 a10 a11 a12 a13 b : Option V} {v : V} {t : L2.St} (q : R (a0 :: a1 :: a2 :: a3 :: a4 :: a5 :: a6 :: a7 :: a8 :: a9 :: a10 :: a11 :: a12 :: a13 :: some v :: t) H) : gName 14 v (a0 :: a1 :: a2 :: a3 :: a4 :: a5 :: a6 :: a7 :: a8 :: a9 :: a10 :: a11 :: a12 :: a13 :: b :: t) H R := q
theorem gN15 {R : L2.St → Hp → Prop} {a0 a1 a2 a3 a4 a5 a6 a7 a8 a9 a10 a11 a12 a13 a14 b : Option V} {v : V} {t : L2.St} (q : R (a0 :: a1 :: a2 :: a3 :: a4 :: a5 :: a6 :: a7 :: a8 :: a9 :: a10 :: a11 :: a12 :: a13 :: a14 :: some v :: t) H) : gName 15 v (a0 :: a1 :: a2 :: a3 :: a4 :: a5 :: a6 :: a7 :: a8 :: a9 :: a10 :: a11 :: a12 :: a13 :: a14 :: b :: t) H R := q
theorem gN16 {R : L2.St → Hp → Prop} {a0 a1 a2 a3 a4 a5 a6 a7 a8 a9 a10 a11 a12 a13 a14 a15 b : Option V} {v : V} {t : L2.St} (q : R (a0 :: a1 :: a2 :: a3 :: a4 :: a5 :: a6 :: a7 :: a8 :: a9 :: a10 :: a11 :: a12 :: a13 :: a14 :: a15 :: some v :: t) H) : gName 16 v (a0 :: a1 :: a2 :: a3 :: a4 :: a5 :: a6 :: a7 :: a8 :: a9 :: a10 :: a11 :: a12 :: a13 :: a14 :: a15 :: b :: t) H R := q
theorem gN17 {R : L2.St → Hp → Prop} {a0 a1 a2 a3 a4 a5 a6 a7 a8 a9 a10 a11 a12 a13 a14 a15 a16 b : Option V} {v : V} {t : L2.St} (q : R (a0 :: a1 :: a2 :: a3 :: a4 :: a5 :: a6 :: a7 :: a8 :: a9 :: a10 :: a11 :: a12 :: a13 :: a14 :: a15 :: a16 :: some v :: t) H) : gName 17 v (a0 :: a1 :: a2 :: a3 :: a4 :: a5 :: a6 :: a7 :: a8 :: a9 :: a10 :: a11 :: a12 :: a13 :: a14 :: a15 :: a16 :: b :: t) H R := q
theorem gN18 {R : L2.St → Hp → Prop} {a0 a1 a2 a3 a4 a5 a6 a7 a8 a9 a10 a11 a12 a13 a14 a15 a16 a17 b : Option V} {v : V} {t : L2.St} (q : R (a0 :: a1 :: a2 :: a3 :: a4 :: a5 :: a6 :: a7 :: a8 :: a9 :: a10 :: a11 :: a12 :: a13 :: a14 :: a15 :: a16 :: a17 :: some v :: t) H) : gName 18 v (a0 :: a1 :: a2 :: a3 :: a4 :: a5 :: a6 :: a7 :: a8 :: a9 :: a10 :: a11 :: a12 :: a13 :: a14 :: a15 :: a16 :: a17 :: b :: t) H R := q
theorem gN19 {R : L2.St → Hp → Prop} {a0 a1 a2 a3 a4 a5 a6 a7 a8 a9 a10 a11 a12 a13 a14 a15 a16 a17 a18 b : Option V} {v : V} {t : L2.St} (q : R (a0 :: a1 :: a2 :: a3 :: a4 :: a5 :: a6 :: a7 :: a8 :: a9 :: a10 :: a11 :: a12 :: a13 :: a14 :: a15 :: a16 :: a17 :: a18 :: some v :: t) H) : gName 19 v (a0 :: a1 :: a2 :: a3 :: a4 :: a5 :: a6 :: a7 :: a8 :: a9 :: a10 :: a11 :: a12 :: a13 :: a14 :: a15 :: a16 :: a17 :: a18 :: b :: t) H R := q
theorem gN20 {R : L2.St → Hp → Prop} {a0 a1 a2 a3 a4 a5 a6 a7 a8 a9 a10 a11 a12 a13 a14 a15 a16 a17 a18 a19 b : Option V} {v : V} {t : L2.St} (q : R (a0 :: a1 :: a2 :: a3 :: a4 :: a5 :: a6 :: a7 :: a8 :: a9 :: a10 :: a11 :: a12 :: a13 :: a14 :: a15 :: a16 :: a17 :: a18 :: a19 :: some v :: t) H) : gName 20 v (a0 :: a1 :: a2 :: a3 :: a4 :: a5 :: a6 :: a7 :: a8 :: a9 :: a10 :: a11 :: a12 :: a13 :: a14 :: a15 :: a16 :: a17 :: a18 :: a19 :: b :: t) H R := q
theorem gN21 {R : L2.St → Hp → Prop} {a0 a1 a2 a3 a4 a5 a6 a7 a8 a9 a10 a11 a12 a13 a14 a15 a16 a17 a18 a19 a20 b : Option V} {v : V} {t : L2.St} (q : R (a0 :: a1 :: a2 :: a3 :: a4 :: a5 :: a6 :: a7 :: a8 :: a9 :: a10 :: a11 :: a12 :: a13 :: a14 :: a15 :: a16 :: a17 :: a18 :: a19 :: a20 :: some v :: t) H) : gName 21 v (a0 :: a1 :: a2 :: a3 :: a4 :: a5 :: a6 :: a7 :: a8 :: a9 :: a10 :: a11 :: a12 :: a13 :: a14 :: a15 :: a16 :: a17 :: a18 :: a19 :: a20 :: b :: t) H R := q
theorem gN22 {R : L2.St → Hp → Prop} {a0 a1 a2 a3 a4 a5 a6 a7 a8 a9 a10 a11 a12 a13 a14 a15 a16 a17 a18 a19 a20 a21 b : Option V} {v : V} {t : L2.St} (q : R (a0 :: a1 :: a2 :: a3 :: a4 :: a5 :: a6 :: a7 :: a8 :: a9 :: a10 :: a11 :: a12 :: a13 :: a14 :: a15 :: a16 :: a17 :: a18 :: a19 :: a20 :: a21 :: some v :: t) H) : gName 22 v (a0 :: a1 :: a2 :: a3 :: a4 :: a5 :: a6 :: a7 :: a8 :: a9 :: a10 :: a11 :: a12 :: a13 :: a14 :: a15 :: a16 :: a17 :: a18 :: a19 :: a20 :: a21 :: b :: t) H R := q
theorem gN23 {R : L2.St → Hp → Prop} {a0 a1 a2 a3 a4 a5 a6 a7 a8 a9 a10 a11 a12 a13 a14 a15 a16 a17 a18 a19 a20 a21 a22 b : Option V} {v : V} {t : L2.St} (q : R (a0 :: a1 :: a2 :: a3 :: a4 :: a5 :: a6 :: a7 :: a8 :: a9 :: a10 :: a11 :: a12 :: a13 :: a14 :: a15 :: a16 :: a17 :: a18 :: a19 :: a20 :: a21 :: a22 :: some v :: t) H) : gName 23 v (a0 :: a1 :: a2 :: a3 :: a4 :: a5 :: a6 :: a7 :: a8 :: a9 :: a10 :: a11 :: a12 :: a13 :: a14 :: a15 :: a16 :: a17 :: a18 :: a19 :: a20 :: a21 :: a22 :: b :: t) H R := q
theorem gN24 {R : L2.St → Hp → Prop} {a0 a1 a2 a3 a4 a5 a6 a7 a8 a9 a10 a11 a12 a13 a14 a15 a16 a17 a18 a19 a20 a21 a22 a23 b : Option V} {v : V} {t : L2.St} (q : R (a0 :: a1 :: a2 :: a3 :: a4 :: a5 :: a6 :: a7 :: a8 :: a9 :: a10 :: a11 :: a12 :: a13 :: a14 :: a15 :: a16 :: a17 :: a18 :: a19 :: a20 :: a21 :: a22 :: a23 :: some v :: t) H) : gName 24 v (a0 :: a1 :: a2 :: a3 :: a4 :: a5 :: a6 :: a7 :: a8 :: a9 :: a10 :: a11 :: a12 :: a13 :: a14 :: a15 :: a16 :: a17 :: a18 :: a19 :: a20 :: a21 :: a22 :: a23 :: b :: t) H R := q
theorem gN25 {R : L2.St → Hp → Prop} {a0 a1 a2 a3 a4 a5 a6 a7 a8 a9 a10 a11 a12 a13 a14 a15 a16 a17 a18 a19 a20 a21 a22 a23 a24 b : Option V} {v : V} {t : L2.St} (q : R (a0 :: a1 :: a2 :: a3 :: a4 :: a5 :: a6 :: a7 :: a8 :: a9 :: a10 :: a11 :: a12 :: a13 :: a14 :: a15 :: a16 :: a17 :: a18 :: a19 :: a20 :: a21 :: a22 :: a23 :: a24 :: some v :: t) H) : gName 25 v (a0 :: a1 :: a2 :: a3 :: a4 :: a5 :: a6 :: a7 :: a8 :: a9 :: a10 :: a11 :: a12 :: a13 :: a14 :: a15 :: a16 :: a17 :: a18 :: a19 :: a20 :: a21 :: a22 :: a23 :: a24 :: b :: t) H R := q
theorem gN26 {R : L2.St → Hp → Prop} {a0 a1 a2 a3 a4 a5 a6 a7 a8 a9 a10 a11 a12 a13 a14 a15 a16 a17 a18 a19 a20 a21 a22 a23 a24 a25 b : Option V} {v : V} {t : L2.St} (q : R (a0 :: a1 :: a2 :: a3 :: a4 :: a5 :: a6 :: a7 :: a8 :: a9 :: a10 :: a11 :: a12 :: a13 :: a14 :: a15 :: a16 :: a17 :: a18 :: a19 :: a20 :: a21 :: a22 :: a23 :: a24 :: a25 :: some v :: t) H) : gName 26 v (a0 :: a1 :: a2 :: a3 :: a4 :: a5 :: a6 :: a7 :: a8 :: a9 :: a10 :: a11 :: a12 :: a13 :: a14 :: a15 :: a16 :: a17 :: a18 :: a19 :: a20 :: a21 :: a22 :: a23 :: a24 :: a25 :: b :: t) H R := q
theorem gN27 {R : L2.St → Hp → Prop} {a0 a1 a2 a3 a4 a5 a6 a7 a8 a9 a10 a11 a12 a13 a14 a15 a16 a17 a18 a19 a20 a21 a22 a23 a24 a25 a26 b : Option V} {v : V} {t : L2.St} (q : R (a0 :: a1 :: a2 :: a3 :: a4 :: a5 :: a6 :: a7 :: a8 :: a9 :: a10 :: a11 :: a12 :: a13 :: a14 :: a15 :: a16 :: a17 :: a18 :: a19 :: a20 :: a21 :: a22 :: a23 :: a24 :: a25 :: a26 :: some v :: t) H) : gName 27 v (a0 :: a1 :: a2 :: a3 :: a4 :: a5 :: a6 :: a7 :: a8 :: a9 :: a10 :: a11 :: a12 :: a13 :: a14 :: a15 :: a16 :: a17 :: a18 :: a19 :: a20 :: a21 :: a22 :: a23 :: a24 :: a25 :: a26 :: b :: t) H R := q
theorem gN28 {R : L2.St → Hp → Prop} {a0 a1 a2 a3 a4 a5 a6 a7 a8 a9 a10 a11 a12 a13 a14 a15 a16 a17 a18 a19 a20 a21 a22 a23 a24 a25 a26 a27 b : Option V} {v : V} {t : L2.St} (q : R (a0 :: a1 :: a2 :: a3 :: a4 :: a5 :: a6 :: a7 :: a8 :: a9 :: a10 :: a11 :: a12 :: a13 :: a14 :: a15 :: a16 :: a17 :: a18 :: a19 :: a20 :: a21 :: a22 :: a23 :: a24 :: a25 :: a26 :: a27 :: some v :: t) H) : gName 28 v (a0 :: a1 :: a2 :: a3 :: a4 :: a5 :: a6 :: a7 :: a8 :: a9 :: a10 :: a11 :: a12 :: a13 :: a14 :: a15 :: a16 :: a17 :: a18 :: a19 :: a20 :: a21 :: a22 :: a23 :: a24 :: a25 :: a26 :: a27 :: b :: t) H R := q
theorem gN29 {R : L2.St → Hp → Prop} {a0 a1 a2 a3 a4 a5 a6 a7 a8 a9 a10 a11 a12 a13 a14 a15 a16 a17 a18 a19 a20 a21 a22 a23 a24 a25 a26 a27 a28 b : Option V} {v : V} {t : L2.St} (q : R (a0 :: a1 :: a2 :: a3 :: a4 :: a5 :: a6 :: a7 :: a8 :: a9 :: a10 :: a11 :: a12 :: a13 :: a14 :: a15 :: a16 :: a17 :: a18 :: a19 :: a20 :: a21 :: a22 :: a23 :: a24 :: a25 :: a26 :: a27 :: a28 :: some v :: t) H) : gName 29 v (a0 :: a1 :: a2 :: a3 :: a4 :: a5 :: a6 :: a7 :: a8 :: a9 :: a10 :: a11 :: a12 :: a13 :: a14 :: a15 :: a16 :: a17 :: a18 :: a19 :: a20 :: a21 :: a22 :: a23 :: a24 :: a25 :: a26 :: a27 :: a28 :: b :: t) H R := q
theorem op {r : R2} {ta tb : TE} (q : ta σ H fun x H1 => tb σ H1 fun y H2 => r x y H2 Q) : tOp r ta tb σ H Q := q
theorem un {r : V → Hp → VK → Prop} {ta : TE} (q : ta σ H fun x H1 => r x H1 Q) : tUn r ta σ H Q := q
theorem rU_ {g : Int → V} {i : Int} (q : Q (g i) H) : rU g (.int i) H Q := ⟨i, rfl, q⟩
theorem i0 {g : Int → Int → V} {i j : Int} (q : Q (g i j) H) : rI0 g (.int i) (.int j) H Q := ⟨i, j, rfl, rfl, q⟩
theorem nil {Q : List V → Hp → Prop} (q : Q [] H) : tNil σ H Q := q
theorem cons {ta : TE} {tr : TA} {Q : List V → Hp → Prop} (q : ta σ H fun x H1 => tr σ H1 fun xs H2 => Q (x :: xs) H2) : tCons ta tr σ H Q := q
theorem cst {v : V} (q : Q v H) : tC v σ H Q := q
theorem nopart {Q : Option Int → Hp → Prop} (q : Q none H) : tNoPart σ H Q := q
theorem part {t : TE} {Q : Option Int → Hp → Prop} (q : t σ H fun x H1 => ∃ i, x = .int i ∧ Q (some i) H1) : tPart t σ H Q := q
theorem part2 {i : Int} {Q : Option Int → Hp → Prop} (q : Q (some i) H) : ∃ j, V.int i = .int j ∧ Q (some j) H := ⟨i, rfl, q⟩
theorem nxt {D : Ends} (q : D.nx σ H) : tNext D σ H := q
theorem seq {D : Ends} {t u : TS} (q : t { D with nx := u D } σ H) : tSeq t u D σ H := q
theorem drop {D : Ends} {te : TE} (q : te σ H fun _ H1 => D.nx σ H1) : tDrop te D σ H := q
theorem ret {D : Ends} {te : TE} (q : te σ H D.rt) : tRet te D σ H := q
theorem retN {D : Ends} (q : D.rt .non H) : tRetN D σ H := q
theorem brk {D : Ends} (q : D.bk σ H) : tBreak D σ H := q
theorem cnt {D : Ends} (q : D.ct σ H) : tCont D σ H := q
theorem ifs {D : Ends} {c : TT} {t u : TS} (q : c σ H fun b H1 => if b = true then t D σ H1 else u D σ H1) : tIfS c t u D σ H := q
theorem asg {D : Ends} {te : TE} {g : TG} (q : te σ H fun x H1 => g x σ H1 D.nx) : tAsg te g D σ H := q
theorem test {t : TE} {Q : Bool → Hp → Prop} (q : t σ H fun x H1 => ∃ k, x = .bl k ∧ Q k H1) : tTest t σ H Q := q
theorem tb {t : TE} {Q : Bool → Hp → Prop} (q : t σ H fun x H1 => ∃ k, x = .bl k ∧ Q k H1) : tB t σ H Q := q
theorem bl {k : Bool} {Q : Bool → Hp → Prop} (q : Q k H) : ∃ c, V.bl k = .bl c ∧ Q c H := ⟨k, rfl, q⟩
theorem blif {k : Bool} {Q R : Prop} (q : if k = true then Q else R) : ∃ c, V.bl k = .bl c ∧ if c = true then Q else R := ⟨k, rfl, q⟩
theorem ift {Q R : Prop} (q : Q) : if true = true then Q else R := q
theorem iff {Q R : Prop} (q : R) : if false = true then Q else R := q
theorem and_ {t u : TT} {Q : Bool → Hp → Prop} (q : t σ H fun c H1 => if c = true then u σ H1 Q else Q false H1) : tAnd t u σ H Q := q
theorem or_ {t u : TT} {Q : Bool → Hp → Prop} (q : t σ H fun c H1 => if c = true then Q true H1 else u σ H1 Q) : tOr t u σ H Q := q
theorem not_ {t : TT} {Q : Bool → Hp → Prop} (q : t σ H fun c H1 => Q (!c) H1) : tNot t σ H Q := q
theorem andv {ta tb : TE} (q : ta σ H fun x H1 => ∃ c, x = .bl c ∧ if c = true then tb σ H1 Q else Q (.bl false) H1) : tAndV ta tb σ H Q := q
theorem orv {ta tb : TE} (q : ta σ H fun x H1 => ∃ c, x = .bl c ∧ if c = true then Q (.bl true) H1 else tb σ H1 Q) : tOrV ta tb σ H Q := q
theorem notv {ta : TE} (q : ta σ H fun x H1 => ∃ c, x = .bl c ∧ Q (.bl (!c)) H1) : tNotV ta σ H Q := q
theorem notv2 {k : Bool} (q : Q (.bl (!k)) H) : ∃ c, V.bl k = .bl c ∧ Q (.bl (!c)) H := ⟨k, rfl, q⟩
theorem if_ {t : TT} {ta tb : TE} (q : t σ H fun c H1 => if c = true then ta σ H1 Q else tb σ H1 Q) : tIf t ta tb σ H Q := q
theorem yes {Q : Bool → Hp → Prop} (q : Q true H) : tYes σ H Q := q
theorem bm0 {K : PySem.W.Frag} {T : String} {r : V → List V → Hp → VK → Prop} {to : TE} (q : to σ H fun x H1 => tyV K T x H1 ∧ r x [] H1 Q) : tBM0 K T r to σ H Q := q
theorem bm {K : PySem.W.Frag} {T : String} {r : V → List V → Hp → VK → Prop} {to : TE} {t : TA} (q : to σ H fun x H1 => tyV K T x H1 ∧ t σ H1 fun xs H2 => r x xs H2 Q) : tBM K T r to t σ H Q := q
theorem sl {r : V → Option Int → Option Int → Hp → VK → Prop} {te : TE} {tl th : TO} (q : te σ H fun x H1 => tl σ H1 fun l H2 => th σ H2 fun u H3 => r x l u H3 Q) : tSl r te tl th σ H Q := q
theorem cal {sp : Sp} {t : TA} (q : t σ H fun vs H1 => sp vs H1 Q L2.E0) : tCal sp t σ H Q := q
theorem cb {r : List V → Hp → VK → Prop} {t : TA} (q : t σ H fun vs H1 => r vs H1 Q) : tCB r t σ H Q := q
theorem gnil {R : L2.St → Hp → Prop} (q : R σ H) : gNil [] σ H R := ⟨rfl, q⟩
theorem gcons {t : TG} {u : TGs} {v : V} {r : List V} {R : L2.St → Hp → Prop} (q : t v σ H fun σ2 H2 => u r σ2 H2 R) : gCons t u (v :: r) σ H R := ⟨v, r, rfl, q⟩
theorem gsub {to ti : TE} {t : TSet} {v : V} {R : L2.St → Hp → Prop} (q : to σ H fun o H1 => ti σ H1 fun i H2 => t o i v H2 fun H3 => R σ H3) : gSub to ti t v σ H R := q
theorem rng1 {ta : TA} {R : It → Hp → Prop} (q : ta σ H fun vs H1 => ∃ j : Int, vs = [.int j] ∧ -(2 ^ 62) ≤ j ∧ j < 2 ^ 62 ∧ R (Itr 0 j.toNat) H1) : iRng1 ta σ H R := q
theorem rng1b {j : Int} {R : It → Hp → Prop} (q : -(2 ^ 62) ≤ j ∧ j < 2 ^ 62 ∧ R (Itr 0 j.toNat) H) : ∃ i : Int, [V.int j] = [.int i] ∧ -(2 ^ 62) ≤ i ∧ i < 2 ^ 62 ∧ R (Itr 0 i.toNat) H := ⟨j, rfl, q⟩
theorem zip_ {K : PySem.W.Frag} {ta : TA} {R : It → Hp → Prop} (q : ta σ H fun vs H1 => ∃ a b xs ys, vs = [.ref a, .ref b] ∧ SqL K H1 a xs ∧ SqL K H1 b ys ∧ R (Itz K a b) H1) : iZip K ta σ H R := q
theorem ilist {K : PySem.W.Frag} {tl : TE} {R : It → Hp → Prop} (q : tl σ H fun x H1 => ∃ a, x = .ref a ∧ (∃ xs, SqL K H1 a xs) ∧ R (Itl K a) H1) : iList K tl σ H R := q
theorem itup {K : PySem.W.Frag} {tl : TE} {R : It → Hp → Prop} (q : tl σ H fun x H1 => ∃ a, x = .ref a ∧ (∃ xs, SqT K H1 a xs) ∧ R (Itt K a) H1) : iTup K tl σ H R := q
theorem lc {wi : TI} {g : TG} {tt : TT} {te : TE} {vs : List Nat} (q : wi σ H fun J H1 => ∀ D, H1 D = none → ∃ W : Nat → Nat → Hp → Prop, (∃ m, W 0 m (upd H1 D (.lst []))) ∧ ∀ i m H, W i m H → (J.stop i H ∧ Q (.ref D) H) ∨ (J.go i H ∧ ∃ Nx : Hp → Prop, (∀ H', Nx H' → ∃ m', m' < m ∧ W (i + 1) m' H') ∧ ∀ x H', J.yld i H x H' → g x (wipe σ vs) H' fun σ2 H2 => wipe σ2 vs = wipe σ vs ∧ tt σ2 H2 fun b H3 => if b = true then te σ2 H3 fun y H4 => ∃ acc, H4 D = some (.lst acc) ∧ acc.length < sizeLine ∧ Nx (upd H4 D (.lst (acc ++ [y]))) else Nx H3)) : tLc wi g tt te vs σ H Q := q
theorem eq_i {i j : Int} (q : Q (.bl (decide (V.int i = V.int j))) H) : rEq (.int i) (.int j) H Q := ⟨rfl, q⟩
theorem ne_i {i j : Int} (q : Q (.bl (!decide (V.int i = V.int j))) H) : rNe (.int i) (.int j) H Q := ⟨rfl, q⟩
theorem i1 {C : Int → Int → Prop} {g : Int → Int → V} {i j : Int} (hc : C i j) (q : Q (g i j) H) : rI C g (.int i) (.int j) H Q := ⟨i, j, rfl, rfl, hc, q⟩
theorem tup {t : TA} (q : t σ H fun xs H1 => xs.length ≤ sizeLine ∧ ∀ p, H1 p = none → Q (.ref p) (upd H1 p (.tup xs))) : tTup t σ H Q := q
theorem lst {t : TA} (q : t σ H fun xs H1 => xs.length ≤ sizeLine ∧ ∀ p, H1 p = none → Q (.ref p) (upd H1 p (.lst xs))) : tLst t σ H Q := q
theorem par {D : Ends} {i j : Nat} {ta : TA} (q : ta σ H fun vs H1 => ∃ v w, vs = [v, w] ∧ gName i v σ H1 fun σ1 H2 => gName j w σ1 H2 D.nx) : tPar i j ta D σ H := q
theorem ex1 {i : Int} {R : Int → Prop} (q : R i) : ∃ j, [V.int i] = [V.int j] ∧ R j := ⟨i, rfl, q⟩
theorem exI {i : Int} {R : Int → Prop} (q : R i) : ∃ j, V.int i = V.int j ∧ R j := ⟨i, rfl, q⟩
theorem exB {k : Bool} {R : Bool → Prop} (q : R k) : ∃ c, V.bl k = V.bl c ∧ R c := ⟨k, rfl, q⟩
theorem par2 {v w : V} {R : V → V → Prop} (q : R v w) : ∃ v2 w2, [v, w] = [v2, w2] ∧ R v2 w2 := ⟨v, w, rfl, q⟩
theorem aug {D : Ends} {i : Nat} {te : TE} {ti : TIp} (q : ∃ x, σ[i]? = some (some x) ∧ te σ H fun y H1 => ti x y H1 fun z H2 => gName i z σ H2 D.nx) : tAug i te ti D σ H := q
theorem for_ {D : Ends} {wi : TI} {g : TG} {tb : TS} (q : wi σ H fun J H1 => ∃ W : Nat → Nat → L2.St → Hp → Prop, (∃ m, W 0 m σ H1) ∧ ∀ i m σ H, W i m σ H →   (J.stop i H ∧ D.nx σ H) ∨ (J.go i H ∧ ∃ N : L2.St → Hp → Prop, (∀ σ' H', N σ' H' → ∃ m', m' < m ∧ W (i + 1) m' σ' H') ∧ ∀ x H', J.yld i H x H' → g x σ H' fun σ2 H2 => tb { D with nx := N, ct := N, bk := D.nx } σ2 H2)) : tFor wi g tb D σ H := q
theorem nift {Q R : Prop} (q : R) : if (!true) = true then Q else R := q
theorem niff {Q R : Prop} (q : Q) : if (!false) = true then Q else R := q
end WK
end RR

namespace RR
open PySem PySem.Spec PyProof.Rows L2
def topS (i : Nat) : Stmt := PySem.Challenge.pw_runroots_k41_numbers_that_force_the_inde.main.body.getD i (.Pass ⟨0, 0, 0, 0⟩)
abbrev s__law_pairs : Stmt := topS 40
theorem st__law_pairs {v0 v1 : V} : L2.start ["a", "count", "found", "k", "one", "two"] [v0, v1] = [some v0, some v1, none, none, none, none] := rfl
theorem sc__law_pairs : FnScope ["a", "count", "found", "k", "one", "two"] ["a", "count"] (defScope s__law_pairs) := ⟨rfl, rfl, rfl, by decide +kernel, rfl, by decide +kernel, by decide +kernel⟩
abbrev s__law_base : Stmt := topS 41
theorem st__law_base {v0 v1 v2 : V} : L2.start ["a", "y", "u", "b", "k"] [v0, v1, v2] = [some v0, some v1, some v2, none, none] := rfl
theorem sc__law_base : FnScope ["a", "y", "u", "b", "k"] ["a", "y", "u"] (defScope s__law_base) := ⟨rfl, rfl, rfl, by decide +kernel, rfl, by decide +kernel, by decide +kernel⟩
abbrev s__law_due : Stmt := topS 42
theorem st__law_due {v0 v1 : V} : L2.start ["k", "a", "pairs", "x", "y", "one", "two", "j", "u", "v", "b", "s", "t"] [v0, v1] = [some v0, some v1, none, none, none, none, none, none, none, none, none, none, none] := rfl
theorem sc__law_due : FnScope ["k", "a", "pairs", "x", "y", "one", "two", "j", "u", "v", "b", "s", "t"] ["k", "a"] (defScope s__law_due) := ⟨rfl, rfl, rfl, by decide +kernel, rfl, by decide +kernel, by decide +kernel⟩
abbrev s__doubled : Stmt := topS 6
theorem st__doubled {v0 v1 : V} : L2.start ["x", "y"] [v0, v1] = [some v0, some v1] := rfl
theorem sc__doubled : FnScope ["x", "y"] ["x", "y"] (defScope s__doubled) := ⟨rfl, rfl, rfl, by decide +kernel, rfl, by decide +kernel, by decide +kernel⟩
abbrev s__next : Stmt := topS 7
theorem st__next {v0 v1 v2 : V} : L2.start ["x", "y", "a"] [v0, v1, v2] = [some v0, some v1, some v2] := rfl
theorem sc__next : FnScope ["x", "y", "a"] ["x", "y", "a"] (defScope s__next) := ⟨rfl, rfl, rfl, by decide +kernel, rfl, by decide +kernel, by decide +kernel⟩
abbrev s_pair : Stmt := topS 5
theorem st_pair {v0 v1 : V} : L2.start ["n", "a", "x", "y", "digit"] [v0, v1] = [some v0, some v1, none, none, none] := rfl
theorem sc_pair : FnScope ["n", "a", "x", "y", "digit"] ["n", "a"] (defScope s_pair) := ⟨rfl, rfl, rfl, by decide +kernel, rfl, by decide +kernel, by decide +kernel⟩
abbrev s__three_pairs : Stmt := topS 31
theorem st__three_pairs {v0 v1 : V} : L2.start ["k", "a", "x", "y", "u", "v", "q", "b"] [v0, v1] = [some v0, some v1, none, none, none, none, none, none] := rfl
theorem sc__three_pairs : FnScope ["k", "a", "x", "y", "u", "v", "q", "b"] ["k", "a"] (defScope s__three_pairs) := ⟨rfl, rfl, rfl, by decide +kernel, rfl, by decide +kernel, by decide +kernel⟩
abbrev s_witnesses : Stmt := topS 30
theorem st_witnesses {v0 v1 : V} : L2.start ["k", "a", "x", "y", "u", "v", "s", "t", "b"] [v0, v1] = [some v0, some v1, none, none, none, none, none, none, none] := rfl
theorem sc_witnesses : FnScope ["k", "a", "x", "y", "u", "v", "s", "t", "b"] ["k", "a"] (defScope s_witnesses) := ⟨rfl, rfl, rfl, by decide +kernel, rfl, by decide +kernel, by decide +kernel⟩
abbrev s_unknown : Stmt := topS 10
theorem st_unknown {v0 : V} : L2.start ["name"] [v0] = [some v0] := rfl
theorem sc_unknown : FnScope ["name"] ["name"] (defScope s_unknown) := ⟨rfl, rfl, rfl, by decide +kernel, rfl, by decide +kernel, by decide +kernel⟩
abbrev s_row_member : Stmt := topS 23
theorem st_row_member {v0 v1 : V} : L2.start ["n", "a", "before", "here", "place", "below", "twice"] [v0, v1] = [some v0, some v1, none, none, none, none, none] := rfl
theorem sc_row_member : FnScope ["n", "a", "before", "here", "place", "below", "twice"] ["n", "a"] (defScope s_row_member) := ⟨rfl, rfl, rfl, by decide +kernel, rfl, by decide +kernel, by decide +kernel⟩
abbrev s__holds_row : Stmt := topS 27
theorem st__holds_row {v0 v1 v2 : V} : L2.start ["y", "n", "a"] [v0, v1, v2] = [some v0, some v1, some v2] := rfl
theorem sc__holds_row : FnScope ["y", "n", "a"] ["y", "n", "a"] (defScope s__holds_row) := ⟨rfl, rfl, rfl, by decide +kernel, rfl, by decide +kernel, by decide +kernel⟩
abbrev s_value_of : Stmt := topS 17
theorem st_value_of {v0 v1 : V} : L2.start ["polynomial", "values", "total", "monomial", "number", "term", "name"] [v0, v1] = [some v0, some v1, none, none, none, none, none] := rfl
theorem sc_value_of : FnScope ["polynomial", "values", "total", "monomial", "number", "term", "name"] ["polynomial", "values"] (defScope s_value_of) := ⟨rfl, rfl, rfl, by decide +kernel, rfl, by decide +kernel, by decide +kernel⟩
abbrev s__holds_under : Stmt := topS 25
theorem st__holds_under {v0 v1 : V} : L2.start ["a", "b"] [v0, v1] = [some v0, some v1] := rfl
theorem sc__holds_under : FnScope ["a", "b"] ["a", "b"] (defScope s__holds_under) := ⟨rfl, rfl, rfl, by decide +kernel, rfl, by decide +kernel, by decide +kernel⟩
abbrev s_raised : Stmt := topS 3
theorem st_raised {v0 v1 : V} : L2.start ["base", "exponent", "answer", "place"] [v0, v1] = [some v0, some v1, none, none] := rfl
theorem sc_raised : FnScope ["base", "exponent", "answer", "place"] ["base", "exponent"] (defScope s_raised) := ⟨rfl, rfl, rfl, by decide +kernel, rfl, by decide +kernel, by decide +kernel⟩
abbrev s__holds_power : Stmt := topS 26
theorem st__holds_power {v0 v1 v2 : V} : L2.start ["z", "x", "y"] [v0, v1, v2] = [some v0, some v1, some v2] := rfl
theorem sc__holds_power : FnScope ["z", "x", "y"] ["z", "x", "y"] (defScope s__holds_power) := ⟨rfl, rfl, rfl, by decide +kernel, rfl, by decide +kernel, by decide +kernel⟩
abbrev s_holds : Stmt := topS 24
theorem st_holds {v0 v1 : V} : L2.start ["relation", "values", "word", "numbers", "polynomial"] [v0, v1] = [some v0, some v1, none, none, none] := rfl
theorem sc_holds : FnScope ["relation", "values", "word", "numbers", "polynomial"] ["relation", "values"] (defScope s_holds) := ⟨rfl, rfl, rfl, by decide +kernel, rfl, by decide +kernel, by decide +kernel⟩
abbrev s_is_number : Stmt := topS 1
theorem st_is_number {v0 : V} : L2.start ["value"] [v0] = [some v0] := rfl
theorem sc_is_number : FnScope ["value"] ["value"] (defScope s_is_number) := ⟨rfl, rfl, rfl, by decide +kernel, rfl, by decide +kernel, by decide +kernel⟩
abbrev s_is_natural : Stmt := topS 2
theorem st_is_natural {v0 : V} : L2.start ["value"] [v0] = [some v0] := rfl
theorem sc_is_natural : FnScope ["value"] ["value"] (defScope s_is_natural) := ⟨rfl, rfl, rfl, by decide +kernel, rfl, by decide +kernel, by decide +kernel⟩
abbrev s__without_zeros : Stmt := topS 19
theorem st__without_zeros {v0 : V} : L2.start ["sums", "monomial"] [v0] = [some v0, none] := rfl
theorem sc__without_zeros : FnScope ["sums", "monomial"] ["sums"] (defScope s__without_zeros) := ⟨rfl, rfl, rfl, by decide +kernel, rfl, by decide +kernel, by decide +kernel⟩
abbrev s_constant : Stmt := topS 9
theorem st_constant {v0 : V} : L2.start ["number"] [v0] = [some v0] := rfl
theorem sc_constant : FnScope ["number"] ["number"] (defScope s_constant) := ⟨rfl, rfl, rfl, by decide +kernel, rfl, by decide +kernel, by decide +kernel⟩
abbrev s_scaled : Stmt := topS 15
theorem st_scaled {v0 v1 : V} : L2.start ["polynomial", "number", "monomial"] [v0, v1] = [some v0, some v1, none] := rfl
theorem sc_scaled : FnScope ["polynomial", "number", "monomial"] ["polynomial", "number"] (defScope s_scaled) := ⟨rfl, rfl, rfl, by decide +kernel, rfl, by decide +kernel, by decide +kernel⟩
abbrev s_collected : Stmt := topS 11
theorem st_collected {v0 : V} : L2.start ["terms", "sums", "monomial", "number"] [v0] = [some v0, none, none, none] := rfl
theorem sc_collected : FnScope ["terms", "sums", "monomial", "number"] ["terms"] (defScope s_collected) := ⟨rfl, rfl, rfl, by decide +kernel, rfl, by decide +kernel, by decide +kernel⟩
abbrev s_sum_of : Stmt := topS 12
theorem st_sum_of {v0 : V} : L2.start ["polynomials", "polynomial", "term"] [v0] = [some v0, none, none] := rfl
theorem sc_sum_of : FnScope ["polynomials", "polynomial", "term"] ["polynomials"] (defScope s_sum_of) := ⟨rfl, rfl, rfl, by decide +kernel, rfl, by decide +kernel, by decide +kernel⟩
abbrev s_plus : Stmt := topS 13
theorem st_plus {v0 v1 : V} : L2.start ["first", "second"] [v0, v1] = [some v0, some v1] := rfl
theorem sc_plus : FnScope ["first", "second"] ["first", "second"] (defScope s_plus) := ⟨rfl, rfl, rfl, by decide +kernel, rfl, by decide +kernel, by decide +kernel⟩
abbrev s_minus : Stmt := topS 14
theorem st_minus {v0 v1 : V} : L2.start ["first", "second"] [v0, v1] = [some v0, some v1] := rfl
theorem sc_minus : FnScope ["first", "second"] ["first", "second"] (defScope s_minus) := ⟨rfl, rfl, rfl, by decide +kernel, rfl, by decide +kernel, by decide +kernel⟩
abbrev s_equal : Stmt := topS 21
theorem st_equal {v0 v1 : V} : L2.start ["first", "second"] [v0, v1] = [some v0, some v1] := rfl
theorem sc_equal : FnScope ["first", "second"] ["first", "second"] (defScope s_equal) := ⟨rfl, rfl, rfl, by decide +kernel, rfl, by decide +kernel, by decide +kernel⟩
abbrev s__merged : Stmt := topS 18
theorem st__merged {v0 v1 : V} : L2.start ["first", "second"] [v0, v1] = [some v0, some v1] := rfl
theorem sc__merged : FnScope ["first", "second"] ["first", "second"] (defScope s__merged) := ⟨rfl, rfl, rfl, by decide +kernel, rfl, by decide +kernel, by decide +kernel⟩
abbrev s_times : Stmt := topS 16
theorem st_times {v0 v1 : V} : L2.start ["first", "second", "left", "number", "right", "factor"] [v0, v1] = [some v0, some v1, none, none, none, none] := rfl
theorem sc_times : FnScope ["first", "second", "left", "number", "right", "factor"] ["first", "second"] (defScope s_times) := ⟨rfl, rfl, rfl, by decide +kernel, rfl, by decide +kernel, by decide +kernel⟩
abbrev s_one_apart : Stmt := topS 22
theorem st_one_apart {v0 v1 v2 : V} : L2.start ["x", "y", "a", "one"] [v0, v1, v2] = [some v0, some v1, some v2, none] := rfl
theorem sc_one_apart : FnScope ["x", "y", "a", "one"] ["x", "y", "a"] (defScope s_one_apart) := ⟨rfl, rfl, rfl, by decide +kernel, rfl, by decide +kernel, by decide +kernel⟩
abbrev s_index_equations : Stmt := topS 33
theorem st_index_equations {v0 v1 v2 : V} : L2.start ["k", "a", "numbers", "x", "y", "u", "v", "s", "t", "b", "r", "p", "q", "c", "d", "e", "one", "fourfold", "name"] [v0, v1, v2] = [some v0, some v1, some v2, none, none, none, none, none, none, none, none, none, none, none, none, none, none, none, none] := rfl
theorem sc_index_equations : FnScope ["k", "a", "numbers", "x", "y", "u", "v", "s", "t", "b", "r", "p", "q", "c", "d", "e", "one", "fourfold", "name"] ["k", "a", "numbers"] (defScope s_index_equations) := ⟨rfl, rfl, rfl, by decide +kernel, rfl, by decide +kernel, by decide +kernel⟩
abbrev s_is_witness : Stmt := topS 32
theorem st_is_witness {v0 v1 v2 : V} : L2.start ["k", "a", "values", "numbers", "name", "relation"] [v0, v1, v2] = [some v0, some v1, some v2, none, none, none] := rfl
theorem sc_is_witness : FnScope ["k", "a", "values", "numbers", "name", "relation"] ["k", "a", "values"] (defScope s_is_witness) := ⟨rfl, rfl, rfl, by decide +kernel, rfl, by decide +kernel, by decide +kernel⟩
abbrev s_digits_needed : Stmt := topS 34
theorem st_digits_needed {v0 v1 : V} : L2.start ["k", "a", "_", "u", "s", "greatest", "count", "power"] [v0, v1] = [some v0, some v1, none, none, none, none, none, none] := rfl
theorem sc_digits_needed : FnScope ["k", "a", "_", "u", "s", "greatest", "count", "power"] ["k", "a"] (defScope s_digits_needed) := ⟨rfl, rfl, rfl, by decide +kernel, rfl, by decide +kernel, by decide +kernel⟩
abbrev s__law_is_integer : Stmt := topS 36
theorem st__law_is_integer {v0 : V} : L2.start ["actual"] [v0] = [some v0] := rfl
theorem sc__law_is_integer : FnScope ["actual"] ["actual"] (defScope s__law_is_integer) := ⟨rfl, rfl, rfl, by decide +kernel, rfl, by decide +kernel, by decide +kernel⟩
abbrev s__law_has_figures : Stmt := topS 44
theorem st__law_has_figures {v0 v1 : V} : L2.start ["number", "count", "bound", "k"] [v0, v1] = [some v0, some v1, none, none] := rfl
theorem sc__law_has_figures : FnScope ["number", "count", "bound", "k"] ["number", "count"] (defScope s__law_has_figures) := ⟨rfl, rfl, rfl, by decide +kernel, rfl, by decide +kernel, by decide +kernel⟩
abbrev s__law_cell : Stmt := topS 37
theorem st__law_cell {v0 v1 : V} : L2.start ["script", "k"] [v0, v1] = [some v0, some v1] := rfl
theorem sc__law_cell : FnScope ["script", "k"] ["script", "k"] (defScope s__law_cell) := ⟨rfl, rfl, rfl, by decide +kernel, rfl, by decide +kernel, by decide +kernel⟩
abbrev s__law_holds : Stmt := topS 43
theorem st__law_holds {v0 v1 v2 : V} : L2.start ["k", "a", "n", "rows"] [v0, v1, v2] = [some v0, some v1, some v2, none] := rfl
theorem sc__law_holds : FnScope ["k", "a", "n", "rows"] ["k", "a", "n"] (defScope s__law_holds) := ⟨rfl, rfl, rfl, by decide +kernel, rfl, by decide +kernel, by decide +kernel⟩
abbrev s_law : Stmt := topS 45
theorem st_law {v0 : V} : L2.start ["script", "number", "k", "a", "due", "found", "name", "names", "other", "told", "bad", "more", "spoilt", "swapped", "greatest", "one"] [v0] = [some v0, none, none, none, none, none, none, none, none, none, none, none, none, none, none, none] := rfl
theorem sc_law : FnScope ["script", "number", "k", "a", "due", "found", "name", "names", "other", "told", "bad", "more", "spoilt", "swapped", "greatest", "one"] ["script"] (defScope s_law) := ⟨rfl, rfl, rfl, by decide +kernel, rfl, by decide +kernel, by decide +kernel⟩
local macro_rules | `(tactic| walk_at "sm") => `(tactic| first
  | assumption
  | exact Sm.lit (k := 64)
  | (refine' Sm.mul ?h1 ?h2; (case h1 => walk_at "sm"); (case h2 => walk_at "sm"))
  | (refine' Sm.ad ?h1 ?h2; (case h1 => walk_at "sm"); (case h2 => walk_at "sm"))
  | (refine' Sm.sb ?h1 ?h2; (case h1 => walk_at "sm"); (case h2 => walk_at "sm"))
  | (refine' Sm.neg ?h1; (case h1 => walk_at "sm"))
  | fail "sm")
local macro_rules | `(tactic| walk_at "rd") => `(tactic| repeat' first
  | (refine ⟨_, rfl, ?_⟩)
  | (refine ⟨_, _, rfl, rfl, ?_⟩)
  | (with_reducible refine tC_go ?_)
  | (with_reducible refine tNil_go ?_)
  | (with_reducible refine tNoPart_go ?_)
  | (with_reducible refine gTup_new (by with_unfolding_all rfl) ?_)
  | (with_reducible refine gTup_as (by first | exact sq_of (by assumption) | with_unfolding_all assumption) (by with_unfolding_all rfl) ?_)
  | (with_reducible refine ixT_new (by with_unfolding_all rfl) ?_)
  | (with_reducible refine ixT_as (by first | exact sq_of (by assumption) | with_unfolding_all assumption) (by with_unfolding_all rfl) ?_)
  | (refine ⟨_, _, (rfl : _ :: _ = _ :: _), ?_⟩)
  | (refine ⟨_, _, _, (rfl : _ :: _ = _ :: _), ?_⟩)
  | (refine ⟨rfl, ?_⟩)
  | (show _ ∧ _; refine And.intro (by omega) ?_)
  | ((with_reducible show CMulX _ _ ∧ _); refine And.intro (Sm.mx (by walk_at "sm") (by walk_at "sm") (by omega)) ?_)
  | ((with_reducible show CPow _ _ ∧ _); refine And.intro ⟨by decide, by decide, by decide⟩ ?_)
  | ((with_reducible show CDivW _ _ ∧ _); refine And.intro ⟨by first | omega | decide, by decide⟩ ?_)
  | (show _ ∧ _; refine And.intro (by assumption) ?_)
  | (show _ ∧ _; refine And.intro (Nat.le_of_ble_eq_true rfl) ?_)
  | ((with_reducible show tyV _ "list" _ _ ∧ _); refine And.intro (.inl ⟨rfl, _, .inl (.inl (by assumption))⟩) ?_)
  | fail "rd")
local macro_rules | `(tactic| walk_at "wk") => `(tactic| repeat' first
  | (with_reducible refine WK.op ?_)
  | (with_reducible refine WK.un ?_)
  | (with_reducible refine WK.rU_ ?_)
  | (with_reducible refine WK.i0 ?_)
  | (with_reducible refine WK.nil ?_)
  | (with_reducible refine WK.cons ?_)
  | (with_reducible refine WK.cst ?_)
  | (with_reducible refine WK.nopart ?_)
  | (with_reducible refine WK.part ?_)
  | (with_reducible refine WK.part2 ?_)
  | (with_reducible refine WK.nxt ?_)
  | (with_reducible refine WK.seq ?_)
  | (with_reducible refine WK.drop ?_)
  | (with_reducible refine WK.ret ?_)
  | (with_reducible refine WK.retN ?_)
  | (with_reducible refine WK.brk ?_)
  | (with_reducible refine WK.cnt ?_)
  | (with_reducible refine WK.ifs ?_)
  | (with_reducible refine WK.asg ?_)
  | (with_reducible refine WK.test ?_)
  | (with_reducible refine WK.tb ?_)
  | (with_reducible refine WK.bl ?_)
  | (with_reducible refine WK.blif ?_)
  | (with_reducible refine WK.ift ?_)
  | (with_reducible refine WK.iff ?_)
  | (with_reducible refine WK.nift ?_)
  | (with_reducible refine WK.niff ?_)
  | (with_reducible refine WK.and_ ?_)
  | (with_reducible refine WK.or_ ?_)
  | (with_reducible refine WK.not_ ?_)
  | (with_reducible refine WK.andv ?_)
  | (with_reducible refine WK.orv ?_)
  | (with_reducible refine WK.notv ?_)
  | (with_reducible refine WK.notv2 ?_)
  | (with_reducible refine WK.if_ ?_)
  | (with_reducible refine WK.yes ?_)
  | (with_reducible refine WK.bm0 ?_)
  | (with_reducible refine WK.bm ?_)
  | (with_reducible refine WK.sl ?_)
  | (with_reducible refine WK.cal ?_)
  | (with_reducible refine WK.cb ?_)
  | (with_reducible refine WK.gnil ?_)
  | (with_reducible refine WK.gcons ?_)
  | (with_reducible refine WK.gsub ?_)
  | (with_reducible refine WK.rng1 ?_)
  | (with_reducible refine WK.rng1b ?_)
  | (with_reducible refine WK.zip_ ?_)
  | (with_reducible refine WK.ilist ?_)
  | (with_reducible refine WK.itup ?_)
  | (with_reducible refine WK.lc ?_)
  | (with_reducible refine WK.eq_i ?_)
  | (with_reducible refine WK.ne_i ?_)
  | (with_reducible refine WK.tup ?_)
  | (with_reducible refine WK.lst ?_)
  | (with_reducible refine WK.par ?_)
  | (with_reducible refine WK.par2 ?_)
  | (with_reducible refine WK.for_ ?_)
  | (with_reducible refine WK.aug ?_)
  | (with_reducible refine WK.ex1 ?_)
  | (with_reducible refine WK.exI ?_)
  | (with_reducible refine WK.exB ?_)
  | (with_reducible show CMulX _ _); exact Sm.mx (by walk_at "sm") (by walk_at "sm") (by omega)
  | (with_reducible refine WK.tV0 ?_)
  | (with_reducible refine WK.tV1 ?_)
  | (with_reducible refine WK.tV2 ?_)
  | (with_reducible refine WK.tV3 ?_)
  | (with_reducible refine WK.tV4 ?_)
  | (with_reducible refine WK.tV5 ?_)
  | (with_reducible refine WK.tV6 ?_)
  | (with_reducible refine WK.tV7 ?_)
  | (with_reducible refine WK.tV8 ?_)
  | (with_reducible refine WK.tV9 ?_)
  | (with_reducible refine WK.tV10 ?_)
  | (with_reducible refine WK.tV11 ?_)
  | (with_reducible refine WK.tV12 ?_)
  | (with_reducible refine WK.tV13 ?_)
  | (with_reducible refine WK.tV14 ?_)
  | (with_reducible refine WK.tV15 ?_)
  | (with_reducible refine WK.tV16 ?_)
  | (with_reducible refine WK.tV17 ?_)
  | (with_reducible refine WK.tV18 ?_)
  | (with_reducible refine WK.tV19 ?_)
  | (with_reducible refine WK.tV20 ?_)
  | (with_reducible refine WK.tV21 ?_)
  | (with_reducible refine WK.tV22 ?_)
  | (with_reducible refine WK.tV23 ?_)
  | (with_reducible refine WK.tV24 ?_)
  | (with_reducible refine WK.tV25 ?_)
  | (with_reducible refine WK.tV26 ?_)
  | (with_reducible refine WK.tV27 ?_)
  | (with_reducible refine WK.tV28 ?_)
  | (with_reducible refine WK.tV29 ?_)
  | (with_reducible refine WK.gN0 ?_)
  | (with_reducible refine WK.gN1 ?_)
  | (with_reducible refine WK.gN2 ?_)
  | (with_reducible refine WK.gN3 ?_)
  | (with_reducible refine WK.gN4 ?_)
  | (with_reducible refine WK.gN5 ?_)
  | (with_reducible refine WK.gN6 ?_)
  | (with_reducible refine WK.gN7 ?_)
  | (with_reducible refine WK.gN8 ?_)
  | (with_reducible refine WK.gN9 ?_)
  | (with_reducible refine WK.gN10 ?_)
  | (with_reducible refine WK.gN11 ?_)
  | (with_reducible refine WK.gN12 ?_)
  | (with_reducible refine WK.gN13 ?_)
  | (with_reducible refine WK.gN14 ?_)
  | (with_reducible refine WK.gN15 ?_)
  | (with_reducible refine WK.gN16 ?_)
  | (with_reducible refine WK.gN17 ?_)
  | (with_reducible refine WK.gN18 ?_)
  | (with_reducible refine WK.gN19 ?_)
  | (with_reducible refine WK.gN20 ?_)
  | (with_reducible refine WK.gN21 ?_)
  | (with_reducible refine WK.gN22 ?_)
  | (with_reducible refine WK.gN23 ?_)
  | (with_reducible refine WK.gN24 ?_)
  | (with_reducible refine WK.gN25 ?_)
  | (with_reducible refine WK.gN26 ?_)
  | (with_reducible refine WK.gN27 ?_)
  | (with_reducible refine WK.gN28 ?_)
  | (with_reducible refine WK.gN29 ?_)
  | (with_reducible refine gTup_new (by with_unfolding_all rfl) ?_)
  | (with_reducible refine gTup_as (by first | exact sq_of (by assumption) | with_unfolding_all assumption) (by with_unfolding_all rfl) ?_)
  | (with_reducible refine ixT_new (by with_unfolding_all rfl) ?_)
  | (with_reducible refine ixT_as (by first | exact sq_of (by assumption) | with_unfolding_all assumption) (by with_unfolding_all rfl) ?_)
  | ((with_reducible refine WK.i1 ?hc ?_); (case hc => (with_reducible show CMulX _ _); exact Sm.mx (by walk_at "sm") (by walk_at "sm") (by omega)))
  | ((with_reducible refine WK.i1 ?hc ?_); (case hc => omega))
  | ((with_reducible refine WK.i1 ?hc ?_); (case hc => (with_reducible show CPow _ _); exact ⟨by decide, by decide, by decide⟩))
  | ((with_reducible refine WK.i1 ?hc ?_); (case hc => (with_reducible show CDivW _ _); exact ⟨by first | omega | decide, by decide⟩))
  | ((with_reducible show List.length _ ≤ sizeLine ∧ _); refine And.intro (Nat.le_of_ble_eq_true rfl) ?_)
  | ((with_reducible show tyV _ "list" _ _ ∧ _); refine And.intro (.inl ⟨rfl, _, .inl (.inl (by assumption))⟩) ?_)
  | ((with_reducible show _ ∧ _); refine And.intro (by omega) ?_)
  | fail "wk")

section
variable {P : Program} {w : World} {K : PySem.W.Frag} {mg : Str → Option Value} {base : Heap}
def sp__law_pairs (K : PySem.W.Frag) : Sp := fun vs H Q _ => ∃ (a : Int) (count B : Nat), vs = [.int a, .int count] ∧ 2 ≤ a ∧ Sm B a ∧ Sm B (px a (count + 1)) ∧ B ≤ 1000000 ∧ count ≤ 1000 ∧
  ∀ H' L, Same H H' → H L = none → PL a H' L count → Q (.ref L) H'
theorem ok__law_pairs {f : Addr} {fd : FuncData} (F : Fun K "_law_pairs" "_law_pairs" s__law_pairs f fd) (m_range : mg "range" = none) : FnOk P w K mg base CX0 1 f fd ["a", "count"] (sp__law_pairs K) := by
  refine F.ok sc__law_pairs (fun vs H Q E h => ?_) (fun cdv A outer s H vs Q E hr h => ?_)
  · obtain ⟨a, count, B, rfl, _⟩ := h
    rfl
  · obtain ⟨a, count, B, rfl, ha, sa, sx, hB, hc, q⟩ := h
    refine ⟨_, (pss_cons (ps_set (i := 2) sc__law_pairs.nd rfl (.inl rfl) (pe_lst (pa_cons (pe_tup (pa_cons pe_int (pa_cons pe_int pa_nil))) (pa_cons (pe_tup (pa_cons (pv 0) (pa_cons pe_int pa_nil))) pa_nil))))
      (pss_cons (ps_for PassesOwn.never rfl (pi_range1 (by rfl) m_range (pa_cons (pv 1) pa_nil)) (pg_name (i := 3) sc__law_pairs.nd rfl (.inl rfl)) (pss_cons (ps_par (by rfl) sc__law_pairs.nd (i := 4) (j := 5) rfl rfl (by decide) rfl rfl (pa_cons (pe_ix ix_list (pv 2) (pe_un un_neg pe_int) (fun _ _ => rfl)) (pa_cons (pe_ix ix_list (pv 2) (pe_un un_neg pe_int) (fun _ _ => rfl)) pa_nil)) (by rfl))
      (pss_one (ps_expr (pe_bm PySem.F.plainAttrs_list PySem.F.slot_list_append PySem.F.type_list_append mt_append (pv 2) (pa_cons (pe_tup (pa_cons (pe_op op_sub (pe_op op_mulX (pe_op op_mulX pe_int (pv 0)) (pe_ix ix_tup (pv 5) pe_int (fun _ _ => rfl))) (pe_ix ix_tup (pv 4) pe_int (fun _ _ => rfl))) (pa_cons (pe_op op_sub (pe_op op_mulX (pe_op op_mulX pe_int (pv 0)) (pe_ix ix_tup (pv 5) pe_int (fun _ _ => rfl))) (pe_ix ix_tup (pv 4) pe_int (fun _ _ => rfl))) pa_nil))) pa_nil))))))
      (pss_one (ps_ret (pe_slice sl_list (pv 2) po_none (po_some (pv 1))))))), ?_⟩
    walk_at "rd"
    intro p1 n1
    walk_at "rd"
    intro p2 n2
    walk_at "rd"
    intro L nL
    walk_at "rd"
    have h1 := same_upd (o := .lst [.ref p1, .ref p2]) nL _ _ (same_upd (o := .tup [.int a, .int 1]) n2 p1 (.tup [.int 1, .int 0]) upd_same)
    have h2 := same_upd (o := .lst [.ref p1, .ref p2]) nL p2 (.tup [.int a, .int 1]) upd_same
    have hL0 : H L = none := by
      cases e : H L with
      | none => rfl
      | some o => rw [same_upd n2 _ _ (same_upd n1 _ _ e)] at nL; cases nL
    have small : ∀ j : Nat, j ≤ count + 1 → Sm B (px a j) ∧ Sm B (py a j) := fun j hj =>
      ⟨sx.le (by have := pxy_pos ha j; omega) (px_mono ha hj), sx.le (pxy_pos ha j).1 (Int.le_trans (Int.le_of_lt (pxy_pos ha j).2) (px_mono ha hj))⟩
    refine for_rng (n := count) (fun k σ H' => ∃ (c3 c4 c5 : Option V), σ = [some (.int a), some (.int count), some (.ref L), c3, c4, c5] ∧ PL a H' L (k + 2) ∧ Same H H') ?_ ?_ ?_
    · refine ⟨none, none, none, rfl, ⟨[p1, p2], rfl, upd_same, fun i p hi => ?_⟩, ((same_upd n1).trans (same_upd n2)).trans (same_upd nL)⟩
      match i, hi with
      | 0, hi =>
        rw [← (Option.some.inj hi : p1 = p)]
        exact h1
      | 1, hi =>
        rw [← (Option.some.inj hi : p2 = p)]
        rw [py1, px1, px0, py0, Int.mul_one, Int.mul_zero, Int.mul_zero, Int.add_zero, Int.add_zero]
        exact h2
    · intro k σ H1 hk hP
      obtain ⟨c3, c4, c5, rfl, ⟨ps, eps, hL, hp⟩, sH⟩ := hP
      have i1 : ps[k]? = some (ps[k]'(by omega)) := List.getElem?_eq_getElem (by omega)
      have i2 : ps[k + 1]? = some (ps[k + 1]'(by omega)) := List.getElem?_eq_getElem (by omega)
      have t1 := hp _ _ i1
      have t2 := hp _ _ i2
      have s1 := small k (by omega)
      have s2 := small (k + 1) (by omega)
      obtain ⟨u1, u2⟩ := s1
      obtain ⟨u3, u4⟩ := s2
      generalize ps[k]'(by omega) = q1 at *
      generalize ps[k + 1]'(by omega) = q2 at *
      walk_at "rd"
      refine ixL_as (.inl (.inl hL)) (atI_neg (k := 2) (by decide) (by rw [List.length_map]; omega) (by rw [List.length_map, List.getElem?_map, show ps.length - 2 = k by omega, i1]; rfl)) ?_
      walk_at "rd"
      refine ixL_as (.inl (.inl hL)) (atI_neg (k := 1) (by decide) (by rw [List.length_map]; omega) (by rw [List.length_map, List.getElem?_map, show ps.length - 1 = k + 1 by omega, i2]; rfl)) ?_
      walk_at "rd"
      intro p3 n3
      walk_at "rd"
      have hL3 := same_upd (o := .tup [.int (2 * a * px a (k + 1) - px a k), .int (2 * a * py a (k + 1) - py a k)]) n3 _ _ hL
      refine app_go hL3 (by rw [List.length_map]; exact Nat.lt_of_le_of_lt (show ps.length ≤ 2000 by omega) (by decide)) ?_
      have hnew : (upd H1 p3 (.tup [.int (2 * a * px a (k + 1) - px a k), .int (2 * a * py a (k + 1) - py a k)])) p3 = some (.tup [.int (px a ps.length), .int (py a ps.length)]) := by
        rw [upd_same, eps, px_rec, py_rec]
      have hPL := PL.push hL3 (fun i t hi => same_upd (o := .tup [.int (2 * a * px a (k + 1) - px a k), .int (2 * a * py a (k + 1) - py a k)]) n3 _ _ (hp i t hi)) hnew
      rw [eps] at hPL
      exact ⟨_, _, _, rfl, hPL, Same.new (sH.trans (same_upd n3)) hL0⟩
    · intro σ H1 hP
      obtain ⟨c3, c4, c5, rfl, ⟨ps, eps, hL, hp⟩, sH⟩ := hP
      walk_at "rd"
      refine ⟨L, _, rfl, .inl (.inl hL), fun p np => ?_⟩
      refine q _ p (sH.trans (same_upd np)) (sH.free np) ⟨ps.take count, by rw [List.length_take]; omega, ?_, fun i t hi => ?_⟩
      · rw [upd_same, cut_take _ _ (by rw [List.length_map]; omega), List.map_take]
      · rw [List.getElem?_take] at hi
        split at hi
        · exact same_upd np _ _ (hp i t hi)
        · cases hi

def sp__law_base (K : PySem.W.Frag) : Sp := fun vs H Q _ => ∃ (a y u want : Int) (n : Nat), vs = [.int a, .int y, .int u] ∧ 0 < y ∧ y < 1000 ∧ firstB (4 * y) u want n a = true ∧ (n : Int) < 4 * y ∧ ∀ H', Same H H' → Q (.int want) H'
theorem ok__law_base {f : Addr} {fd : FuncData} (F : Fun K "_law_base" "_law_base" s__law_base f fd) (m_range : mg "range" = none) (m_int : mg "int" = none) : FnOk P w K mg base CX0 1 f fd ["a", "y", "u"] (sp__law_base K) := by
  refine F.ok sc__law_base (fun vs H Q E h => ?_) (fun cdv A outer s H vs Q E hr h => ?_)
  · obtain ⟨a, y, u, want, n, rfl, _⟩ := h
    rfl
  · obtain ⟨a, y, u, want, n, rfl, y0, y1, hf, hn, q⟩ := h
    refine ⟨_, (pss_cons (ps_set (i := 3) sc__law_base.nd rfl (.inl rfl) (pv 0))
      (pss_cons (ps_for PassesOwn.never rfl (pi_range1 (by rfl) m_range (pa_cons (pe_op op_mulX pe_int (pv 1)) pa_nil)) (pg_name (i := 4) sc__law_base.nd rfl (.inl rfl)) (pss_cons (ps_if (pt_cmpR op_eq (pe_op op_mod (pe_callTy call_intI (by rfl) m_int (by decide +kernel) (pa_cons (pv 3) pa_nil)) (pe_op op_mulX pe_int (pv 1))) (pe_op op_sub pe_int (pe_callTy call_int1 (by rfl) m_int (by decide +kernel) (pa_cons (pe_cmpR op_eq (pe_op op_mulX pe_int (pv 1)) pe_int (nomark _)) pa_nil))) (nomark _)) (pss_one (ps_ret (pv 3))) pss_nil)
      (pss_one (ps_set (i := 3) sc__law_base.nd rfl (.inl rfl) (pe_op op_add (pv 3) (pv 2))))))
      (pss_one (ps_ret pe_non)))), ?_⟩
    rw [st__law_base]
    have sy : Sm 64 y := Sm.le (y := 1000) (Sm.lit (k := 64)) (by omega) (by omega)
    refine ⟨_, rfl, _, rfl, _, _, rfl, rfl, Sm.mx (Sm.lit (k := 64)) sy (by decide), 4 * y, rfl, by omega, by omega, ?_⟩
    refine for_rng (n := (4 * y).toNat) (fun k σ' H' => ∃ (b : Int) (c4 : Option V), σ' = [some (.int a), some (.int y), some (.int u), some (.int b), c4] ∧ k ≤ n ∧ firstB (4 * y) u want (n - k) b = true ∧ H' = H) ?_ ?_ ?_
    · exact ⟨a, none, rfl, Nat.zero_le _, hf, rfl⟩
    · rintro k σ' H' hk ⟨b, c4, rfl, kn, hb, rfl⟩
      refine ⟨_, rfl, _, rfl, _, rfl, _, _, rfl, rfl, Sm.mx (Sm.lit (k := 64)) sy (by decide), _, _, rfl, rfl, (show 0 < 4 * y by omega), ?_⟩
      have e0 : (if decide (V.int (4 * y) = V.int 1) = true then (1 : Int) else 0) = 0 := by
        rw [dvi, if_neg]
        rw [decide_eq_true_eq]
        omega
      refine ⟨_, rfl, _, _, rfl, rfl, Sm.mx (Sm.lit (k := 64)) sy (by decide), ⟨rfl, .inr ⟨_, rfl, _, _, rfl, rfl, ⟨rfl, _, rfl, ?_⟩⟩⟩⟩
      rw [e0, dvi]
      refine ite2 (fun e => ?_) (fun e => ?_)
      · have e1 : b % (4 * y) = 1 := of_decide_eq_true e
        have eb : b = want := by
          cases z : n - k with
          | zero =>
            rw [z] at hb
            unfold firstB at hb
            rw [Bool.and_eq_true] at hb
            exact of_decide_eq_true hb.1
          | succ f =>
            rw [z] at hb
            unfold firstB at hb
            rw [if_pos e1] at hb
            exact of_decide_eq_true hb
        refine ⟨_, rfl, ?_⟩
        rw [eb]
        exact q H' (fun _ _ z => z)
      · have e1 : ¬ b % (4 * y) = 1 := fun z => e (decide_eq_true z)
        cases z : n - k with
        | zero =>
          rw [z] at hb
          unfold firstB at hb
          rw [Bool.and_eq_true] at hb
          exact absurd (of_decide_eq_true hb.2) e1
        | succ f =>
          rw [z] at hb
          unfold firstB at hb
          rw [if_neg e1, Bool.and_eq_true] at hb
          refine ⟨_, rfl, _, rfl, _, _, rfl, rfl, b + u, some (.int k), rfl, by omega, ?_, rfl⟩
          rw [show n - (k + 1) = f by omega]
          exact hb.2
    · rintro σ' H' ⟨b, c4, rfl, kn, _, _⟩
      exfalso
      omega

def sp__law_due (K : PySem.W.Frag) : Sp := fun vs H Q _ => ∃ (k : Nat) (a : Int), vs = [.int k, .int a] ∧ 1 ≤ k ∧ k ≤ 4 ∧ 2 ≤ a ∧ a < 20 ∧ chk41 k a = true ∧ ∀ H' D, Same H H' → H D = none → H' D = some (.dK (kzOf nms (vsW k a))) → Q (.ref D) H'
theorem ok__law_due {f : Addr} {fd : FuncData} (F : Fun K "_law_due" "_law_due" s__law_due f fd) (C__law_pairs : Cal P w K mg base "_law_pairs" 1 ["a", "count"] (sp__law_pairs K)) (C__law_base : Cal P w K mg base "_law_base" 1 ["a", "y", "u"] (sp__law_base K)) (m_range : mg "range" = none) : FnOk P w K mg base CX0 2 f fd ["k", "a"] (sp__law_due K) := by
  refine F.ok sc__law_due (fun vs H Q E h => ?_) (fun cdv A outer s H vs Q E hr h => ?_)
  · obtain ⟨k, a, rfl, _⟩ := h
    rfl
  · obtain ⟨k, a, rfl, k1, k4, a2, a20, hc, q⟩ := h
    obtain ⟨cx, cu, cb, cs, cb2, cn, cy, cy1, cf, cq⟩ := chk41_of hc
    refine ⟨_, (pss_cons (ps_set (i := 2) sc__law_due.nd rfl (.inl rfl) (pe_cal C__law_pairs hr (by rfl) (pa_cons (pv 1) (pa_cons (pe_op op_add (pe_op op_mulX pe_int (pv 0)) pe_int) pa_nil))))
      (pss_cons (ps_asg (pe_ix ix_list (pv 2) (pv 0) (fun _ _ => rfl)) (pg_tup (by rfl) (pgs_cons (pg_name (i := 3) sc__law_due.nd rfl (.inl rfl)) (pgs_cons (pg_name (i := 4) sc__law_due.nd rfl (.inl rfl)) pgs_nil))))
      (pss_cons (ps_par (by rfl) sc__law_due.nd (i := 5) (j := 6) rfl rfl (by decide) rfl rfl (pa_cons (pe_tup (pa_cons pe_int (pa_cons pe_int pa_nil))) (pa_cons (pe_tup (pa_cons (pv 1) (pa_cons pe_int pa_nil))) pa_nil)) (by rfl))
      (pss_cons (ps_for PassesOwn.never rfl (pi_range1 (by rfl) m_range (pa_cons (pe_op op_mulX (pe_op op_mulX pe_int (pv 0)) (pv 4)) pa_nil)) (pg_name (i := 7) sc__law_due.nd rfl (.inl rfl)) (pss_one (ps_par (by rfl) sc__law_due.nd (i := 5) (j := 6) rfl rfl (by decide) rfl rfl (pa_cons (pv 6) (pa_cons (pe_tup (pa_cons (pe_op op_sub (pe_op op_mulX (pe_op op_mulX pe_int (pv 1)) (pe_ix ix_tup (pv 6) pe_int (fun _ _ => rfl))) (pe_ix ix_tup (pv 5) pe_int (fun _ _ => rfl))) (pa_cons (pe_op op_sub (pe_op op_mulX (pe_op op_mulX pe_int (pv 1)) (pe_ix ix_tup (pv 6) pe_int (fun _ _ => rfl))) (pe_ix ix_tup (pv 5) pe_int (fun _ _ => rfl))) pa_nil))) pa_nil)) (by rfl))))
      (pss_cons (ps_asg (pv 5) (pg_tup (by rfl) (pgs_cons (pg_name (i := 8) sc__law_due.nd rfl (.inl rfl)) (pgs_cons (pg_name (i := 9) sc__law_due.nd rfl (.inl rfl)) pgs_nil))))
      (pss_cons (ps_set (i := 10) sc__law_due.nd rfl (.inl rfl) (pe_cal C__law_base hr (by rfl) (pa_cons (pv 1) (pa_cons (pv 4) (pa_cons (pv 8) pa_nil)))))
      (pss_cons (ps_asg (pe_ix ix_list (pe_cal C__law_pairs hr (by rfl) (pa_cons (pv 10) (pa_cons (pe_op op_add (pv 0) pe_int) pa_nil))) (pv 0) (fun _ _ => rfl)) (pg_tup (by rfl) (pgs_cons (pg_name (i := 11) sc__law_due.nd rfl (.inl rfl)) (pgs_cons (pg_name (i := 12) sc__law_due.nd rfl (.inl rfl)) pgs_nil))))
      (pss_one (ps_ret (pe_disp (pps_cons pe_str (pv 3) (pps_cons pe_str (pv 4) (pps_cons pe_str (pv 8) (pps_cons pe_str (pv 9) (pps_cons pe_str (pv 11) (pps_cons pe_str (pv 12) (pps_cons pe_str (pv 10) (pps_cons pe_str (pe_op op_sub (pe_op op_fdivW (pv 9) (pe_op op_mulX (pv 4) (pv 4))) pe_int) (pps_cons pe_str (pe_op op_fdivW (pe_op op_sub (pv 10) pe_int) (pe_op op_mulX pe_int (pv 4))) (pps_cons pe_str (pe_op op_fdivW (pe_op op_sub (pv 10) (pv 1)) (pv 8)) (pps_cons pe_str (pe_op op_fdivW (pe_op op_sub (pv 11) (pv 3)) (pv 8)) (pps_cons pe_str (pe_op op_fdivW (pe_op op_sub (pv 12) (pv 0)) (pe_op op_mulX pe_int (pv 4))) (pps_cons pe_str (pe_op op_sub (pv 4) (pv 0)) pps_nil))))))))))))) (by rfl) (by rfl) (fun z => by cases z) (by decide))))))))))), ?_⟩
    rw [st__law_due]
    have sa : Sm 64 a := Sm.le (y := 100) (Sm.lit (k := 64)) (by omega) (by omega)
    have sk : Sm 64 (k : Int) := Sm.le (y := 100) (Sm.lit (k := 64)) (by omega) (by omega)
    refine ⟨_, rfl, _, rfl, _, _, rfl, rfl, Sm.mx (Sm.lit (k := 64)) sk (by decide), _, _, rfl, rfl, ?_⟩
    dsimp only
    rw [show 2 * (k : Int) + 2 = ((2 * k + 2 : Nat) : Int) by push_cast; rfl]
    refine ⟨a, 2 * k + 2, 100, rfl, a2, sa.mono (by decide), cx, by decide, by omega, fun H1 L s1 n1 hL => ?_⟩
    refine ⟨_, rfl, _, rfl, hL.at (i := k) (by omega) fun p hp => ?_⟩
    refine gTup_as (sq_of hp) rfl ⟨_, _, rfl, _, _, rfl, rfl, ?_⟩
    refine ⟨Nat.le_of_ble_eq_true rfl, fun p1 m1 => ⟨_, rfl, Nat.le_of_ble_eq_true rfl, fun p2 m2 => ⟨_, _, rfl, ?_⟩⟩⟩
    have h1 : (upd (upd H1 p1 (.tup [.int 1, .int 0])) p2 (.tup [.int a, .int 1])) p1 = some (.tup [.int 1, .int 0]) := same_upd m2 _ _ upd_same
    have h2 : (upd (upd H1 p1 (.tup [.int 1, .int 0])) p2 (.tup [.int a, .int 1])) p2 = some (.tup [.int a, .int 1]) := upd_same
    have s2 : Same H (upd (upd H1 p1 (.tup [.int 1, .int 0])) p2 (.tup [.int a, .int 1])) := s1.trans ((same_upd m1).trans (same_upd m2))
    have hx := pxy_pos a2 k
    have hy0 : 0 < py a k := by
      have := py_ge a2 k
      omega
    have yN : ((py a k).toNat : Int) = py a k := Int.toNat_of_nonneg (by omega)
    have sy : Sm 64 (py a k) := Sm.le (y := 1000) (Sm.lit (k := 64)) (by omega) (by omega)
    have en : 2 * (k : Int) * py a k = ((nW k a : Nat) : Int) := by
      unfold nW
      push_cast
      rw [yN]
    generalize upd (upd H1 p1 (.tup [.int 1, .int 0])) p2 (.tup [.int a, .int 1]) = H2 at h1 h2 s2 ⊢
    dsimp only [List.set]
    refine ⟨_, rfl, _, _, rfl, rfl, Sm.mx (Sm.lit (k := 64)) sk (by decide), _, rfl, _, _, rfl, rfl, Sm.mx (Sm.mul (Sm.lit (k := 64)) sk) sy (by decide), ((nW k a : Nat) : Int), congrArg (fun z => [V.int z]) en, by omega, by omega, ?_⟩
    rw [Int.toNat_natCast]
    refine for_rng (n := nW k a) (fun j σ' H' => ∃ (q1 q2 : Addr) (c7 : Option V), σ' = [some (.int k), some (.int a), some (.ref L), some (.int (px a k)), some (.int (py a k)), some (.ref q1), some (.ref q2), c7, none, none, none, none, none] ∧
      H' q1 = some (.tup [.int (px a j), .int (py a j)]) ∧ H' q2 = some (.tup [.int (px a (j + 1)), .int (py a (j + 1))]) ∧ Same H2 H') ?_ ?_ ?_
    · refine ⟨p1, p2, none, rfl, h1, ?_, fun _ _ z => z⟩
      rw [px1, py1, px0, py0, h2, show a * 1 + (a * a - 1) * 0 = a by omega, show (1 : Int) + a * 0 = 1 by omega]
    · rintro j σ' H' hj ⟨q1, q2, c7, rfl, g1, g2, s3⟩
      have sx1 : Sm 9000 (px a (j + 1)) := cu.le (by have := pxy_pos a2 (j + 1); omega) (px_mono a2 hj)
      have sy1 : Sm 9000 (py a (j + 1)) := sx1.le (pxy_pos a2 (j + 1)).1 (Int.le_of_lt (pxy_pos a2 (j + 1)).2)
      refine ⟨_, rfl, _, rfl, _, _, rfl, rfl, Sm.mx (Sm.lit (k := 64)) sa (by decide), _, rfl, q2, _, 0, .int (px a (j + 1)), rfl, rfl, sq_of g2, rfl, _, _, rfl, rfl, Sm.mx (Sm.mul (Sm.lit (k := 64)) sa) sx1 (by decide), _, rfl, q1, _, 0, .int (px a j), rfl, rfl, sq_of g1, rfl, _, _, rfl, rfl, ?_⟩
      refine ⟨_, rfl, _, _, rfl, rfl, Sm.mx (Sm.lit (k := 64)) sa (by decide), _, rfl, q2, _, 1, .int (py a (j + 1)), rfl, rfl, sq_of g2, rfl, _, _, rfl, rfl, Sm.mx (Sm.mul (Sm.lit (k := 64)) sa) sy1 (by decide), _, rfl, q1, _, 1, .int (py a j), rfl, rfl, sq_of g1, rfl, _, _, rfl, rfl, ?_⟩
      refine ⟨Nat.le_of_ble_eq_true rfl, fun p3 m3 => ⟨_, _, rfl, ?_⟩⟩
      refine ⟨q2, p3, some (.int j), rfl, same_upd m3 _ _ g2, ?_, s3.trans (same_upd m3)⟩
      rw [upd_same, px_rec, py_rec]
    · rintro σ' H3 ⟨q1, q2, c7, rfl, g1, g2, s3⟩
      refine ⟨_, rfl, gTup_as (sq_of g1) rfl ⟨_, _, rfl, _, _, rfl, rfl, ?_⟩⟩
      have qn := Int.emod_nonneg ((1 - a) * px a (nW k a)) (show 4 * py a k ≠ 0 by omega)
      have qN : ((qW k a).toNat : Int) = qW k a := Int.toNat_of_nonneg qn
      refine ⟨_, rfl, _, rfl, _, rfl, a, py a k, px a (nW k a), bW k a, (qW k a).toNat, rfl, hy0, cy1, cf, by rw [qN]; exact cq, fun H4 s4 => ?_⟩
      have sb := cb
      refine ⟨_, rfl, _, rfl, _, _, rfl, rfl, ?_⟩
      dsimp only [List.set]
      rw [show (k : Int) + 2 = ((k + 2 : Nat) : Int) by push_cast; rfl]
      refine ⟨bW k a, k + 2, 90000, rfl, cb2, sb.mono (by decide), cs, by decide, by omega, fun H5 L2 s5 n5 hL2 => ?_⟩
      refine ⟨_, rfl, hL2.at (i := k) (by omega) fun p5 hp5 => ?_⟩
      refine gTup_as (sq_of hp5) rfl ⟨_, _, rfl, _, _, rfl, rfl, ?_⟩
      have hu0 : 0 < px a (nW k a) := by
        have := pxy_pos a2 (nW k a)
        omega
      have sy9 : Sm 9000 (4 * py a k) := (Sm.mul (Sm.lit (k := 64)) sy).mono (by decide)
      have syy : Sm 9000 (py a k * py a k) := (Sm.mul sy sy).mono (by decide)
      have h4 : 0 < 4 * py a k := by omega
      have hyy : 0 < py a k * py a k := Int.mul_pos hy0 hy0
      have s6 := (s2.trans s3).trans (s4.trans s5)
      intro D nD
      refine ⟨_, rfl, _, rfl, _, rfl, _, rfl, _, rfl, _, rfl, _, rfl, ?_⟩
      refine ⟨_, rfl, _, rfl, _, rfl, _, _, rfl, rfl, Sm.mx sy sy (by decide), _, _, rfl, rfl, cdiv_of hyy syy, _, _, rfl, rfl, ?_⟩
      refine ⟨_, rfl, _, _, rfl, rfl, _, rfl, _, _, rfl, rfl, Sm.mx (Sm.lit (k := 64)) sy (by decide), _, _, rfl, rfl, cdiv_of h4 sy9, ?_⟩
      refine ⟨_, rfl, _, rfl, _, _, rfl, rfl, _, rfl, _, _, rfl, rfl, cdiv_of hu0 cu, ?_⟩
      refine ⟨_, rfl, _, rfl, _, _, rfl, rfl, _, rfl, _, _, rfl, rfl, cdiv_of hu0 cu, ?_⟩
      refine ⟨_, rfl, _, rfl, _, _, rfl, rfl, _, rfl, _, _, rfl, rfl, Sm.mx (Sm.lit (k := 64)) sy (by decide), _, _, rfl, rfl, cdiv_of h4 sy9, ?_⟩
      refine ⟨_, rfl, _, rfl, _, _, rfl, rfl, ?_⟩
      refine ⟨upd_same, kzOf nms (vsW k a), rfl, Nat.le_of_ble_eq_true rfl, ?_⟩
      rw [merge_kz rfl, upd_upd]
      exact q _ D (Same.new s6 (s6.free nD)) (s6.free nD) upd_same

def sp__doubled (K : PySem.W.Frag) : Sp := fun vs H Q _ => ∃ (x y : Int) (B : Nat), vs = [.int x, .int y] ∧ Sm B x ∧ Sm B y ∧ B ≤ 10000000 ∧
  ∀ p, H p = none → Q (.ref p) (upd H p (.tup [.int (2 * x * x - 1), .int (2 * x * y)]))
theorem ok__doubled {f : Addr} {fd : FuncData} (F : Fun K "_doubled" "_doubled" s__doubled f fd)  : FnOk P w K mg base CX0 1 f fd ["x", "y"] (sp__doubled K) := by
  refine F.ok sc__doubled (fun vs H Q E h => ?_) (fun cdv A outer s H vs Q E hr h => ?_)
  · obtain ⟨x, y, B, rfl, _⟩ := h
    rfl
  · obtain ⟨x, y, B, rfl, hx, hy, hB, q⟩ := h
    refine ⟨_, (pss_one (ps_ret (pe_tup (pa_cons (pe_op op_sub (pe_op op_mulX (pe_op op_mulX pe_int (pv 0)) (pv 0)) pe_int) (pa_cons (pe_op op_mulX (pe_op op_mulX pe_int (pv 0)) (pv 1)) pa_nil))))), ?_⟩
    walk_at "rd"
    exact q

def sp__next (K : PySem.W.Frag) : Sp := fun vs H Q _ => ∃ (x y a : Int) (B : Nat), vs = [.int x, .int y, .int a] ∧ Sm B x ∧ Sm B y ∧ Sm B a ∧ B ≤ 10000000 ∧
  ∀ p, H p = none → Q (.ref p) (upd H p (.tup [.int (a * x + (a * a - 1) * y), .int (x + a * y)]))
theorem ok__next {f : Addr} {fd : FuncData} (F : Fun K "_next" "_next" s__next f fd)  : FnOk P w K mg base CX0 1 f fd ["x", "y", "a"] (sp__next K) := by
  refine F.ok sc__next (fun vs H Q E h => ?_) (fun cdv A outer s H vs Q E hr h => ?_)
  · obtain ⟨x, y, a, B, rfl, _⟩ := h
    rfl
  · obtain ⟨x, y, a, B, rfl, hx, hy, ha, hB, q⟩ := h
    refine ⟨_, (pss_one (ps_ret (pe_tup (pa_cons (pe_op op_add (pe_op op_mulX (pv 2) (pv 0)) (pe_op op_mulX (pe_op op_sub (pe_op op_mulX (pv 2) (pv 2)) pe_int) (pv 1))) (pa_cons (pe_op op_add (pv 0) (pe_op op_mulX (pv 2) (pv 1))) pa_nil))))), ?_⟩
    walk_at "rd"
    exact q

def sp_pair (K : PySem.W.Frag) : Sp := fun vs H Q _ => ∃ (n : Nat) (a : Int) (B : Nat), vs = [.int n, .int a] ∧ 2 ≤ a ∧ Sm B a ∧ Sm B (px a n) ∧ B ≤ 1000000 ∧ n < 2 ^ 10000 ∧
  ∀ H' p, Same H H' → H p = none → H' p = some (.tup [.int (px a n), .int (py a n)]) → Q (.ref p) H'
theorem ok_pair {f : Addr} {fd : FuncData} (F : Fun K "pair" "pair" s_pair f fd) (C__doubled : Cal P w K mg base "_doubled" 1 ["x", "y"] (sp__doubled K)) (C__next : Cal P w K mg base "_next" 1 ["x", "y", "a"] (sp__next K)) : FnOk P w K mg base CX0 2 f fd ["n", "a"] (sp_pair K) := by
  refine F.ok sc_pair (fun vs H Q E h => ?_) (fun cdv A outer s H vs Q E hr h => ?_)
  · obtain ⟨n, a, B, rfl, _⟩ := h
    rfl
  · obtain ⟨n, a, B, rfl, ha, sa, sx, hB, hn, q⟩ := h
    refine ⟨_, (pss_cons (ps_asg (pe_tup (pa_cons pe_int (pa_cons pe_int pa_nil))) (pg_tup (by rfl) (pgs_cons (pg_name (i := 2) sc_pair.nd rfl (.inl rfl)) (pgs_cons (pg_name (i := 3) sc_pair.nd rfl (.inl rfl)) pgs_nil))))
      (pss_cons (ps_for PassesOwn.never rfl (pi_str (pe_fmtB (pv 0))) (pg_name (i := 4) sc_pair.nd rfl (.inl rfl)) (pss_cons (ps_asg (pe_cal C__doubled hr (by rfl) (pa_cons (pv 2) (pa_cons (pv 3) pa_nil))) (pg_tup (by rfl) (pgs_cons (pg_name (i := 2) sc_pair.nd rfl (.inl rfl)) (pgs_cons (pg_name (i := 3) sc_pair.nd rfl (.inl rfl)) pgs_nil))))
      (pss_one (ps_if (pt_cmpR op_eq (pv 4) pe_str (nomark _)) (pss_one (ps_asg (pe_cal C__next hr (by rfl) (pa_cons (pv 2) (pa_cons (pv 3) (pa_cons (pv 1) pa_nil)))) (pg_tup (by rfl) (pgs_cons (pg_name (i := 2) sc_pair.nd rfl (.inl rfl)) (pgs_cons (pg_name (i := 3) sc_pair.nd rfl (.inl rfl)) pgs_nil))))) pss_nil))))
      (pss_one (ps_ret (pe_tup (pa_cons (pv 2) (pa_cons (pv 3) pa_nil))))))), ?_⟩
    walk_at "rd"
    intro c nc
    walk_at "rd"
    refine ⟨Nat.le_trans (bin_len hn (by decide)) (by decide), _, rfl, ?_⟩
    refine for_str (fun i σ H' => ∃ (c5 : Option V), σ = [some (.int n), some (.int a), some (.int (px a (bval ((binL n).take i)))), some (.int (py a (bval ((binL n).take i)))), c5] ∧ Same H H') ?_ ?_ ?_
    · exact ⟨none, rfl, same_upd nc⟩
    · intro i d σ H1 hd hP
      obtain ⟨c5, rfl, sm⟩ := hP
      have hd1 : (binL n)[i]? = some d := by rw [← hd]; exact (List.getElem?_toArray).symm
      have hb := bval_take hd1
      have hle := bval_le (binL n) (i + 1)
      rw [bval_bin] at hle
      obtain ⟨v, hv⟩ : ∃ v, v = bval ((binL n).take i) := ⟨_, rfl⟩
      rw [← hv] at hb ⊢
      have s1 : Sm B (px a v) := sx.le (by have := pxy_pos ha v; omega) (px_mono ha (by omega))
      have s2 : Sm B (py a v) := sx.le (pxy_pos ha v).1 (Int.le_trans (Int.le_of_lt (pxy_pos ha v).2) (px_mono ha (by omega)))
      walk_at "rd"
      refine ⟨_, _, B, rfl, s1, s2, by omega, fun p1 n1 => ?_⟩
      walk_at "rd"
      have m1 := sm.trans (same_upd (o := .tup [.int (2 * px a v * px a v - 1), .int (2 * px a v * py a v)]) n1)
      rcases bin_mem n d (List.mem_of_getElem? hd1) with rfl | rfl
      · refine ite2 (fun e => absurd e (by decide)) (fun _ => ?_)
        refine ⟨some (.str ⟨#[48]⟩), ?_, m1⟩
        rw [hb, show 2 * v + (48 - 48) = 2 * v by omega, px_dbl, py_dbl]
        rfl
      · refine ite2 (fun _ => ?_) (fun e => absurd (by decide) e)
        have e1 : bval ((binL n).take (i + 1)) = 2 * v + 1 := by omega
        have s3 : Sm B (2 * px a v * px a v - 1) := by
          rw [← px_dbl]
          exact sx.le (by have := pxy_pos ha (2 * v); omega) (px_mono ha (by omega))
        have s4 : Sm B (2 * px a v * py a v) := by
          rw [← py_dbl]
          exact sx.le (pxy_pos ha (2 * v)).1 (Int.le_trans (Int.le_of_lt (pxy_pos ha (2 * v)).2) (px_mono ha (by omega)))
        walk_at "rd"
        refine ⟨_, _, _, B, rfl, s3, s4, sa, by omega, fun p2 n2 => ?_⟩
        walk_at "rd"
        refine ⟨some (.str ⟨#[49]⟩), ?_, m1.trans (same_upd n2)⟩
        rw [e1, px1, py1, px_dbl, py_dbl]
        rfl
    · intro σ H1 hP
      obtain ⟨c5, rfl, sm⟩ := hP
      have e : (binL n).take (binS n).cps.size = binL n := List.take_of_length_le (by show _ ≤ (binL n).toArray.size; simp)
      rw [e, bval_bin]
      walk_at "rd"
      intro p np
      exact q _ p (sm.trans (same_upd np)) (sm.free np) upd_same

/-- the sizes that the numbers of an index need -/
def Fit (B k : Nat) (a : Int) : Prop := 1 ≤ k ∧ 2 ≤ a ∧ Sm B a ∧ Sm B (k : Int) ∧ Sm B (px a k) ∧ Sm B (px a (nW k a)) ∧ Sm B (bW k a) ∧ Sm B (px (bW k a) k) ∧ 2 ≤ bW k a ∧ B ≤ 100000 ∧ nW k a < 2 ^ 10000 ∧ k < 2 ^ 10000
def sp__three_pairs (K : PySem.W.Frag) : Sp := fun vs H Q _ => ∃ (k : Nat) (a : Int) (B : Nat), vs = [.int k, .int a] ∧ Fit B k a ∧
  ∀ H' T t1 t2 t3, Same H H' → H T = none → H' T = some (.tup [.ref t1, .ref t2, .ref t3, .int (bW k a)]) → H' t1 = some (.tup [.int (px a k), .int (py a k)]) → H' t2 = some (.tup [.int (px a (nW k a)), .int (py a (nW k a))]) →
    H' t3 = some (.tup [.int (px (bW k a) k), .int (py (bW k a) k)]) → Q (.ref T) H'
theorem ok__three_pairs {f : Addr} {fd : FuncData} (F : Fun K "_three_pairs" "_three_pairs" s__three_pairs f fd) (C_pair : Cal P w K mg base "pair" 2 ["n", "a"] (sp_pair K)) : FnOk P w K mg base CX0 3 f fd ["k", "a"] (sp__three_pairs K) := by
  refine F.ok sc__three_pairs (fun vs H Q E h => ?_) (fun cdv A outer s H vs Q E hr h => ?_)
  · obtain ⟨k, a, B, rfl, _⟩ := h
    rfl
  · obtain ⟨k, a, B, rfl, ⟨k1, a2, sa, sk, sx, su, sb, ss, b2, hB, hn, hk⟩, q⟩ := h
    refine ⟨_, (pss_cons (ps_asg (pe_cal C_pair hr (by rfl) (pa_cons (pv 0) (pa_cons (pv 1) pa_nil))) (pg_tup (by rfl) (pgs_cons (pg_name (i := 2) sc__three_pairs.nd rfl (.inl rfl)) (pgs_cons (pg_name (i := 3) sc__three_pairs.nd rfl (.inl rfl)) pgs_nil))))
      (pss_cons (ps_asg (pe_cal C_pair hr (by rfl) (pa_cons (pe_op op_mulX (pe_op op_mulX pe_int (pv 0)) (pv 3)) (pa_cons (pv 1) pa_nil))) (pg_tup (by rfl) (pgs_cons (pg_name (i := 4) sc__three_pairs.nd rfl (.inl rfl)) (pgs_cons (pg_name (i := 5) sc__three_pairs.nd rfl (.inl rfl)) pgs_nil))))
      (pss_cons (ps_set (i := 6) sc__three_pairs.nd rfl (.inl rfl) (pe_op op_mod (pe_op op_mulX (pe_op op_sub pe_int (pv 1)) (pv 4)) (pe_op op_mulX pe_int (pv 3))))
      (pss_cons (ps_set (i := 7) sc__three_pairs.nd rfl (.inl rfl) (pe_op op_add (pv 1) (pe_op op_mulX (pv 6) (pv 4))))
      (pss_one (ps_ret (pe_tup (pa_cons (pe_tup (pa_cons (pv 2) (pa_cons (pv 3) pa_nil))) (pa_cons (pe_tup (pa_cons (pv 4) (pa_cons (pv 5) pa_nil))) (pa_cons (pe_cal C_pair hr (by rfl) (pa_cons (pv 0) (pa_cons (pv 7) pa_nil))) (pa_cons (pv 7) pa_nil))))))))))), ?_⟩
    have hy := pxy_pos a2 k
    have hyn : (py a k).toNat = py a k := Int.toNat_of_nonneg hy.1
    have sy : Sm B (py a k) := sx.le hy.1 (Int.le_of_lt hy.2)
    have hy1 : 0 < py a k := by
      have := py_ge a2 k
      omega
    have su1 := (pxy_pos a2 (nW k a))
    refine ⟨_, rfl, _, rfl, k, a, B, rfl, a2, sa, sx, by omega, hk, fun H1 p1 s1 n1 h1 => ?_⟩
    refine gTup_as (sq_of h1) rfl ⟨_, _, rfl, _, _, rfl, rfl, ?_⟩
    have en : 2 * (k : Int) * py a k = ((nW k a : Nat) : Int) := by
      unfold nW
      push_cast
      rw [hyn]
    refine ⟨_, rfl, 2, (k : Int), rfl, rfl, Sm.mx (Sm.lit (k := 64)) sk (by omega), _, rfl, _, _, rfl, rfl, Sm.mx (Sm.mul (Sm.lit (k := 64)) sk) sy (by omega), ?_⟩
    dsimp only
    rw [en]
    refine ⟨_, rfl, nW k a, a, B, rfl, a2, sa, su, by omega, hn, fun H2 p2 s2 n2 h2 => ?_⟩
    refine gTup_as (sq_of h2) rfl ⟨_, _, rfl, _, _, rfl, rfl, ?_⟩
    have s1a : Sm (B + 1) (1 - a) := by
      unfold Sm at sa ⊢
      rw [Nat.pow_succ]
      omega
    refine ⟨_, rfl, _, _, rfl, rfl, _, rfl, _, _, rfl, rfl, Sm.mx s1a su (by omega), _, rfl, 4, py a k, rfl, rfl, Sm.mx (Sm.lit (k := 64)) sy (by omega), _, _, rfl, rfl, (by show 0 < 4 * py a k; omega), ?_⟩
    have sq : Sm (B + 64) (qW k a) := by
      have h4 := Sm.mul (Sm.lit (k := 64) (x := 4)) sy
      unfold qW
      have m1 := Int.emod_nonneg ((1 - a) * px a (nW k a)) (show 4 * py a k ≠ 0 by omega)
      have m2 := Int.emod_lt_of_pos ((1 - a) * px a (nW k a)) (show 0 < 4 * py a k by omega)
      rw [Nat.add_comm]
      exact h4.le m1 (Int.le_of_lt m2)
    refine ⟨_, rfl, _, rfl, _, rfl, qW k a, px a (nW k a), rfl, rfl, Sm.mx sq su (by omega), _, _, rfl, rfl, ?_⟩
    refine ⟨_, rfl, _, rfl, Nat.le_of_ble_eq_true rfl, fun t1 m1 => ?_⟩
    refine ⟨_, rfl, _, rfl, Nat.le_of_ble_eq_true rfl, fun t2 m2 => ?_⟩
    refine ⟨_, rfl, _, rfl, k, bW k a, B, rfl, b2, sb, ss, by omega, hk, fun H3 p3 s3 n3 h3 => ?_⟩
    refine ⟨_, rfl, Nat.le_of_ble_eq_true rfl, fun T nT => ?_⟩
    have g1 := (s3.trans (same_upd (o := .tup [.ref t1, .ref t2, .ref p3, .int (bW k a)]) nT)) _ _ (same_upd m2 _ _ upd_same)
    have g2 := (s3.trans (same_upd (o := .tup [.ref t1, .ref t2, .ref p3, .int (bW k a)]) nT)) _ _ upd_same
    have all := (s1.trans s2).trans ((same_upd m1).trans ((same_upd m2).trans s3))
    exact q _ T t1 t2 p3 (all.trans (same_upd nT)) (all.free nT) upd_same g1 g2 (same_upd nT _ _ h3)

def sp_witnesses (K : PySem.W.Frag) : Sp := fun vs H Q _ => ∃ (k : Nat) (a : Int) (B : Nat), vs = [.int k, .int a] ∧ Fit B k a ∧ Sm 4000 (py a k) ∧ Sm 9000 (px a (nW k a)) ∧
  ∀ H' D, Same H H' → H D = none → H' D = some (.dK (kzOf nms (vsW k a))) → Q (.ref D) H'
theorem ok_witnesses {f : Addr} {fd : FuncData} (F : Fun K "witnesses" "witnesses" s_witnesses f fd) (C__three_pairs : Cal P w K mg base "_three_pairs" 3 ["k", "a"] (sp__three_pairs K)) : FnOk P w K mg base CX0 4 f fd ["k", "a"] (sp_witnesses K) := by
  refine F.ok sc_witnesses (fun vs H Q E h => ?_) (fun cdv A outer s H vs Q E hr h => ?_)
  · obtain ⟨k, a, B, rfl, _⟩ := h
    rfl
  · obtain ⟨k, a, B, rfl, fit, ly, lu, q⟩ := h
    obtain ⟨k1, a2, sa, sk, sx, su, sb, ss, b2, hB, hn, hk⟩ := id fit
    refine ⟨_, (pss_cons (ps_asg (pe_cal C__three_pairs hr (by rfl) (pa_cons (pv 0) (pa_cons (pv 1) pa_nil))) (pg_tup (by rfl) (pgs_cons (pg_tup (by rfl) (pgs_cons (pg_name (i := 2) sc_witnesses.nd rfl (.inl rfl)) (pgs_cons (pg_name (i := 3) sc_witnesses.nd rfl (.inl rfl)) pgs_nil))) (pgs_cons (pg_tup (by rfl) (pgs_cons (pg_name (i := 4) sc_witnesses.nd rfl (.inl rfl)) (pgs_cons (pg_name (i := 5) sc_witnesses.nd rfl (.inl rfl)) pgs_nil))) (pgs_cons (pg_tup (by rfl) (pgs_cons (pg_name (i := 6) sc_witnesses.nd rfl (.inl rfl)) (pgs_cons (pg_name (i := 7) sc_witnesses.nd rfl (.inl rfl)) pgs_nil))) (pgs_cons (pg_name (i := 8) sc_witnesses.nd rfl (.inl rfl)) pgs_nil))))))
      (pss_one (ps_ret (pe_disp (pps_cons pe_str (pv 2) (pps_cons pe_str (pv 3) (pps_cons pe_str (pv 4) (pps_cons pe_str (pv 5) (pps_cons pe_str (pv 6) (pps_cons pe_str (pv 7) (pps_cons pe_str (pv 8) (pps_cons pe_str (pe_op op_sub (pe_op op_fdivW (pv 5) (pe_op op_mulX (pv 3) (pv 3))) pe_int) (pps_cons pe_str (pe_op op_fdivW (pe_op op_sub (pv 8) pe_int) (pe_op op_mulX pe_int (pv 3))) (pps_cons pe_str (pe_op op_fdivW (pe_op op_sub (pv 8) (pv 1)) (pv 4)) (pps_cons pe_str (pe_op op_fdivW (pe_op op_sub (pv 6) (pv 2)) (pv 4)) (pps_cons pe_str (pe_op op_fdivW (pe_op op_sub (pv 7) (pv 0)) (pe_op op_mulX pe_int (pv 3))) (pps_cons pe_str (pe_op op_sub (pv 3) (pv 0)) pps_nil))))))))))))) (by rfl) (by rfl) (fun z => by cases z) (by decide))))), ?_⟩
    rw [st_witnesses]
    have hy := pxy_pos a2 k
    have sy : Sm B (py a k) := sx.le hy.1 (Int.le_of_lt hy.2)
    have hy1 : 0 < py a k := by
      have := py_ge a2 k
      omega
    have hu := pxy_pos a2 (nW k a)
    refine ⟨_, rfl, _, rfl, k, a, B, rfl, fit, fun H1 T t1 t2 t3 s1 n1 hT h1 h2 h3 => ?_⟩
    refine gTup_as (sq_of hT) rfl ⟨_, _, rfl, gTup_as (sq_of h1) rfl ⟨_, _, rfl, _, _, rfl, rfl, ?_⟩⟩
    refine ⟨_, _, rfl, gTup_as (sq_of h2) rfl ⟨_, _, rfl, _, _, rfl, rfl, ?_⟩⟩
    refine ⟨_, _, rfl, gTup_as (sq_of h3) rfl ⟨_, _, rfl, _, _, rfl, rfl, ?_⟩⟩
    refine ⟨_, _, rfl, rfl, ?_⟩
    dsimp only [List.set]
    have sy9 : Sm 9000 (4 * py a k) := (Sm.mul (Sm.lit (k := 64)) ly).mono (by decide)
    have syy : Sm 9000 (py a k * py a k) := (Sm.mul ly ly).mono (by decide)
    have h4 : 0 < 4 * py a k := by omega
    have hyy : 0 < py a k * py a k := Int.mul_pos hy1 hy1
    have hu0 : 0 < px a (nW k a) := by omega
    intro D nD
    refine ⟨_, rfl, _, rfl, _, rfl, _, rfl, _, rfl, _, rfl, _, rfl, ?_⟩
    refine ⟨_, rfl, _, rfl, _, rfl, _, _, rfl, rfl, Sm.mx sy sy (by omega), _, _, rfl, rfl, cdiv_of hyy syy, _, _, rfl, rfl, ?_⟩
    refine ⟨_, rfl, _, _, rfl, rfl, _, rfl, _, _, rfl, rfl, Sm.mx (Sm.lit (k := 64)) sy (by omega), _, _, rfl, rfl, cdiv_of h4 sy9, ?_⟩
    refine ⟨_, rfl, _, rfl, _, _, rfl, rfl, _, rfl, _, _, rfl, rfl, cdiv_of hu0 lu, ?_⟩
    refine ⟨_, rfl, _, rfl, _, _, rfl, rfl, _, rfl, _, _, rfl, rfl, cdiv_of hu0 lu, ?_⟩
    refine ⟨_, rfl, _, rfl, _, _, rfl, rfl, _, rfl, _, _, rfl, rfl, Sm.mx (Sm.lit (k := 64)) sy (by omega), _, _, rfl, rfl, cdiv_of h4 sy9, ?_⟩
    refine ⟨_, rfl, _, rfl, _, _, rfl, rfl, ?_⟩
    refine ⟨upd_same, kzOf nms (vsW k a), rfl, Nat.le_of_ble_eq_true rfl, ?_⟩
    rw [merge_kz rfl, upd_upd]
    exact q _ D (Same.new s1 (s1.free nD)) (s1.free nD) upd_same

def sp_unknown (K : PySem.W.Frag) : Sp := fun vs H Q _ => ∃ x : Str, vs = [.str x] ∧ ∀ H' r, Same H H' → H r = none → PD H' r (varP x) → Q (.ref r) H'
theorem ok_unknown {f : Addr} {fd : FuncData} (F : Fun K "unknown" "unknown" s_unknown f fd)  : FnOk P w K mg base CX0 1 f fd ["name"] (sp_unknown K) := by
  refine F.ok sc_unknown (fun vs H Q E h => ?_) (fun cdv A outer s H vs Q E hr h => ?_)
  · obtain ⟨n, rfl, _⟩ := h
    rfl
  · obtain ⟨n, rfl, q⟩ := h
    refine ⟨_, (pss_one (ps_ret (pe_dispT hr.units0 (pps_cons (pe_tup (pa_cons (pv 0) pa_nil)) pe_int pps_nil) (by rfl) (by rfl) (fun z => by cases z) (by decide)))), ?_⟩
    intro d nd
    refine ⟨_, rfl, Nat.le_of_ble_eq_true rfl, fun t nt => ?_⟩
    have hd : (upd (upd H d (.dT [])) t (.tup [.str n])) d = some (.dT []) := same_upd nt _ _ upd_same
    refine ⟨hd, [([.inr n], t, .int 1)], rfl, fun x hx => ?_, Nat.le_of_ble_eq_true rfl, ?_⟩
    · rw [List.mem_singleton] at hx
      subst hx
      exact upd_same
    have s1 : Same H (upd (upd H d (.dT [])) t (.tup [.str n])) := (same_upd nd).trans (same_upd nt)
    exact q _ d (Same.new s1 nd) nd upd_same

def sp_row_member (K : PySem.W.Frag) : Sp := fun _ _ _ _ => False
theorem ok_row_member {f : Addr} {fd : FuncData} (F : Fun K "row_member" "row_member" s_row_member f fd) (m_reversed : mg "reversed" = none) (m_range : mg "range" = none) : FnOk P w K mg base CX0 1 f fd ["n", "a"] (sp_row_member K) := by
  refine F.ok sc_row_member (fun vs H Q E h => h.elim) (fun cdv A outer s H vs Q E hr h => h.elim)

def sp__holds_row (K : PySem.W.Frag) : Sp := fun _ _ _ _ => False
theorem ok__holds_row {f : Addr} {fd : FuncData} (F : Fun K "_holds_row" "_holds_row" s__holds_row f fd) (C_row_member : Cal P w K mg base "row_member" 1 ["n", "a"] (sp_row_member K)) : FnOk P w K mg base CX0 2 f fd ["y", "n", "a"] (sp__holds_row K) := by
  refine F.ok sc__holds_row (fun vs H Q E h => h.elim) (fun cdv A outer s H vs Q E hr h => h.elim)

def sp_value_of (K : PySem.W.Frag) : Sp := fun vs H Q _ => ∃ (a d : Addr) (p : Poly) (ks : List (L2.Key × V)) (f : Str → Int) (B : Nat), vs = [.ref a, .ref d] ∧ PD H a p ∧ H d = some (.dK ks) ∧ (∀ t ∈ p, Sm B t.2 ∧ t.1.length ≤ 100 ∧ ∀ x ∈ t.1, valV ks (.inr x) = some (.int (f x)) ∧ Sm B (f x)) ∧ B ≤ 100000 ∧
  ∀ H', Same H H' → Q (.int (evp f p)) H'
theorem ok_value_of {f : Addr} {fd : FuncData} (F : Fun K "value_of" "value_of" s_value_of f fd)  : FnOk P w K mg base CX0 1 f fd ["polynomial", "values"] (sp_value_of K) := by
  refine F.ok sc_value_of (fun vs H Q E h => ?_) (fun cdv A outer s H vs Q E hr h => ?_)
  · obtain ⟨a, d, p, ks, f, B, rfl, _⟩ := h
    rfl
  · obtain ⟨a, d, p, ks, f, B, rfl, ha, hd, hp, hB, q⟩ := h
    refine ⟨_, (pss_cons (ps_set (i := 2) sc_value_of.nd rfl (.inl rfl) pe_int)
      (pss_cons (ps_lk (ps_for PassesOwn.never rfl (pi_itemsT (pv 0)) (pg_tup (by rfl) (pgs_cons (pg_name (i := 3) sc_value_of.nd rfl (.inl rfl)) (pgs_cons (pg_name (i := 4) sc_value_of.nd rfl (.inl rfl)) pgs_nil))) (pss_cons (ps_set (i := 5) sc_value_of.nd rfl (.inl rfl) (pv 4))
      (pss_cons (ps_for PassesOwn.never rfl (pi_tup (pv 3)) (pg_name (i := 6) sc_value_of.nd rfl (.inl rfl)) (pss_one (ps_set (i := 5) sc_value_of.nd rfl (.inl rfl) (pe_op op_mulX (pv 5) (pe_dget (hu_of hr) (pv 1) (pv 6) (fun _ _ => rfl))))))
      (pss_one (ps_set (i := 2) sc_value_of.nd rfl (.inl rfl) (pe_op op_add (pv 2) (pv 5))))))))
      (pss_one (ps_ret (pv 2))))), ?_⟩
    have hm := mut_one ha trivial
    refine lkS_all [a] hm fun Hl L => ?_
    obtain ⟨ob, lk⟩ := L.at_ a (List.mem_singleton.mpr rfl) _ ha
    have hda : d ∉ [a] := fun z => by
      rw [List.mem_singleton] at z
      rw [z, ha] at hd
      cases hd
    have hdl := L.there hd hda
    refine ⟨_, rfl, a, ob, enc p, rfl, lk, ?_⟩
    refine for_it walk_itemsT (fun i σ H' => ∃ c3 c4 c5 c6 : Option V, σ = [some (.ref a), some (.ref d), some (.int (evp f (p.take i))), c3, c4, c5, c6] ∧ Same Hl H') ?_ ?_ ?_ ?_
    · exact ⟨none, none, none, none, rfl, fun _ _ z => z⟩
    · rintro i σ H1 _ ⟨_, _, _, _, _, s1⟩
      exact s1 _ _ lk
    · rintro i x σ H1 H2 lt ⟨c3, c4, c5, c6, rfl, s1⟩ ⟨T, qk, k, v, hk, rfl, nT, hq, rfl⟩
      obtain ⟨m, c, hpi, rfl, rfl⟩ := enc_at hk
      rw [kI_V] at hq
      obtain ⟨hc, hml, hx⟩ := hp (m, c) (List.mem_of_getElem? hpi)
      have s2 := s1.trans (same_upd (o := .tup [.ref qk, .int c]) nT)
      have hq2 : MT (upd H1 T (.tup [.ref qk, .int c])) qk m := same_upd nT _ _ hq
      refine gTup_new rfl ⟨_, _, rfl, _, _, rfl, rfl, _, rfl, ?_⟩
      generalize upd H1 T (.tup [.ref qk, .int c]) = H2 at s2 hq2 ⊢
      refine ⟨_, rfl, qk, rfl, ⟨_, .inl (.inl hq2)⟩, ?_⟩
      refine for_it (walk_tup (K := K) (a := qk) (xs := m.map V.str)) (fun j σ H' => ∃ c6 : Option V, σ = [some (.ref a), some (.ref d), some (.int (evp f (p.take i))), some (.ref qk), some (.int c), some (.int (ev1 f (m.take j, c))), c6] ∧ Sm (B * (j + 1)) (ev1 f (m.take j, c)) ∧ H' = H2) ?_ ?_ ?_ ?_
      · exact ⟨_, rfl, by rw [Nat.mul_one]; exact hc, rfl⟩
      · rintro j σ H3 _ ⟨_, _, _, rfl⟩
        exact .inl (.inl hq2)
      · rintro j x σ H3 H4 ltj ⟨c6, rfl, hs, rfl⟩ ⟨rfl, hxj⟩
        rw [List.getElem?_map] at hxj
        obtain ⟨x, hx1, rfl⟩ := Option.map_eq_some_iff.mp hxj
        obtain ⟨hv, hf⟩ := hx x (List.mem_of_getElem? hx1)
        have jlt : j < m.length := (List.getElem?_eq_some_iff.mp hx1).1
        have e1 : ev1 f (m.take (j + 1), c) = ev1 f (m.take j, c) * f x := by
          unfold ev1
          rw [List.take_add_one, hx1]
          simp
        have hml : m.length ≤ 100 := hml
        have bnd : B * (j + 1) ≤ 100000 * 100 := Nat.mul_le_mul hB (by omega)
        refine ⟨_, rfl, _, rfl, _, rfl, d, .int (f x), rfl, .inl ⟨ks, .inr x, .inl (s2 _ _ hdl), rfl, hv.symm⟩, _, _, rfl, rfl, Sm.mx hs hf (by omega), ?_⟩
        refine ⟨some (.str x), ?_, ?_, rfl⟩
        · rw [e1]
          rfl
        · rw [e1, show B * (j + 1 + 1) = B * (j + 1) + B by rw [Nat.mul_succ]]
          exact hs.mul hf
      · rintro σ H3 ⟨c6, rfl, hs, rfl⟩
        rw [List.length_map, List.take_of_length_le (Nat.le_refl _)]
        refine ⟨_, rfl, _, rfl, _, _, rfl, rfl, some (.ref qk), some (.int c), some (.int (ev1 f (m, c))), c6, ?_, s2⟩
        rw [take_snoc hpi, evp_snoc]
        rfl
    · rintro σ H1 ⟨c3, c4, c5, c6, rfl, s1⟩
      rw [enc_len, List.take_of_length_le (Nat.le_refl _)]
      exact ⟨L.kept hm s1, _, rfl, q _ (back_same L s1)⟩

def sp__holds_under (K : PySem.W.Frag) : Sp := fun _ _ _ _ => False
theorem ok__holds_under {f : Addr} {fd : FuncData} (F : Fun K "_holds_under" "_holds_under" s__holds_under f fd)  : FnOk P w K mg base CX0 1 f fd ["a", "b"] (sp__holds_under K) := by
  refine F.ok sc__holds_under (fun vs H Q E h => h.elim) (fun cdv A outer s H vs Q E hr h => h.elim)

def sp_raised (K : PySem.W.Frag) : Sp := fun vs H Q _ => ∃ (b n B : Nat), vs = [.int b, .int n] ∧ 1 ≤ b ∧ Sm B (b : Int) ∧ Sm B ((b ^ n : Nat) : Int) ∧ B ≤ 100000 ∧ n < 2 ^ 60 ∧ Q (.int ((b ^ n : Nat) : Int)) H
theorem ok_raised {f : Addr} {fd : FuncData} (F : Fun K "raised" "raised" s_raised f fd) (m_reversed : mg "reversed" = none) (m_range : mg "range" = none) : FnOk P w K mg base CX0 1 f fd ["base", "exponent"] (sp_raised K) := by
  refine F.ok sc_raised (fun vs H Q E h => ?_) (fun cdv A outer s H vs Q E hr h => ?_)
  · obtain ⟨b, n, B, rfl, _⟩ := h
    rfl
  · obtain ⟨b, n, B, rfl, hb, sb, sbn, hB, hn, q⟩ := h
    refine ⟨_, (pss_cons (ps_set (i := 2) sc_raised.nd rfl (.inl rfl) pe_int)
      (pss_cons (ps_for PassesOwn.never rfl (pi_revR (by rfl) m_reversed (prg_1 (by rfl) m_range (pe_bits (pv 1)))) (pg_name (i := 3) sc_raised.nd rfl (.inl rfl)) (pss_cons (ps_set (i := 2) sc_raised.nd rfl (.inl rfl) (pe_op op_mulX (pv 2) (pv 2)))
      (pss_one (ps_if (pt_truth (pe_op op_and (pe_op op_shr (pv 1) (pv 3)) pe_int) (by intro _; rfl)) (pss_one (ps_set (i := 2) sc_raised.nd rfl (.inl rfl) (pe_op op_mulX (pv 2) (pv 0)))) pss_nil))))
      (pss_one (ps_ret (pv 2))))), ?_⟩
    have hL : bl n ≤ 60 := by
      by_cases h0 : 1 ≤ n
      · have h2 := bl_le h0
        by_cases z : bl n ≤ 60
        · exact z
        · have := Nat.pow_le_pow_right (n := 2) (by decide) (show 60 ≤ bl n - 1 by omega)
          omega
      · rw [show n = 0 by omega]
        decide
    have hL2 : Builtin.Int.intBits (n : Int) ≤ 60 := hL
    have sp : ∀ m, m ≤ n → Sm B ((b ^ m : Nat) : Int) := fun m hm => by
      unfold Sm at sbn ⊢
      rw [Int.natAbs_natCast] at sbn ⊢
      exact Nat.lt_of_le_of_lt (Nat.pow_le_pow_right hb hm) sbn
    walk_at "rd"
    refine for_rangeC (fun i σ H' => ∃ (c3 : Option V), σ = [some (.int b), some (.int n), some (.int ((b ^ (n / 2 ^ (bl n - i)) : Nat) : Int)), c3] ∧ H' = H) ?_ ?_ ?_
    · refine ⟨none, ?_, rfl⟩
      rw [Nat.sub_zero, Nat.div_eq_of_lt (bl_lt n)]
      rfl
    · intro i σ H1 hi hP
      obtain ⟨c3, rfl, rfl⟩ := hP
      have hi2 : i < bl n := by
        have : (((bl n : Nat) : Int) - 0).toNat = bl n := by omega
        exact this ▸ hi
      have hp : (0 : Int) + ((((bl n : Nat) : Int) - 0).toNat : Nat) - 1 + (i : Nat) * (-1) = ((bl n - 1 - i : Nat) : Int) := by omega
      have e0 : (0 : Int) + (((((Builtin.Int.intBits (n : Int) : Nat) : Int) - 0).toNat : Nat) : Int) - 1 + (i : Nat) * (-1) = ((bl n - 1 - i : Nat) : Int) := hp
      rw [e0]
      obtain ⟨m, em⟩ : ∃ m, m = n / 2 ^ (bl n - 1 - i) := ⟨_, rfl⟩
      have hm : m ≤ n := by
        rw [em]
        exact Nat.div_le_self _ _
      have eh : n / 2 ^ (bl n - i) = m / 2 := by rw [em]; exact half_pow n (bl n) i hi2
      rw [eh]
      have s2 := sp (m / 2) (by omega)
      have esq : ((b ^ (m / 2) : Nat) : Int) * ((b ^ (m / 2) : Nat) : Int) = ((b ^ (m / 2 + m / 2) : Nat) : Int) := by
        rw [Nat.pow_add]
        push_cast
        rfl
      have s3 := sp (m / 2 + m / 2) (by omega)
      rw [← esq] at s3
      have enext : n / 2 ^ (bl n - (i + 1)) = m := by
        rw [em]
        congr 2
        omega
      have ebit : Builtin.bitAnd ((n : Int) / 2 ^ ((bl n - 1 - i : Nat) : Int).toNat) 1 = ((m % 2 : Nat) : Int) := by
        rw [Int.toNat_natCast, show (n : Int) / 2 ^ (bl n - 1 - i) = ((m : Nat) : Int) by rw [em]; push_cast; rfl, show (1 : Int) = ((1 : Nat) : Int) from rfl, bitAnd_pp (by omega) (by omega), Int.toNat_natCast, Int.toNat_natCast, Nat.and_one_is_mod]
      walk_at "rd"
      rw [ebit]
      refine ite2 (fun e => ?_) (fun e => ?_)
      · have h1 : m % 2 = 1 := by
          have : ((m % 2 : Nat) : Int) ≠ 0 := by simpa using e
          omega
        walk_at "rd"
        rw [enext]
        refine ⟨some (V.int ((bl n - 1 - i : Nat) : Int)), ?_, rfl⟩
        refine congrArg (fun z => [some (V.int b), some (V.int n), some (V.int z), some (V.int ((bl n - 1 - i : Nat) : Int))]) ?_
        show ((b ^ (m / 2) : Nat) : Int) * ((b ^ (m / 2) : Nat) : Int) * (b : Int) = _
        rw [esq, show ((b ^ (m / 2 + m / 2) : Nat) : Int) * (b : Int) = ((b ^ (m / 2 + m / 2) * b : Nat) : Int) by push_cast; rfl, ← Nat.pow_succ]
        congr 2
        omega
      · have h1 : m % 2 = 0 := by
          have : ((m % 2 : Nat) : Int) = 0 := by simpa using e
          omega
        refine ⟨some (V.int ((bl n - 1 - i : Nat) : Int)), ?_, rfl⟩
        rw [enext]
        refine congrArg (fun z => [some (V.int b), some (V.int n), some (V.int z), some (V.int ((bl n - 1 - i : Nat) : Int))]) ?_
        show ((b ^ (m / 2) : Nat) : Int) * ((b ^ (m / 2) : Nat) : Int) = _
        rw [esq]
        congr 2
        omega
    · intro σ H1 hP
      obtain ⟨c3, rfl, rfl⟩ := hP
      walk_at "rd"
      have e1 : (((bl n : Nat) : Int) - 0).toNat = bl n := by omega
      have e2 : n / 2 ^ (bl n - (((Builtin.Int.intBits (n : Int) : Nat) : Int) - 0).toNat) = n := by
        show n / 2 ^ (bl n - (((bl n : Nat) : Int) - 0).toNat) = n
        rw [e1, Nat.sub_self, Nat.pow_zero, Nat.div_one]
      rw [e2]
      exact q

def sp__holds_power (K : PySem.W.Frag) : Sp := fun _ _ _ _ => False
theorem ok__holds_power {f : Addr} {fd : FuncData} (F : Fun K "_holds_power" "_holds_power" s__holds_power f fd) (C_raised : Cal P w K mg base "raised" 1 ["base", "exponent"] (sp_raised K)) : FnOk P w K mg base CX0 2 f fd ["z", "x", "y"] (sp__holds_power K) := by
  refine F.ok sc__holds_power (fun vs H Q E h => h.elim) (fun cdv A outer s H vs Q E hr h => h.elim)

def sp_holds (K : PySem.W.Frag) : Sp := fun vs H Q _ => ∃ (a d : Addr) (p : Poly) (ks : List (L2.Key × V)) (f : Str → Int) (B : Nat), vs = [.ref a, .ref d] ∧ ZR H a p ∧ H d = some (.dK ks) ∧ (∀ t ∈ p, Sm B t.2 ∧ t.1.length ≤ 100 ∧ ∀ x ∈ t.1, valV ks (.inr x) = some (.int (f x)) ∧ Sm B (f x)) ∧ B ≤ 100000 ∧
  ∀ H', Same H H' → Q (.bl (decide (evp f p = 0))) H'
theorem ok_holds {f : Addr} {fd : FuncData} (F : Fun K "holds" "holds" s_holds f fd) (C__holds_row : Cal P w K mg base "_holds_row" 2 ["y", "n", "a"] (sp__holds_row K)) (C_value_of : Cal P w K mg base "value_of" 1 ["polynomial", "values"] (sp_value_of K)) (C__holds_under : Cal P w K mg base "_holds_under" 1 ["a", "b"] (sp__holds_under K)) (C__holds_power : Cal P w K mg base "_holds_power" 2 ["z", "x", "y"] (sp__holds_power K)) : FnOk P w K mg base CX0 3 f fd ["relation", "values"] (sp_holds K) := by
  refine F.ok sc_holds (fun vs H Q E h => ?_) (fun cdv A outer s H vs Q E hr h => ?_)
  · obtain ⟨a, d, p, ks, f, B, rfl, _⟩ := h
    rfl
  · obtain ⟨a, d, p, ks, f, B, rfl, ⟨z, hz, hp⟩, hd, hv, hB, q⟩ := h
    refine ⟨_, (pss_cons (ps_set (i := 2) sc_holds.nd rfl (.inl rfl) (pe_ix ix_tup (pv 0) pe_int (fun _ _ => rfl)))
      (pss_cons (ps_setLc (i := 3) (own := [("polynomial", 4)]) (g := (gName 4)) (by rfl) sc_holds.nd rfl rfl (sw_true rfl rfl rfl (by decide +kernel)) (pi_tup (pe_slice sl_tupA (pv 0) (po_some pe_int) po_none)) (blkOk_by (own := [("polynomial", 4)]) (N := ["relation", "values", "word", "numbers", "polynomial"]) (sc := defScope s_holds) (by decide +kernel)) (fun _ _ _ _ _ => (pg_name (i := 4) sc_holds.nd rfl (Or.inl rfl))) (fun _ _ _ _ _ => pts_nil) (fun _ _ _ _ _ => (pe_cal C_value_of (hr.mono (by decide)) (by rfl) (pa_cons (pv 4) (pa_cons (pv 1) pa_nil)))))
      (pss_cons (ps_if (pt_cmpR op_eq (pv 2) pe_str (nomark _)) (pss_one (ps_ret (pe_cmpR op_eq (pe_ix ix_list (pv 3) pe_int (fun _ _ => rfl)) pe_int (nomark _)))) pss_nil)
      (pss_cons (ps_if (pt_cmpR op_eq (pv 2) pe_str (nomark _)) (pss_one (ps_ret (pe_calS C__holds_under (hr.mono (by decide)) (by rfl) (pv 3)))) pss_nil)
      (pss_cons (ps_if (pt_cmpR op_eq (pv 2) pe_str (nomark _)) (pss_one (ps_ret (pe_calS C__holds_power hr (by rfl) (pv 3)))) pss_nil)
      (pss_one (ps_ret (pe_calS C__holds_row hr (by rfl) (pv 3))))))))), ?_⟩
    refine ⟨_, rfl, a, _, 0, .str (PySem.Str.ofString "zero"), rfl, rfl, sq_of hz, rfl, ?_⟩
    refine ⟨_, rfl, 1, rfl, a, _, rfl, sq_of hz, ?_⟩
    refine ⟨fun e => absurd (show HT.sIx 2 0 (some 1) = 0 from e.1) (by decide), fun _ t nt => ?_⟩
    rw [show cutV [V.str (PySem.Str.ofString "zero"), V.ref z] (some 1) none = [V.ref z] from rfl]
    have ht : (upd H t (.tup [.ref z])) t = some (.tup [.ref z]) := upd_same
    have s1 := same_upd (o := .tup [.ref z]) nt
    refine ⟨t, rfl, ⟨_, sq_of ht⟩, fun D nD => ?_⟩
    generalize upd H t (.tup [.ref z]) = H1 at ht s1 nD ⊢
    refine lc_it (walk_tup (K := K) (a := t) (xs := [.ref z])) (fun i H' => H' D = some (.lst (([V.int (evp f p)]).take i)) ∧ Same H1 H') ?_ ?_ ?_ ?_
    · exact ⟨upd_same, same_upd nD⟩
    · rintro i H' _ ⟨_, s2⟩
      exact sq_of (s2 _ _ ht)
    · rintro i x H2 H3 lt ⟨hD, s2⟩ ⟨rfl, hx⟩
      obtain rfl : i = 0 := Nat.lt_one_iff.mp lt
      obtain rfl : V.ref z = x := Option.some.inj hx
      have s3 := s1.trans s2
      refine ⟨rfl, WK.yes (WK.ift ⟨_, rfl, _, rfl, z, d, p, ks, f, B, rfl, s3 _ _ hp, s3 _ _ hd, hv, hB, fun H4 s4 => ?_⟩)⟩
      exact ⟨_, s4 _ _ hD, sz_lt (Nat.zero_le _), upd_same, Same.new (s2.trans s4) nD⟩
    · rintro H2 ⟨hD, s2⟩
      have s3 := s1.trans s2
      refine ⟨_, rfl, ⟨rfl, _, rfl, ite2 (fun _ => ?_) (fun e => absurd (by decide +kernel) e)⟩⟩
      refine ⟨_, rfl, D, _, 0, .int (evp f p), rfl, rfl, .inl (.inl hD), rfl, rfl, ?_⟩
      have e : decide (V.int (evp f p) = V.int 0) = decide (evp f p = 0) := decide_eq_decide.mpr ⟨fun z => by injection z, fun z => by rw [z]⟩
      show Q (.bl (decide (V.int (evp f p) = V.int 0))) H2
      rw [e]
      exact q H2 s3

def isNum : V → Bool
  | .int _ => true
  | _ => false
def isNat : V → Bool
  | .int i => decide (0 ≤ i)
  | _ => false
def FlatK (v : V) : Prop := (∃ i, v = .int i) ∨ (∃ b, v = .bl b) ∨ v = .non ∨ ∃ x, v = .str x
def sp_is_number (K : PySem.W.Frag) : Sp := fun vs H Q _ => ∃ v : V, vs = [v] ∧ FlatK v ∧ Q (.bl (isNum v)) H
theorem ok_is_number {f : Addr} {fd : FuncData} (F : Fun K "is_number" "is_number" s_is_number f fd) (m_isinstance : mg "isinstance" = none) (m_int : mg "int" = none) (m_bool : mg "bool" = none) : FnOk P w K mg base CX0 1 f fd ["value"] (sp_is_number K) := by
  refine F.ok sc_is_number (fun vs H Q E h => ?_) (fun cdv A outer s H vs Q E hr h => ?_)
  · obtain ⟨i, rfl, _⟩ := h
    rfl
  · obtain ⟨v, rfl, hf, q⟩ := h
    refine ⟨_, (pss_one (ps_ret (pe_and (pe_callB call_isi (by rfl) m_isinstance (by decide +kernel) (pa_cons (pv 0) (pa_cons (pe_bltn (v := .ty "int") rfl m_int (by decide +kernel) rfl) pa_nil))) (pe_one (pe_not (pe_callB call_isi (by rfl) m_isinstance (by decide +kernel) (pa_cons (pv 0) (pa_cons (pe_bltn (v := .ty "bool") rfl m_bool (by decide +kernel) rfl) pa_nil)))))))), ?_⟩
    rcases hf with ⟨i, rfl⟩ | ⟨b, rfl⟩ | rfl | ⟨x, rfl⟩
    · exact ⟨_, rfl, .int i, .ty "int", .type "int", .type "int", true, rfl, .ty _, .base (.int i), kit_ty (by decide +kernel), _, rfl, WK.ift ⟨_, rfl, .int i, .ty "bool", .type "int", .type "bool", false, rfl, .ty _, .base (.int i), kit_ty (by decide +kernel), _, rfl, q⟩⟩
    · exact ⟨_, rfl, .bl b, .ty "int", .type "bool", .type "int", true, rfl, .ty _, .base (.bl b), kit_ty (by decide +kernel), _, rfl, WK.ift ⟨_, rfl, .bl b, .ty "bool", .type "bool", .type "bool", true, rfl, .ty _, .base (.bl b), kit_ty (by decide +kernel), _, rfl, q⟩⟩
    · exact ⟨_, rfl, .non, .ty "int", .type "NoneType", .type "int", false, rfl, .ty _, .base .non, kit_ty (by decide +kernel), _, rfl, WK.iff q⟩
    · exact ⟨_, rfl, .str x, .ty "int", .type "str", .type "int", false, rfl, .ty _, .base (.str x), kit_ty (by decide +kernel), _, rfl, WK.iff q⟩

def sp_is_natural (K : PySem.W.Frag) : Sp := fun vs H Q _ => ∃ v : V, vs = [v] ∧ FlatK v ∧ Q (.bl (isNat v)) H
theorem ok_is_natural {f : Addr} {fd : FuncData} (F : Fun K "is_natural" "is_natural" s_is_natural f fd) (C_is_number : Cal P w K mg base "is_number" 1 ["value"] (sp_is_number K)) : FnOk P w K mg base CX0 2 f fd ["value"] (sp_is_natural K) := by
  refine F.ok sc_is_natural (fun vs H Q E h => ?_) (fun cdv A outer s H vs Q E hr h => ?_)
  · obtain ⟨i, rfl, _⟩ := h
    rfl
  · obtain ⟨v, rfl, hf, q⟩ := h
    refine ⟨_, (pss_one (ps_ret (pe_and (pe_cal C_is_number hr (by rfl) (pa_cons (pv 0) pa_nil)) (pe_one (pe_cmpR op_ge (pv 0) pe_int (nomark _)))))), ?_⟩
    refine ⟨_, rfl, v, rfl, hf, _, rfl, ?_⟩
    rcases hf with ⟨i, rfl⟩ | ⟨b, rfl⟩ | rfl | ⟨x, rfl⟩
    · exact WK.ift ⟨_, rfl, _, _, rfl, rfl, q⟩
    · exact WK.iff q
    · exact WK.iff q
    · exact WK.iff q

def sp__without_zeros (K : PySem.W.Frag) : Sp := fun vs H Q _ => ∃ (a : Addr) (p : Poly), vs = [.ref a] ∧ PD H a p ∧ KN p ∧ p.length ≤ 100000 ∧ ∀ H' r, Same H H' → H r = none → PD H' r (nz p) → Q (.ref r) H'
theorem ok__without_zeros {f : Addr} {fd : FuncData} (F : Fun K "_without_zeros" "_without_zeros" s__without_zeros f fd)  : FnOk P w K mg base CX0 1 f fd ["sums"] (sp__without_zeros K) := by
  refine F.ok sc__without_zeros (fun vs H Q E h => ?_) (fun cdv A outer s H vs Q E hr h => ?_)
  · obtain ⟨a, p, rfl, _⟩ := h
    rfl
  · obtain ⟨a, p, rfl, hp, kn, hl, q⟩ := h
    refine ⟨_, (pss_one (ps_ret (pe_lk (pe_dcT hr.units0 (own := [("monomial", 1)]) (g := (gName 1)) (by rfl) sc__without_zeros.nd (pi_keys (pv 0)) (blkOk_by (own := [("monomial", 1)]) (N := ["sums", "monomial"]) (sc := defScope s__without_zeros) (by decide +kernel)) (fun _ _ _ _ _ => (pg_name (i := 1) sc__without_zeros.nd rfl (Or.inl rfl))) (fun _ _ _ _ _ => (pts_one (pt_cmpR op_ne (pe_dget (hu_of hr) (pv 0) (pv 1) (fun _ _ => rfl)) pe_int (nomark _)))) (fun _ _ _ _ _ => (pv 1)) (fun _ _ _ _ _ => (pe_dget (hu_of hr) (pv 0) (pv 1) (fun _ _ => rfl))))))), ?_⟩
    have hm := mut_one hp trivial
    refine lk_all [a] hm fun Hl L => ?_
    obtain ⟨ob, lk⟩ := L.at_ a (List.mem_singleton.mpr rfl) _ hp
    refine ⟨_, rfl, a, ob, rfl, .inr ⟨_, lk, fun D nD => ?_⟩⟩
    refine dcT_it walk_keysT (fun i H' => PD H' D (nz (p.take i)) ∧ Same Hl H') ?_ ?_ ?_ ?_
    · exact ⟨upd_same, same_upd nD⟩
    · rintro i H1 _ ⟨_, s⟩
      exact s _ _ lk
    · rintro i x H1 H2 lt ⟨hD, s⟩ ⟨rfl, k, v, qk, hk, rfl, hq⟩
      obtain ⟨m, c, hpi, rfl, rfl⟩ := enc_at hk
      have hq : MT H2 qk m := by rw [kI_V] at hq; exact hq
      have hget : DGet H2 a (.ref qk) (some (.int c)) := by
        have := PD.get (.inr ⟨ob, s _ _ lk⟩) hq
        rw [getP_of kn hpi] at this
        exact this
      refine ⟨rfl, _, rfl, _, rfl, a, .int c, rfl, hget, ?_⟩
      refine WK.cst (WK.ne_i ⟨_, rfl, ite2 (fun e => ?_) fun e => ?_⟩)
      · have hc : c ≠ 0 := by
          rintro rfl
          simp at e
        refine ⟨_, rfl, _, rfl, _, rfl, a, .int c, rfl, hget, enc (nz (p.take i)), kI m, qk, rfl, hq.key, hD, ?_, ?_, Same.new s nD⟩
        · rw [enc_len]
          exact sz_lt (Nat.le_trans (nz_len _) (Nat.le_trans (List.length_take_le ..) (by rw [enc_len] at lt; omega)))
        · rw [enc_put, putP_new (nz_fresh kn hpi), take_snoc hpi, nz_snoc, if_neg hc]
          exact upd_same
      · have hc : c = 0 := by
          by_cases z : c = 0
          · exact z
          · exact absurd (by simp [z]) e
        refine ⟨?_, s⟩
        rw [take_snoc hpi, nz_snoc, if_pos hc]
        exact hD
    · rintro H1 ⟨hD, s⟩
      rw [enc_len, List.take_of_length_le (Nat.le_refl _)] at hD
      obtain ⟨n1, n2⟩ := L.fresh hm nD
      exact ⟨L.kept hm s, q _ D (back_same L s) n1 ((back_off n2).trans hD)⟩

def sp_constant (K : PySem.W.Frag) : Sp := fun vs H Q _ => ∃ n : Int, vs = [.int n] ∧ ∀ H' r, Same H H' → H r = none → PD H' r (conP n) → Q (.ref r) H'
theorem ok_constant {f : Addr} {fd : FuncData} (F : Fun K "constant" "constant" s_constant f fd) (C__without_zeros : Cal P w K mg base "_without_zeros" 1 ["sums"] (sp__without_zeros K)) : FnOk P w K mg base CX0 2 f fd ["number"] (sp_constant K) := by
  refine F.ok sc_constant (fun vs H Q E h => ?_) (fun cdv A outer s H vs Q E hr h => ?_)
  · obtain ⟨n, rfl, _⟩ := h
    rfl
  · obtain ⟨n, rfl, q⟩ := h
    refine ⟨_, (pss_one (ps_ret (pe_cal C__without_zeros hr (by rfl) (pa_cons (pe_dispT hr.units0 (pps_cons (pe_tup pa_nil) (pv 0) pps_nil) (by rfl) (by rfl) (fun z => by cases z) (by decide)) pa_nil)))), ?_⟩
    intro d nd
    refine ⟨Nat.zero_le _, fun t nt => ⟨_, rfl, ?_⟩⟩
    have hd : (upd (upd H d (.dT [])) t (.tup [])) d = some (.dT []) := same_upd nt _ _ upd_same
    refine ⟨hd, [([], t, .int n)], rfl, fun x hx => ?_, Nat.le_of_ble_eq_true rfl, ?_⟩
    · rw [List.mem_singleton] at hx
      subst hx
      exact upd_same
    have s1 : Same H (upd (upd H d (.dT [])) t (.tup [])) := (same_upd nd).trans (same_upd nt)
    refine ⟨d, [([], n)], rfl, upd_same, by unfold KN; simp, Nat.le_of_ble_eq_true rfl, fun H' r s nr hr => q H' r (Same.trans (Same.new s1 nd) s) ?_ hr⟩
    exact (Same.new s1 nd).free nr

def sp_scaled (K : PySem.W.Frag) : Sp := fun vs H Q _ => ∃ (a : Addr) (p : Poly) (n : Int) (B : Nat), vs = [.ref a, .int n] ∧ PD H a p ∧ KN p ∧ p.length ≤ 100000 ∧ (∀ t ∈ p, Sm B t.2) ∧ Sm B n ∧ B ≤ 1000000 ∧
  ∀ H' r, Same H H' → H r = none → PD H' r (sclP p n) → Q (.ref r) H'
theorem ok_scaled {f : Addr} {fd : FuncData} (F : Fun K "scaled" "scaled" s_scaled f fd) (C__without_zeros : Cal P w K mg base "_without_zeros" 1 ["sums"] (sp__without_zeros K)) : FnOk P w K mg base CX0 2 f fd ["polynomial", "number"] (sp_scaled K) := by
  refine F.ok sc_scaled (fun vs H Q E h => ?_) (fun cdv A outer s H vs Q E hr h => ?_)
  · obtain ⟨a, p, n, B, rfl, _⟩ := h
    rfl
  · obtain ⟨a, p, n, B, rfl, hp, kn, hl, hs, hn, hB, q⟩ := h
    refine ⟨_, (pss_one (ps_ret (pe_cal C__without_zeros hr (by rfl) (pa_cons (pe_lk (pe_dcT hr.units0 (own := [("monomial", 2)]) (g := (gName 2)) (by rfl) sc_scaled.nd (pi_keys (pv 0)) (blkOk_by (own := [("monomial", 2)]) (N := ["polynomial", "number", "monomial"]) (sc := defScope s_scaled) (by decide +kernel)) (fun _ _ _ _ _ => (pg_name (i := 2) sc_scaled.nd rfl (Or.inl rfl))) (fun _ _ _ _ _ => pts_nil) (fun _ _ _ _ _ => (pv 2)) (fun _ _ _ _ _ => (pe_op op_mulX (pe_dget (hu_of hr) (pv 0) (pv 2) (fun _ _ => rfl)) (pv 1))))) pa_nil)))), ?_⟩
    have hm := mut_one hp trivial
    refine lk_all [a] hm fun Hl L => ?_
    obtain ⟨ob, lk⟩ := L.at_ a (List.mem_singleton.mpr rfl) _ hp
    have kn2 : KN (p.map fun t => (t.1, t.2 * n)) := by
      unfold KN
      rw [scl_keys]
      exact kn
    refine ⟨_, rfl, a, ob, rfl, .inr ⟨_, lk, fun D nD => ?_⟩⟩
    refine dcT_it walk_keysT (fun i H' => PD H' D ((p.map fun t => (t.1, t.2 * n)).take i) ∧ Same Hl H') ?_ ?_ ?_ ?_
    · exact ⟨upd_same, same_upd nD⟩
    · rintro i H1 _ ⟨_, s⟩
      exact s _ _ lk
    · rintro i x H1 H2 lt ⟨hD, s⟩ ⟨rfl, k, v, qk, hk, rfl, hq⟩
      obtain ⟨m, c, hpi, rfl, rfl⟩ := enc_at hk
      have hq : MT H2 qk m := by rw [kI_V] at hq; exact hq
      have hget : DGet H2 a (.ref qk) (some (.int c)) := by
        have := PD.get (.inr ⟨ob, s _ _ lk⟩) hq
        rw [getP_of kn hpi] at this
        exact this
      have hc : Sm B c := hs (m, c) (List.mem_of_getElem? hpi)
      refine ⟨rfl, WK.yes (WK.ift ?_)⟩
      refine ⟨_, rfl, _, rfl, _, rfl, a, .int c, rfl, hget, _, rfl, c, n, rfl, rfl, Sm.mx hc hn (by omega), ?_⟩
      refine ⟨_, kI m, qk, rfl, hq.key, hD, ?_, ?_, Same.new s nD⟩
      · rw [enc_len]
        exact sz_lt (Nat.le_trans (List.length_take_le' ..) (by rw [List.length_map]; exact hl))
      · rw [enc_put, putP_new (take_fresh kn2 (scl_at hpi n)), take_snoc (scl_at hpi n)]
        exact upd_same
    · rintro H1 ⟨hD, s⟩
      rw [enc_len, List.take_of_length_le (by rw [List.length_map]; exact Nat.le_refl _)] at hD
      obtain ⟨n1, n2⟩ := L.fresh hm nD
      refine ⟨L.kept hm s, D, _, rfl, (back_off n2).trans hD, kn2, by rw [List.length_map]; exact hl, fun H' r s' nr hr => q _ r ((back_same L s).trans s') ((back_same L s).free nr) hr⟩

def sp_collected (K : PySem.W.Frag) : Sp := fun vs H Q _ => ∃ (L : Addr) (as : List Addr) (ts : Poly), vs = [.ref L] ∧ H L = some (.lst (as.map V.ref)) ∧ Paired (TP1 H) as ts ∧ ts.length ≤ 100000 ∧
  ∀ H' r, Same H H' → H r = none → PD H' r (coll ts) → Q (.ref r) H'
theorem ok_collected {f : Addr} {fd : FuncData} (F : Fun K "collected" "collected" s_collected f fd) (C__without_zeros : Cal P w K mg base "_without_zeros" 1 ["sums"] (sp__without_zeros K)) : FnOk P w K mg base CX0 2 f fd ["terms"] (sp_collected K) := by
  refine F.ok sc_collected (fun vs H Q E h => ?_) (fun cdv A outer s H vs Q E hr h => ?_)
  · obtain ⟨L, as, ts, rfl, _⟩ := h
    rfl
  · obtain ⟨L, as, ts, rfl, hL, hp, hl, q⟩ := h
    refine ⟨_, (pss_cons (ps_set (i := 1) sc_collected.nd rfl (.inl rfl) pe_dnewT)
      (pss_cons (ps_for PassesOwn.never rfl (pi_list (pv 0)) (pg_tup (by rfl) (pgs_cons (pg_name (i := 2) sc_collected.nd rfl (.inl rfl)) (pgs_cons (pg_name (i := 3) sc_collected.nd rfl (.inl rfl)) pgs_nil))) (pss_one (ps_dput (hu_of hr) (pv 1) (pv 2) (pe_op op_add (pe_dget2 (hu_of hr) (pv 1) (pv 2) pe_int ⟨by rfl, by rfl, by rfl, by rfl⟩) (pv 3)) (by rfl))))
      (pss_one (ps_ret (pe_cal C__without_zeros hr (by rfl) (pa_cons (pv 1) pa_nil)))))), ?_⟩
    intro D nD
    have len := Paired.length hp
    have hL1 : (upd H D (.dT [])) L = some (.lst (as.map V.ref)) := same_upd nD _ _ hL
    refine ⟨_, rfl, L, rfl, ⟨_, .inl (.inl hL1)⟩, ?_⟩
    refine for_list (K := K) (a := L) (xs := as.map V.ref) (fun i σ H' => ∃ c2 c3 : Option V, σ = [some (.ref L), some (.ref D), c2, c3] ∧ PD H' D (sums (ts.take i)) ∧ Same H H') ?_ ?_ ?_ ?_
    · exact ⟨none, none, rfl, upd_same, same_upd nD⟩
    · rintro i σ H1 _ ⟨c2, c3, _, _, s1⟩
      exact .inl (.inl (s1 _ _ hL))
    · rintro i v σ H1 hv ⟨c2, c3, rfl, hD, s1⟩
      obtain ⟨b, hb, rfl⟩ := ref_at hv
      obtain ⟨t, ht, qk, tb, tq⟩ := L2.paired_get hp hb
      obtain ⟨m, c⟩ := t
      refine gTup_as (sq_of (s1 _ _ tb)) rfl ⟨_, _, rfl, _, _, rfl, rfl, ?_⟩
      have hq : MT H1 qk m := s1 _ _ tq
      have hget : DGet H1 D (.ref qk) ((getP (sums (ts.take i)) m).map V.int) := PD.get (.inl hD) hq
      have hlen : (sums (ts.take i)).length < sizeLine := sz_lt (Nat.le_trans (sums_len _) (Nat.le_trans (List.length_take_le' ..) hl))
      refine ⟨_, rfl, D, rfl, .inr ⟨_, .inl hD⟩, _, rfl, _, hget, ?_⟩
      rw [getD_int]
      refine ⟨_, rfl, _, _, rfl, rfl, _, rfl, _, rfl, D, _, rfl, PD.put hD hq hlen, _, _, rfl, ?_, Same.new s1 nD⟩
      rw [take_snoc ht, sums_snoc]
      exact upd_same
    · rintro σ H1 ⟨c2, c3, rfl, hD, s1⟩
      rw [List.length_map, len, List.take_of_length_le (Nat.le_refl _)] at hD
      exact ⟨_, rfl, D, _, rfl, hD, sums_kn ts, Nat.le_trans (sums_len _) hl, fun H' r s nr hr => q H' r (s1.trans s) (s1.free nr) hr⟩

def sp_sum_of (K : PySem.W.Frag) : Sp := fun vs H Q _ => ∃ (L : Addr) (as : List Addr) (ps : List Poly), vs = [.ref L] ∧ H L = some (.lst (as.map V.ref)) ∧ Paired (PD H) as ps ∧ ps.flatten.length ≤ 100000 ∧
  ∀ H' r, Same H H' → H r = none → PD H' r (coll ps.flatten) → Q (.ref r) H'
theorem ok_sum_of {f : Addr} {fd : FuncData} (F : Fun K "sum_of" "sum_of" s_sum_of f fd) (C_collected : Cal P w K mg base "collected" 2 ["terms"] (sp_collected K)) : FnOk P w K mg base CX0 3 f fd ["polynomials"] (sp_sum_of K) := by
  refine F.ok sc_sum_of (fun vs H Q E h => ?_) (fun cdv A outer s H vs Q E hr h => ?_)
  · obtain ⟨L, as, ps, rfl, _⟩ := h
    rfl
  · obtain ⟨L, as, ps, rfl, hL, hp, hl, q⟩ := h
    refine ⟨_, (pss_one (ps_ret (pe_cal C_collected hr (by rfl) (pa_cons (pe_lk (pe_lc2 (own := [("polynomial", 1), ("term", 2)]) (vs1 := [2]) (g := (gName 1)) (g1 := (gName 2)) (by rfl) sc_sum_of.nd (pi_list (pv 0)) (blkOk_by (own := [("polynomial", 1), ("term", 2)]) (N := ["polynomials", "polynomial", "term"]) (sc := defScope s_sum_of) (by decide +kernel)) (by decide) (fun _ _ _ _ _ => (pg_name (i := 1) sc_sum_of.nd rfl (Or.inl rfl))) (fun _ _ _ _ _ => pts_nil) (fun _ _ _ _ _ => (pi_pairsT (pv 1))) (fun _ _ _ _ _ => (pg_name (i := 2) sc_sum_of.nd rfl (Or.inl rfl))) (fun _ _ _ _ _ => pts_nil) (fun _ _ _ _ _ => (pv 2)))) pa_nil)))), ?_⟩
    have hm : ∀ d ∈ as, ∃ u, H d = some u ∧ Mut (some u) := fun d hd => by
      obtain ⟨i, hi⟩ := List.mem_iff_getElem?.mp hd
      obtain ⟨p, _, e⟩ := L2.paired_get hp hi
      exact ⟨_, e, trivial⟩
    refine lk_all as hm fun Hl Lk => ?_
    have hLn : L ∉ as := fun z => by
      obtain ⟨i, hi⟩ := List.mem_iff_getElem?.mp z
      obtain ⟨p, _, e⟩ := L2.paired_get hp hi
      rw [e] at hL
      cases hL
    have hLl := Lk.there hL hLn
    have len := Paired.length hp
    refine ⟨_, rfl, L, rfl, ⟨_, .inl (.inl hLl)⟩, fun D nD => ?_⟩
    refine lc2_it (walk_list (K := K) (a := L) (xs := as.map V.ref)) (fun i H' => ∃ bs : List Addr, H' D = some (.lst (bs.map V.ref)) ∧ Paired (TP1 H') bs (ps.take i).flatten ∧ Same Hl H') ?_ ?_ ?_ ?_
    · exact ⟨[], upd_same, .nil, same_upd nD⟩
    · rintro i H1 _ ⟨bs, _, _, s1⟩
      exact .inl (.inl (s1 _ _ hLl))
    · rintro i x H1 H2 lt ⟨bs, hD, hbs, s1⟩ ⟨rfl, hx⟩
      obtain ⟨a, ha, rfl⟩ := ref_at hx
      obtain ⟨p, hpi, hpa⟩ := L2.paired_get hp ha
      obtain ⟨ob, lk⟩ := Lk.at_ a (List.mem_of_getElem? ha) _ hpa
      have nab := Paired.length hbs
      refine ⟨rfl, WK.yes (WK.ift ⟨_, rfl, a, ob, enc p, rfl, s1 _ _ lk, ?_⟩)⟩
      refine in_it walk_itemsT (fun j H' => ∃ bs : List Addr, H' D = some (.lst (bs.map V.ref)) ∧ Paired (TP1 H') bs ((ps.take i).flatten ++ p.take j) ∧ Same Hl H') ?_ ?_ ?_ ?_
      · refine ⟨bs, hD, ?_, s1⟩
        rw [List.take_zero, List.append_nil]
        exact hbs
      · rintro j H3 _ ⟨_, _, _, s3⟩
        exact s3 _ _ lk
      · rintro j x H3 H4 ltj ⟨cs, hD3, hcs, s3⟩ ⟨T, qk, k, v, hk, rfl, nT, hq, rfl⟩
        obtain ⟨m, c, hpj, rfl, rfl⟩ := enc_at hk
        rw [kI_V] at hq
        have nac := Paired.length hcs
        have hTD : T ≠ D := fun e => by
          rw [e, hD3] at nT
          cases nT
        have hqD : qk ≠ D := fun e => by
          rw [e, hD3] at hq
          cases hq
        have hqT : qk ≠ T := ne_of_none hq nT
        have csmall : cs.length ≤ 100000 := by
          have h1 := flat_le ps (i + 1)
          rw [flat_take hpi, List.length_append] at h1
          rw [nac, List.length_append, List.length_take]
          omega
        refine ⟨rfl, WK.yes (WK.ift ⟨_, rfl, cs.map V.ref, same_upd nT _ _ hD3, by rw [List.length_map]; exact sz_lt csmall, cs ++ [T], ?_, ?_, Same.new (s3.trans (same_upd nT)) nD⟩)⟩
        · rw [upd_same, List.map_append]
          rfl
        · rw [take_snoc hpj, ← List.append_assoc]
          refine Paired.snoc (Paired.mapP hcs fun b t ⟨q1, h1, h2⟩ => ⟨q1, ?_, ?_⟩) ⟨qk, ?_, ?_⟩
          · rw [upd_ne (fun e => by rw [e, hD3] at h1; cases h1)]
            exact same_upd nT _ _ h1
          · show (upd (upd H3 T _) D _) q1 = _
            rw [upd_ne (fun e => by unfold MT at h2; rw [e, hD3] at h2; cases h2)]
            exact same_upd nT _ _ h2
          · rw [upd_ne hTD]
            exact upd_same
          · show (upd (upd H3 T _) D _) qk = _
            rw [upd_ne hqD, upd_ne hqT]
            exact hq
      · rintro H3 ⟨cs, hD3, hcs, s3⟩
        rw [enc_len, List.take_of_length_le (Nat.le_refl _), ← flat_take hpi] at hcs
        exact ⟨cs, hD3, hcs, s3⟩
    · rintro H1 ⟨bs, hD, hbs, s1⟩
      rw [List.length_map, len, List.take_of_length_le (Nat.le_refl _)] at hbs
      obtain ⟨n1, n2⟩ := Lk.fresh hm nD
      have off : ∀ {b : Addr} {xs : List V}, H1 b = some (.tup xs) → back as H H1 b = some (.tup xs) := fun {b xs} h => by
        refine (back_off fun z => ?_).trans h
        obtain ⟨u, e, mu⟩ := hm b z
        obtain ⟨ob, lk⟩ := Lk.at_ b z u e
        have := s1 _ _ lk
        rw [h] at this
        cases this
      refine ⟨Lk.kept hm s1, D, bs, ps.flatten, rfl, (back_off n2).trans hD, Paired.mapP hbs fun b t ⟨q1, h1, h2⟩ => ⟨q1, off h1, off h2⟩, hl, fun H' r s' nr hr => ?_⟩
      exact q H' r ((back_same Lk s1).trans s') ((back_same Lk s1).free nr) hr

def sp_plus (K : PySem.W.Frag) : Sp := fun vs H Q _ => ∃ (a b : Addr) (p r : Poly), vs = [.ref a, .ref b] ∧ PD H a p ∧ PD H b r ∧ p.length + r.length ≤ 100000 ∧
  ∀ H' d, Same H H' → H d = none → PD H' d (plusP p r) → Q (.ref d) H'
theorem ok_plus {f : Addr} {fd : FuncData} (F : Fun K "plus" "plus" s_plus f fd) (C_sum_of : Cal P w K mg base "sum_of" 3 ["polynomials"] (sp_sum_of K)) : FnOk P w K mg base CX0 4 f fd ["first", "second"] (sp_plus K) := by
  refine F.ok sc_plus (fun vs H Q E h => ?_) (fun cdv A outer s H vs Q E hr h => ?_)
  · obtain ⟨a, b, p, r, rfl, _⟩ := h
    rfl
  · obtain ⟨a, b, p, r, rfl, ha, hb, hl, q⟩ := h
    refine ⟨_, (pss_one (ps_ret (pe_cal C_sum_of hr (by rfl) (pa_cons (pe_lst (pa_cons (pv 0) (pa_cons (pv 1) pa_nil))) pa_nil)))), ?_⟩
    refine ⟨_, rfl, _, rfl, Nat.le_of_ble_eq_true rfl, fun L nL => ?_⟩
    have e : [p, r].flatten = p ++ r := by simp
    refine ⟨L, [a, b], [p, r], rfl, upd_same, .cons (same_upd nL _ _ ha) (.cons (same_upd nL _ _ hb) .nil), by rw [e, List.length_append]; exact hl, fun H' d s nd hd => ?_⟩
    rw [e] at hd
    exact q H' d ((same_upd nL).trans s) ((same_upd nL).free nd) hd

def sp_minus (K : PySem.W.Frag) : Sp := fun vs H Q _ => ∃ (a b : Addr) (p r : Poly) (B : Nat), vs = [.ref a, .ref b] ∧ PD H a p ∧ PD H b r ∧ KN r ∧ p.length + r.length ≤ 100000 ∧ (∀ t ∈ r, Sm B t.2) ∧ 1 ≤ B ∧ B ≤ 1000000 ∧
  ∀ H' d, Same H H' → H d = none → PD H' d (minP p r) → Q (.ref d) H'
theorem ok_minus {f : Addr} {fd : FuncData} (F : Fun K "minus" "minus" s_minus f fd) (C_plus : Cal P w K mg base "plus" 4 ["first", "second"] (sp_plus K)) (C_scaled : Cal P w K mg base "scaled" 2 ["polynomial", "number"] (sp_scaled K)) : FnOk P w K mg base CX0 5 f fd ["first", "second"] (sp_minus K) := by
  refine F.ok sc_minus (fun vs H Q E h => ?_) (fun cdv A outer s H vs Q E hr h => ?_)
  · obtain ⟨a, b, p, r, B, rfl, _⟩ := h
    rfl
  · obtain ⟨a, b, p, r, B, rfl, ha, hb, kn, hl, hs, hB1, hB, q⟩ := h
    refine ⟨_, (pss_one (ps_ret (pe_cal C_plus hr (by rfl) (pa_cons (pv 0) (pa_cons (pe_cal C_scaled (hr.mono (by decide)) (by rfl) (pa_cons (pv 1) (pa_cons (pe_un un_neg pe_int) pa_nil))) pa_nil))))), ?_⟩
    refine ⟨_, rfl, _, rfl, _, rfl, ?_⟩
    refine ⟨b, r, -1, B, rfl, hb, kn, by omega, hs, sm_neg1 hB1, hB, fun H1 d1 s1 n1 h1 => ⟨a, d1, p, sclP r (-1), rfl, s1 _ _ ha, h1, ?_, fun H' d s nd hd => q H' d (s1.trans s) (s1.free nd) hd⟩⟩
    have := scl_len r (-1)
    omega

def sp_equal (K : PySem.W.Frag) : Sp := fun vs H Q _ => ∃ (a b : Addr) (p r : Poly) (B : Nat), vs = [.ref a, .ref b] ∧ PD H a p ∧ PD H b r ∧ KN r ∧ p.length + r.length ≤ 100000 ∧ (∀ t ∈ r, Sm B t.2) ∧ 1 ≤ B ∧ B ≤ 1000000 ∧
  ∀ H' d, Same H H' → H d = none → ZR H' d (minP p r) → Q (.ref d) H'
theorem ok_equal {f : Addr} {fd : FuncData} (F : Fun K "equal" "equal" s_equal f fd) (C_minus : Cal P w K mg base "minus" 5 ["first", "second"] (sp_minus K)) : FnOk P w K mg base CX0 6 f fd ["first", "second"] (sp_equal K) := by
  refine F.ok sc_equal (fun vs H Q E h => ?_) (fun cdv A outer s H vs Q E hr h => ?_)
  · obtain ⟨a, b, p, r, B, rfl, _⟩ := h
    rfl
  · obtain ⟨a, b, p, r, B, rfl, ha, hb, kn, hl, hs, hB1, hB, q⟩ := h
    refine ⟨_, (pss_one (ps_ret (pe_tup (pa_cons pe_str (pa_cons (pe_cal C_minus hr (by rfl) (pa_cons (pv 0) (pa_cons (pv 1) pa_nil))) pa_nil))))), ?_⟩
    refine ⟨_, rfl, _, rfl, a, b, p, r, B, rfl, ha, hb, kn, hl, hs, hB1, hB, fun H1 z s1 nz hz => ?_⟩
    refine ⟨Nat.le_of_ble_eq_true rfl, fun t nt => ?_⟩
    exact q _ t (s1.trans (same_upd nt)) (s1.free nt) ⟨z, upd_same, same_upd nt _ _ hz⟩

def sp__merged (K : PySem.W.Frag) : Sp := fun vs H Q _ => ∃ (a b : Addr) (m n : Mono), vs = [.ref a, .ref b] ∧ MT H a m ∧ MT H b n ∧ m.length + n.length < 64 ∧ ∀ H' r, Same H H' → MT H' r (mrg m n) → Q (.ref r) H'
theorem ok__merged {f : Addr} {fd : FuncData} (F : Fun K "_merged" "_merged" s__merged f fd) (m_tuple : mg "tuple" = none) (m_sorted : mg "sorted" = none) : FnOk P w K mg base CX0 1 f fd ["first", "second"] (sp__merged K) := by
  refine F.ok sc__merged (fun vs H Q E h => ?_) (fun cdv A outer s H vs Q E hr h => ?_)
  · obtain ⟨a, b, m, n, rfl, _⟩ := h
    rfl
  · obtain ⟨a, b, m, n, rfl, ha, hb, hl, q⟩ := h
    refine ⟨_, (pss_one (ps_ret (pe_callTy call_tuple_of (by rfl) m_tuple (by decide +kernel) (pa_cons (pe_callB cr_sortT (by rfl) m_sorted (by decide +kernel) (pa_cons (pe_op op_catA (pv 0) (pv 1)) pa_nil)) pa_nil)))), ?_⟩
    have fin : ∀ (t : Addr) (H1 : Hp), Same H H1 → MT H1 t (m ++ n) → rSortT K [.ref t] H1 fun v H2 => ∃ p ys, [v] = [V.ref p] ∧ ((SqL K H2 p ys ∧ ∀ l, H2 l = none → Q (.ref l) (upd H2 l (.tup ys))) ∨ (SqT K H2 p ys ∧ Q (.ref p) H2)) := by
      intro t H1 s1 ht
      refine ⟨t, m ++ n, rfl, .inl (.inl ht), by rw [List.length_append]; exact hl, fun p np => ⟨p, _, rfl, .inl ⟨.inl (.inl upd_same), fun l nl => ?_⟩⟩⟩
      exact q _ l ((s1.trans (same_upd np)).trans (same_upd nl)) upd_same
    refine ⟨_, rfl, _, rfl, a, b, m.map V.str, n.map V.str, rfl, rfl, .inl (.inl ha), .inl (.inl hb), ?_, fun e => ?_, fun e1 e2 => ?_, fun e1 e2 p np => ?_⟩
    · rw [List.length_map, List.length_map]
      exact Nat.le_of_lt (Nat.lt_trans hl (by decide))
    · have : m = [] := List.map_eq_nil_iff.mp e
      subst this
      exact fin b H (fun _ _ z => z) hb
    · have : n = [] := List.map_eq_nil_iff.mp e2
      subst this
      rw [List.append_nil] at fin
      exact fin a H (fun _ _ z => z) ha
    · refine fin p _ (same_upd np) ?_
      rw [← List.map_append]
      exact upd_same

def sp_times (K : PySem.W.Frag) : Sp := fun vs H Q _ => ∃ (a b : Addr) (p r : Poly) (B : Nat), vs = [.ref a, .ref b] ∧ PD H a p ∧ PD H b r ∧ p.length * r.length ≤ 100000 ∧ (∀ s ∈ p, ∀ t ∈ r, s.1.length + t.1.length < 64) ∧ (∀ t ∈ p, Sm B t.2) ∧ (∀ t ∈ r, Sm B t.2) ∧ B ≤ 1000000 ∧
  ∀ H' d, Same H H' → H d = none → PD H' d (mulP p r) → Q (.ref d) H'
theorem ok_times {f : Addr} {fd : FuncData} (F : Fun K "times" "times" s_times f fd) (C_collected : Cal P w K mg base "collected" 2 ["terms"] (sp_collected K)) (C__merged : Cal P w K mg base "_merged" 1 ["first", "second"] (sp__merged K)) : FnOk P w K mg base CX0 3 f fd ["first", "second"] (sp_times K) := by
  refine F.ok sc_times (fun vs H Q E h => ?_) (fun cdv A outer s H vs Q E hr h => ?_)
  · obtain ⟨a, b, p, r, B, rfl, _⟩ := h
    rfl
  · obtain ⟨a, b, p, r, B, rfl, ha, hb, hl, hm64, hsp, hsr, hB, q⟩ := h
    refine ⟨_, (pss_one (ps_ret (pe_cal C_collected hr (by rfl) (pa_cons (pe_lk (pe_lc2 (own := [("left", 2), ("number", 3), ("right", 4), ("factor", 5)]) (vs1 := [4, 5]) (g := (gTup K 2 (gCons (gName 2) (gCons (gName 3) gNil)))) (g1 := (gTup K 2 (gCons (gName 4) (gCons (gName 5) gNil)))) (by rfl) sc_times.nd (pi_itemsT (pv 0)) (blkOk_by (own := [("left", 2), ("number", 3), ("right", 4), ("factor", 5)]) (N := ["first", "second", "left", "number", "right", "factor"]) (sc := defScope s_times) (by decide +kernel)) (by decide) (fun _ _ _ _ _ => (pg_tup (by rfl) (pgs_cons (pg_name (i := 2) sc_times.nd rfl (Or.inl rfl)) (pgs_cons (pg_name (i := 3) sc_times.nd rfl (Or.inl rfl)) pgs_nil)))) (fun _ _ _ _ _ => pts_nil) (fun _ _ _ _ _ => (pi_itemsT (pv 1))) (fun _ _ _ _ _ => (pg_tup (by rfl) (pgs_cons (pg_name (i := 4) sc_times.nd rfl (Or.inl rfl)) (pgs_cons (pg_name (i := 5) sc_times.nd rfl (Or.inl rfl)) pgs_nil)))) (fun _ _ _ _ _ => pts_nil) (fun _ _ _ _ _ => (pe_tup (pa_cons (pe_cal C__merged (hr.mono (by decide)) (by rfl) (pa_cons (pv 2) (pa_cons (pv 4) pa_nil))) (pa_cons (pe_op op_mulX (pv 3) (pv 5)) pa_nil)))))) pa_nil)))), ?_⟩
    have hm := mut_two ha trivial hb trivial
    refine lk_all [a, b] hm fun Hl Lk => ?_
    obtain ⟨oa, lka⟩ := Lk.at_ a (by simp) _ ha
    obtain ⟨ob, lkb⟩ := Lk.at_ b (by simp) _ hb
    refine ⟨_, rfl, a, oa, enc p, rfl, lka, fun D nD => ?_⟩
    refine lc2_it walk_itemsT (fun i H' => ∃ bs : List Addr, H' D = some (.lst (bs.map V.ref)) ∧ Paired (TP1 H') bs (prods (p.take i) r) ∧ Same Hl H') ?_ ?_ ?_ ?_
    · exact ⟨[], upd_same, .nil, same_upd nD⟩
    · rintro i H1 _ ⟨bs, _, _, s1⟩
      exact s1 _ _ lka
    · rintro i x H1 H2 lt ⟨bs, hD, hbs, s1⟩ ⟨T1, q1, k, v, hk, rfl, nT1, hq1, rfl⟩
      obtain ⟨m, c, hpi, rfl, rfl⟩ := enc_at hk
      rw [kI_V] at hq1
      have epr : prods (p.take (i + 1)) r = prods (p.take i) r ++ r.map fun t => (mrg m t.1, c * t.2) := by
        unfold prods
        rw [take_snoc hpi, List.flatMap_append]
        simp
      have ilt : i < p.length := by rw [enc_len] at lt; exact lt
      have hub : (i + 1) * r.length ≤ p.length * r.length := Nat.mul_le_mul_right _ ilt
      rw [Nat.succ_mul] at hub
      refine gTup_new rfl ⟨_, _, rfl, _, _, rfl, rfl, rfl, WK.yes (WK.ift ⟨_, rfl, b, ob, enc r, rfl, same_upd nT1 _ _ (s1 _ _ lkb), ?_⟩)⟩
      have s2 := s1.trans (same_upd (o := .tup [.ref q1, .int c]) nT1)
      have hD2 := same_upd (o := .tup [.ref q1, .int c]) nT1 _ _ hD
      have hq2 : MT (upd H1 T1 (.tup [.ref q1, .int c])) q1 m := same_upd nT1 _ _ hq1
      have hbs2 := paired_keep (same_upd (o := .tup [.ref q1, .int c]) nT1) hbs
      generalize upd H1 T1 (.tup [.ref q1, .int c]) = H2 at s2 hD2 hq2 hbs2 ⊢
      refine in_it walk_itemsT (fun j H' => ∃ bs : List Addr, H' D = some (.lst (bs.map V.ref)) ∧ Paired (TP1 H') bs (prods (p.take i) r ++ (r.take j).map fun t => (mrg m t.1, c * t.2)) ∧ MT H' q1 m ∧ Same Hl H') ?_ ?_ ?_ ?_
      · refine ⟨bs, hD2, ?_, hq2, s2⟩
        rw [List.take_zero, List.map_nil, List.append_nil]
        exact hbs2
      · rintro j H3 _ ⟨_, _, _, _, s3⟩
        exact s3 _ _ lkb
      · rintro j x H3 H4 ltj ⟨cs, hD3, hcs, hq3, s3⟩ ⟨T2, q2, k, v, hk2, rfl, nT2, hq4, rfl⟩
        obtain ⟨n, e, hrj, rfl, rfl⟩ := enc_at hk2
        rw [kI_V] at hq4
        have nac := Paired.length hcs
        have jlt : j < r.length := by rw [enc_len] at ltj; exact ltj
        have csmall : cs.length ≤ 100000 := by
          rw [nac, List.length_append, prods_len, List.length_map, List.length_take, List.length_take, Nat.min_eq_left (Nat.le_of_lt ilt), Nat.min_eq_left (Nat.le_of_lt jlt)]
          omega
        refine gTup_new rfl ⟨_, _, rfl, _, _, rfl, rfl, rfl, WK.yes (WK.ift ⟨_, rfl, _, rfl, ?_⟩)⟩
        have hc : Sm B c := hsp (m, c) (List.mem_of_getElem? hpi)
        have he : Sm B e := hsr (n, e) (List.mem_of_getElem? hrj)
        have s4 := s3.trans (same_upd (o := .tup [.ref q2, .int e]) nT2)
        have hD4 := same_upd (o := .tup [.ref q2, .int e]) nT2 _ _ hD3
        have hq5 : MT (upd H3 T2 (.tup [.ref q2, .int e])) q1 m := same_upd nT2 _ _ hq3
        have hq6 : MT (upd H3 T2 (.tup [.ref q2, .int e])) q2 n := same_upd nT2 _ _ hq4
        have hcs4 := paired_keep (same_upd (o := .tup [.ref q2, .int e]) nT2) hcs
        generalize upd H3 T2 (.tup [.ref q2, .int e]) = H4 at s4 hD4 hq5 hq6 hcs4 ⊢
        refine ⟨q1, q2, m, n, rfl, hq5, hq6, hm64 _ (List.mem_of_getElem? hpi) _ (List.mem_of_getElem? hrj), fun H5 u s5 hu => ?_⟩
        refine ⟨_, rfl, _, rfl, c, e, rfl, rfl, Sm.mx hc he (by omega), Nat.le_of_ble_eq_true rfl, fun T nT => ?_⟩
        have hD5 := s5 _ _ hD4
        have s6 := s4.trans s5
        have hcs5 := paired_keep s5 hcs4
        have hq7 := hq5.keep s5
        have tD : ∀ {b : Addr} {xs : List V}, H5 b = some (.tup xs) → b ≠ D := fun {b xs} h z => by
          rw [z, hD5] at h
          cases h
        have hTD : T ≠ D := fun z => by
          rw [z, hD5] at nT
          cases nT
        have huD : u ≠ D := tD hu
        refine ⟨cs.map V.ref, same_upd nT _ _ hD5, by rw [List.length_map]; exact sz_lt csmall, cs ++ [T], ?_, ?_, ?_, Same.new (s6.trans (same_upd nT)) nD⟩
        · rw [upd_same, List.map_append]
          rfl
        · rw [take_snoc hrj, List.map_append, ← List.append_assoc]
          refine Paired.snoc (Paired.mapP hcs5 fun b t ⟨z1, h1, h2⟩ => ⟨z1, ?_, ?_⟩) ⟨u, ?_, ?_⟩
          · rw [upd_ne (tD h1)]
            exact same_upd nT _ _ h1
          · show (upd (upd H5 T _) D _) z1 = _
            rw [upd_ne (tD h2)]
            exact same_upd nT _ _ h2
          · rw [upd_ne hTD]
            exact upd_same
          · show (upd (upd H5 T _) D _) u = _
            rw [upd_ne huD]
            exact same_upd nT _ _ hu
        · show (upd (upd H5 T _) D _) q1 = _
          rw [upd_ne (tD hq7)]
          exact same_upd nT _ _ hq7
      · rintro H3 ⟨cs, hD3, hcs, _, s3⟩
        rw [enc_len, List.take_of_length_le (Nat.le_refl _), ← epr] at hcs
        exact ⟨cs, hD3, hcs, s3⟩
    · rintro H1 ⟨bs, hD, hbs, s1⟩
      rw [enc_len, List.take_of_length_le (Nat.le_refl _)] at hbs
      obtain ⟨n1, n2⟩ := Lk.fresh hm nD
      have off : ∀ {d : Addr} {xs : List V}, H1 d = some (.tup xs) → back [a, b] H H1 d = some (.tup xs) := fun {d xs} h => by
        refine (back_off fun z => ?_).trans h
        obtain ⟨u, e, mu⟩ := hm d z
        obtain ⟨ob, lk⟩ := Lk.at_ d z u e
        have := s1 _ _ lk
        rw [h] at this
        cases this
      refine ⟨Lk.kept hm s1, D, bs, prods p r, rfl, (back_off n2).trans hD, Paired.mapP hbs fun d t ⟨z1, h1, h2⟩ => ⟨z1, off h1, off h2⟩, ?_, fun H' d s' nd hd => ?_⟩
      · rw [prods_len]
        exact hl
      · exact q H' d ((back_same Lk s1).trans s') ((back_same Lk s1).free nd) hd

def sp_one_apart (K : PySem.W.Frag) : Sp := fun vs H Q _ => ∃ (dx dy da : Addr) (x y a : Poly), vs = [.ref dx, .ref dy, .ref da] ∧ PD H dx x ∧ PD H dy y ∧ PD H da a ∧ Md x ∧ Md y ∧ Md a ∧
  ∀ H' d, Same H H' → H d = none → ZR H' d (oneP x y a) → Q (.ref d) H'
theorem ok_one_apart {f : Addr} {fd : FuncData} (F : Fun K "one_apart" "one_apart" s_one_apart f fd) (C_constant : Cal P w K mg base "constant" 2 ["number"] (sp_constant K)) (C_equal : Cal P w K mg base "equal" 6 ["first", "second"] (sp_equal K)) (C_minus : Cal P w K mg base "minus" 5 ["first", "second"] (sp_minus K)) (C_times : Cal P w K mg base "times" 3 ["first", "second"] (sp_times K)) : FnOk P w K mg base CX0 7 f fd ["x", "y", "a"] (sp_one_apart K) := by
  refine F.ok sc_one_apart (fun vs H Q E h => ?_) (fun cdv A outer s H vs Q E hr h => ?_)
  · obtain ⟨dx, dy, da, x, y, a, rfl, _⟩ := h
    rfl
  · obtain ⟨dx, dy, da, x, y, a, rfl, hx, hy, ha, bx, by_, ba, q⟩ := h
    refine ⟨_, (pss_cons (ps_set (i := 3) sc_one_apart.nd rfl (.inl rfl) (pe_cal C_constant (hr.mono (by decide)) (by rfl) (pa_cons pe_int pa_nil)))
      (pss_one (ps_ret (pe_cal C_equal hr (by rfl) (pa_cons (pe_cal C_minus (hr.mono (by decide)) (by rfl) (pa_cons (pe_cal C_times (hr.mono (by decide)) (by rfl) (pa_cons (pv 0) (pa_cons (pv 0) pa_nil))) (pa_cons (pe_cal C_times (hr.mono (by decide)) (by rfl) (pa_cons (pe_cal C_minus (hr.mono (by decide)) (by rfl) (pa_cons (pe_cal C_times (hr.mono (by decide)) (by rfl) (pa_cons (pv 2) (pa_cons (pv 2) pa_nil))) (pa_cons (pv 3) pa_nil))) (pa_cons (pe_cal C_times (hr.mono (by decide)) (by rfl) (pa_cons (pv 1) (pa_cons (pv 1) pa_nil))) pa_nil))) pa_nil))) (pa_cons (pv 3) pa_nil)))))), ?_⟩
    have bxx := bx.mul bx
    have baa := ba.mul ba
    have byy := by_.mul by_
    have b1 : Bd 1 0 1 (conP 1) := Bd.con 1
    have b3 := baa.min (b1.mono (Nat.le_refl _) (Nat.zero_le _) (show 1 ≤ 8 * 8 * (2 ^ 100 * 2 ^ 100) by decide +kernel))
    have b5 := b3.mul byy
    have b6 := (bxx.mono (Nat.le_refl _) (show 8 + 8 ≤ 8 + 8 + (8 + 8) by decide) (show 8 * 8 * (2 ^ 100 * 2 ^ 100) ≤ (8 * 8 + 1) * (8 * 8) * ((8 * 8 + 1) * (8 * 8 * (2 ^ 100 * 2 ^ 100)) * (8 * 8 * (2 ^ 100 * 2 ^ 100))) by decide +kernel)).min b5
    refine ⟨1, rfl, fun H1 c s1 n1 h1 => ?_⟩
    refine ⟨_, rfl, _, rfl, dx, dx, x, x, 1000, rfl, s1 _ _ hx, s1 _ _ hx, bx.mulLen bx (by decide), bx.deg2 bx (by decide), bx.sm (by decide +kernel), bx.sm (by decide +kernel), by decide, fun H2 d2 s2 n2 h2 => ?_⟩
    have t2 := s1.trans s2
    refine ⟨_, rfl, _, rfl, da, da, a, a, 1000, rfl, t2 _ _ ha, t2 _ _ ha, ba.mulLen ba (by decide), ba.deg2 ba (by decide), ba.sm (by decide +kernel), ba.sm (by decide +kernel), by decide, fun H3 d3 s3 n3 h3 => ?_⟩
    have t3 := t2.trans s3
    refine ⟨_, rfl, d3, c, _, _, 1000, rfl, h3, (s2.trans s3) _ _ h1, b1.kn, baa.addLen b1 (by decide), b1.sm (by decide +kernel), by decide, by decide, fun H4 d4 s4 n4 h4 => ?_⟩
    have t4 := t3.trans s4
    refine ⟨_, rfl, _, rfl, dy, dy, y, y, 1000, rfl, t4 _ _ hy, t4 _ _ hy, by_.mulLen by_ (by decide), by_.deg2 by_ (by decide), by_.sm (by decide +kernel), by_.sm (by decide +kernel), by decide, fun H5 d5 s5 n5 h5 => ?_⟩
    have t5 := t4.trans s5
    refine ⟨d4, d5, _, _, 1000, rfl, s5 _ _ h4, h5, b3.mulLen byy (by decide), b3.deg2 byy (by decide), b3.sm (by decide +kernel), byy.sm (by decide +kernel), by decide, fun H6 d6 s6 n6 h6 => ?_⟩
    have t6 := t5.trans s6
    refine ⟨d2, d6, _, _, 2000, rfl, ((s3.trans s4).trans (s5.trans s6)) _ _ h2, h6, b5.kn, bxx.addLen b5 (by decide), b5.sm (by decide +kernel), by decide, by decide, fun H7 d7 s7 n7 h7 => ?_⟩
    have t7 := t6.trans s7
    refine ⟨_, rfl, d7, c, _, _, 1000, rfl, h7, (((s2.trans s3).trans (s4.trans s5)).trans (s6.trans s7)) _ _ h1, b1.kn, b6.addLen b1 (by decide), b1.sm (by decide +kernel), by decide, by decide, fun H' d s n h => ?_⟩
    exact q H' d (t7.trans s) (t7.free n) h

def sp_index_equations (K : PySem.W.Frag) : Sp := fun vs H Q _ => ∃ (dk da dn : Addr) (k a : Poly) (ks : List (L2.Key × V)) (A : Str → Addr) (P : Str → Poly), vs = [.ref dk, .ref da, .ref dn] ∧ PD H dk k ∧ PD H da a ∧ Sd k ∧ Sd a ∧ H dn = some (.dK ks) ∧
  (∀ n ∈ nms, valV ks (.inr n) = some (.ref (A n)) ∧ PD H (A n) (P n) ∧ Sd (P n)) ∧
  ∀ H' L (ds : List Addr), Same H H' → H L = none → H' L = some (.lst (ds.map V.ref)) → Paired (ZR H') ds (eqsP k a P) → Q (.ref L) H'
theorem ok_index_equations {f : Addr} {fd : FuncData} (F : Fun K "index_equations" "index_equations" s_index_equations f fd) (C_constant : Cal P w K mg base "constant" 2 ["number"] (sp_constant K)) (C_scaled : Cal P w K mg base "scaled" 2 ["polynomial", "number"] (sp_scaled K)) (C_one_apart : Cal P w K mg base "one_apart" 7 ["x", "y", "a"] (sp_one_apart K)) (C_equal : Cal P w K mg base "equal" 6 ["first", "second"] (sp_equal K)) (C_times : Cal P w K mg base "times" 3 ["first", "second"] (sp_times K)) (C_plus : Cal P w K mg base "plus" 4 ["first", "second"] (sp_plus K)) {r_NAMES : Addr} (m_NAMES : mg "NAMES" = some (.ref r_NAMES)) (k_NAMES : TupK K r_NAMES [V.str "x", V.str "y", V.str "u", V.str "v", V.str "s", V.str "t", V.str "b", V.str "r", V.str "p", V.str "q", V.str "c", V.str "d", V.str "e"]) : FnOk P w K mg base CX0 8 f fd ["k", "a", "numbers"] (sp_index_equations K) := by
  refine F.ok sc_index_equations (fun vs H Q E h => ?_) (fun cdv A outer s H vs Q E hr h => ?_)
  · obtain ⟨dk, da, dn, k, a, ks, A, P, rfl, _⟩ := h
    rfl
  · obtain ⟨dk, da, dn, k, a, ks, A, P, rfl, hk, ha, bk, ba, hn, hP, q⟩ := h
    refine ⟨_, (pss_cons (ps_asg (pe_lc (own := [("name", 18)]) (g := (gName 18)) (by rfl) sc_index_equations.nd (pi_tup (pe_glob rfl m_NAMES (show RelV (.ref r_NAMES) _ from rfl))) (blkOk_by (own := [("name", 18)]) (N := ["k", "a", "numbers", "x", "y", "u", "v", "s", "t", "b", "r", "p", "q", "c", "d", "e", "one", "fourfold", "name"]) (sc := defScope s_index_equations) (by decide +kernel)) (fun _ _ _ _ _ => (pg_name (i := 18) sc_index_equations.nd rfl (Or.inl rfl))) (fun _ _ _ _ _ => pts_nil) (fun _ _ _ _ _ => (pe_dget (hu_of hr) (pv 2) (pv 18) (fun _ _ => rfl)))) (pg_unl (by rfl) (pgs_cons (pg_name (i := 3) sc_index_equations.nd rfl (.inl rfl)) (pgs_cons (pg_name (i := 4) sc_index_equations.nd rfl (.inl rfl)) (pgs_cons (pg_name (i := 5) sc_index_equations.nd rfl (.inl rfl)) (pgs_cons (pg_name (i := 6) sc_index_equations.nd rfl (.inl rfl)) (pgs_cons (pg_name (i := 7) sc_index_equations.nd rfl (.inl rfl)) (pgs_cons (pg_name (i := 8) sc_index_equations.nd rfl (.inl rfl)) (pgs_cons (pg_name (i := 9) sc_index_equations.nd rfl (.inl rfl)) (pgs_cons (pg_name (i := 10) sc_index_equations.nd rfl (.inl rfl)) (pgs_cons (pg_name (i := 11) sc_index_equations.nd rfl (.inl rfl)) (pgs_cons (pg_name (i := 12) sc_index_equations.nd rfl (.inl rfl)) (pgs_cons (pg_name (i := 13) sc_index_equations.nd rfl (.inl rfl)) (pgs_cons (pg_name (i := 14) sc_index_equations.nd rfl (.inl rfl)) (pgs_cons (pg_name (i := 15) sc_index_equations.nd rfl (.inl rfl)) pgs_nil)))))))))))))))
      (pss_cons (ps_par (by rfl) sc_index_equations.nd (i := 16) (j := 17) rfl rfl (by decide) rfl rfl (pa_cons (pe_cal C_constant (hr.mono (by decide)) (by rfl) (pa_cons pe_int pa_nil)) (pa_cons (pe_cal C_scaled (hr.mono (by decide)) (by rfl) (pa_cons (pv 4) (pa_cons pe_int pa_nil))) pa_nil)) (by rfl))
      (pss_one (ps_ret (pe_lst (pa_cons (pe_cal C_one_apart hr (by rfl) (pa_cons (pv 3) (pa_cons (pv 4) (pa_cons (pv 1) pa_nil)))) (pa_cons (pe_cal C_one_apart hr (by rfl) (pa_cons (pv 5) (pa_cons (pv 6) (pa_cons (pv 1) pa_nil)))) (pa_cons (pe_cal C_one_apart hr (by rfl) (pa_cons (pv 7) (pa_cons (pv 8) (pa_cons (pv 9) pa_nil)))) (pa_cons (pe_cal C_equal (hr.mono (by decide)) (by rfl) (pa_cons (pv 6) (pa_cons (pe_cal C_times (hr.mono (by decide)) (by rfl) (pa_cons (pe_cal C_plus (hr.mono (by decide)) (by rfl) (pa_cons (pv 10) (pa_cons (pv 16) pa_nil))) (pa_cons (pe_cal C_times (hr.mono (by decide)) (by rfl) (pa_cons (pv 4) (pa_cons (pv 4) pa_nil))) pa_nil))) pa_nil))) (pa_cons (pe_cal C_equal (hr.mono (by decide)) (by rfl) (pa_cons (pv 9) (pa_cons (pe_cal C_plus (hr.mono (by decide)) (by rfl) (pa_cons (pv 16) (pa_cons (pe_cal C_times (hr.mono (by decide)) (by rfl) (pa_cons (pv 11) (pa_cons (pv 17) pa_nil))) pa_nil))) pa_nil))) (pa_cons (pe_cal C_equal (hr.mono (by decide)) (by rfl) (pa_cons (pv 9) (pa_cons (pe_cal C_plus (hr.mono (by decide)) (by rfl) (pa_cons (pv 1) (pa_cons (pe_cal C_times (hr.mono (by decide)) (by rfl) (pa_cons (pv 12) (pa_cons (pv 5) pa_nil))) pa_nil))) pa_nil))) (pa_cons (pe_cal C_equal (hr.mono (by decide)) (by rfl) (pa_cons (pv 7) (pa_cons (pe_cal C_plus (hr.mono (by decide)) (by rfl) (pa_cons (pv 3) (pa_cons (pe_cal C_times (hr.mono (by decide)) (by rfl) (pa_cons (pv 13) (pa_cons (pv 5) pa_nil))) pa_nil))) pa_nil))) (pa_cons (pe_cal C_equal (hr.mono (by decide)) (by rfl) (pa_cons (pv 8) (pa_cons (pe_cal C_plus (hr.mono (by decide)) (by rfl) (pa_cons (pv 0) (pa_cons (pe_cal C_times (hr.mono (by decide)) (by rfl) (pa_cons (pv 14) (pa_cons (pv 17) pa_nil))) pa_nil))) pa_nil))) (pa_cons (pe_cal C_equal (hr.mono (by decide)) (by rfl) (pa_cons (pv 4) (pa_cons (pe_cal C_plus (hr.mono (by decide)) (by rfl) (pa_cons (pv 0) (pa_cons (pv 15) pa_nil))) pa_nil))) pa_nil)))))))))))))), ?_⟩
    rw [st_index_equations]
    refine ⟨_, rfl, ⟨_, k_NAMES.sq H⟩, fun D nD => ?_⟩
    refine lc_it (walk_tup (K := K) (a := r_NAMES) (xs := nms.map V.str)) (fun i H' => H' D = some (.lst ((nms.take i).map fun n => V.ref (A n))) ∧ Same H H') ?_ ?_ ?_ ?_
    · exact ⟨upd_same, same_upd nD⟩
    · exact fun i H' _ _ => k_NAMES.sq H'
    · rintro i x H1 H2 lt ⟨hD, s1⟩ ⟨rfl, hx⟩
      rw [List.getElem?_map] at hx
      obtain ⟨n, hn1, rfl⟩ := Option.map_eq_some_iff.mp hx
      obtain ⟨g1, g2, g3⟩ := hP n (List.mem_of_getElem? hn1)
      have ilt : i < 13 := by rw [List.length_map] at lt; exact lt
      refine ⟨rfl, WK.yes (WK.ift ⟨_, rfl, _, rfl, dn, .ref (A n), rfl, .inl ⟨ks, .inr n, .inl (s1 _ _ hn), rfl, g1.symm⟩, _, hD, ?_, ?_, Same.new s1 nD⟩)⟩
      · rw [List.length_map, List.length_take]
        exact sz_lt (Nat.le_trans (Nat.min_le_left ..) (by omega))
      · rw [upd_same, List.take_add_one, hn1, List.map_append]
        rfl
    · rintro H1 ⟨hD, s1⟩
      have hD : H1 D = some (.lst [.ref (A "x"), .ref (A "y"), .ref (A "u"), .ref (A "v"), .ref (A "s"), .ref (A "t"), .ref (A "b"), .ref (A "r"), .ref (A "p"), .ref (A "q"), .ref (A "c"), .ref (A "d"), .ref (A "e")]) := hD
      refine ⟨D, _, rfl, .inl (.inl hD), rfl, _, _, rfl, _, _, rfl, _, _, rfl, _, _, rfl, _, _, rfl, _, _, rfl, _, _, rfl, _, _, rfl, _, _, rfl, _, _, rfl, _, _, rfl, _, _, rfl, _, _, rfl, rfl, ?_⟩
      have fx : PD H1 (A "x") (P "x") := s1 _ _ (hP "x" (by decide +kernel)).2.1
      have bx := (hP "x" (by decide +kernel)).2.2
      have fy : PD H1 (A "y") (P "y") := s1 _ _ (hP "y" (by decide +kernel)).2.1
      have by_ := (hP "y" (by decide +kernel)).2.2
      have fu : PD H1 (A "u") (P "u") := s1 _ _ (hP "u" (by decide +kernel)).2.1
      have bu := (hP "u" (by decide +kernel)).2.2
      have fv : PD H1 (A "v") (P "v") := s1 _ _ (hP "v" (by decide +kernel)).2.1
      have bv := (hP "v" (by decide +kernel)).2.2
      have fs : PD H1 (A "s") (P "s") := s1 _ _ (hP "s" (by decide +kernel)).2.1
      have bs := (hP "s" (by decide +kernel)).2.2
      have ft : PD H1 (A "t") (P "t") := s1 _ _ (hP "t" (by decide +kernel)).2.1
      have bt := (hP "t" (by decide +kernel)).2.2
      have fb : PD H1 (A "b") (P "b") := s1 _ _ (hP "b" (by decide +kernel)).2.1
      have bb := (hP "b" (by decide +kernel)).2.2
      have fr : PD H1 (A "r") (P "r") := s1 _ _ (hP "r" (by decide +kernel)).2.1
      have br := (hP "r" (by decide +kernel)).2.2
      have fp : PD H1 (A "p") (P "p") := s1 _ _ (hP "p" (by decide +kernel)).2.1
      have bp := (hP "p" (by decide +kernel)).2.2
      have fq : PD H1 (A "q") (P "q") := s1 _ _ (hP "q" (by decide +kernel)).2.1
      have bq := (hP "q" (by decide +kernel)).2.2
      have fc : PD H1 (A "c") (P "c") := s1 _ _ (hP "c" (by decide +kernel)).2.1
      have bc := (hP "c" (by decide +kernel)).2.2
      have fd : PD H1 (A "d") (P "d") := s1 _ _ (hP "d" (by decide +kernel)).2.1
      have bd := (hP "d" (by decide +kernel)).2.2
      have fe : PD H1 (A "e") (P "e") := s1 _ _ (hP "e" (by decide +kernel)).2.1
      have be := (hP "e" (by decide +kernel)).2.2
      have fk := s1 _ _ hk
      have fa := s1 _ _ ha
      have b1 : Bd 1 0 1 (conP 1) := Bd.con 1
      have b4 := by_.scl 4
      refine ⟨1, rfl, fun H2 c1 s2 n2 fone => ?_⟩
      have w2 : Same H1 H2 := s2
      have u2 : Same H2 H2 := fun _ _ z => z
      refine ⟨_, rfl, A "y", P "y", 4, 1000, rfl, w2 _ _ fy, by_.kn, Nat.le_trans by_.len (by decide), by_.sm (by decide +kernel), (by unfold Sm; decide +kernel), by decide, fun H3 c4 s3 n3 ffour => ?_⟩
      have w3 := w2.trans s3
      have u3 := u2.trans s3
      have v3 : Same H3 H3 := fun _ _ z => z
      refine ⟨_, _, rfl, ?_⟩
      dsimp only [List.set]
      generalize hσ : ([some (V.ref dk), some (V.ref da), some (V.ref dn), some (V.ref (A "x")), some (V.ref (A "y")), some (V.ref (A "u")), some (V.ref (A "v")), some (V.ref (A "s")), some (V.ref (A "t")), some (V.ref (A "b")), some (V.ref (A "r")), some (V.ref (A "p")), some (V.ref (A "q")), some (V.ref (A "c")), some (V.ref (A "d")), some (V.ref (A "e")), some (V.ref c1), some (V.ref c4), none] : L2.St) = σ
      have g_0 : σ[0]? = some (some (V.ref dk)) := by rw [← hσ]; rfl
      have g_1 : σ[1]? = some (some (V.ref da)) := by rw [← hσ]; rfl
      have g_2 : σ[2]? = some (some (V.ref dn)) := by rw [← hσ]; rfl
      have g_3 : σ[3]? = some (some (V.ref (A "x"))) := by rw [← hσ]; rfl
      have g_4 : σ[4]? = some (some (V.ref (A "y"))) := by rw [← hσ]; rfl
      have g_5 : σ[5]? = some (some (V.ref (A "u"))) := by rw [← hσ]; rfl
      have g_6 : σ[6]? = some (some (V.ref (A "v"))) := by rw [← hσ]; rfl
      have g_7 : σ[7]? = some (some (V.ref (A "s"))) := by rw [← hσ]; rfl
      have g_8 : σ[8]? = some (some (V.ref (A "t"))) := by rw [← hσ]; rfl
      have g_9 : σ[9]? = some (some (V.ref (A "b"))) := by rw [← hσ]; rfl
      have g_10 : σ[10]? = some (some (V.ref (A "r"))) := by rw [← hσ]; rfl
      have g_11 : σ[11]? = some (some (V.ref (A "p"))) := by rw [← hσ]; rfl
      have g_12 : σ[12]? = some (some (V.ref (A "q"))) := by rw [← hσ]; rfl
      have g_13 : σ[13]? = some (some (V.ref (A "c"))) := by rw [← hσ]; rfl
      have g_14 : σ[14]? = some (some (V.ref (A "d"))) := by rw [← hσ]; rfl
      have g_15 : σ[15]? = some (some (V.ref (A "e"))) := by rw [← hσ]; rfl
      have g_16 : σ[16]? = some (some (V.ref c1)) := by rw [← hσ]; rfl
      have g_17 : σ[17]? = some (some (V.ref c4)) := by rw [← hσ]; rfl
      clear hσ hD nD hP hk ha hn k_NAMES m_NAMES C_constant C_scaled C_one_apart C_equal C_times C_plus
      refine ⟨_, g_3, _, g_4, _, g_1, (A "x"), (A "y"), da, (P "x"), (P "y"), a, rfl, (w3 _ _ fx), (w3 _ _ fy), (w3 _ _ fa), bx.md, by_.md, ba.md, fun H4 d1 s4 n4 z1 => ?_⟩
      have w4 := w3.trans s4
      have u4 := u3.trans s4
      have v4 := v3.trans s4
      refine ⟨_, g_5, _, g_6, _, g_1, (A "u"), (A "v"), da, (P "u"), (P "v"), a, rfl, (w4 _ _ fu), (w4 _ _ fv), (w4 _ _ fa), bu.md, bv.md, ba.md, fun H5 d2 s5 n5 z2 => ?_⟩
      have w5 := w4.trans s5
      have u5 := u4.trans s5
      have v5 := v4.trans s5
      have z1 := z1.keep s5
      refine ⟨_, g_7, _, g_8, _, g_9, (A "s"), (A "t"), (A "b"), (P "s"), (P "t"), (P "b"), rfl, (w5 _ _ fs), (w5 _ _ ft), (w5 _ _ fb), bs.md, bt.md, bb.md, fun H6 d3 s6 n6 z3 => ?_⟩
      have w6 := w5.trans s6
      have u6 := u5.trans s6
      have v6 := v5.trans s6
      have z1 := z1.keep s6
      have z2 := z2.keep s6
      have c41 := br.plus (b1.mono (Nat.le_refl _) (Nat.zero_le _) (show 1 ≤ 2 ^ 90 by decide +kernel))
      refine ⟨_, g_6, _, g_10, _, g_16, (A "r"), c1, (P "r"), (conP 1), rfl, (w6 _ _ fr), (u6 _ _ fone), br.addLen b1 (by decide), fun H7 e7 s7 n7 g7 => ?_⟩
      have w7 := w6.trans s7
      have u7 := u6.trans s7
      have v7 := v6.trans s7
      have c42 := by_.mul by_
      refine ⟨_, g_4, _, g_4, (A "y"), (A "y"), (P "y"), (P "y"), 1000, rfl, (w7 _ _ fy), (w7 _ _ fy), by_.mulLen by_ (by decide), by_.deg2 by_ (by decide), by_.sm (by decide +kernel), by_.sm (by decide +kernel), by decide, fun H8 e8 s8 n8 g8 => ?_⟩
      have w8 := w7.trans s8
      have u8 := u7.trans s8
      have v8 := v7.trans s8
      have c43 := c41.mul c42
      refine ⟨e7, e8, (plusP (P "r") (conP 1)), (mulP (P "y") (P "y")), 1000, rfl, (s8 _ _ g7), g8, c41.mulLen c42 (by decide), c41.deg2 c42 (by decide), c41.sm (by decide +kernel), c42.sm (by decide +kernel), by decide, fun H9 e9 s9 n9 g9 => ?_⟩
      have w9 := w8.trans s9
      have u9 := u8.trans s9
      have v9 := v8.trans s9
      refine ⟨(A "v"), e9, (P "v"), (mulP (plusP (P "r") (conP 1)) (mulP (P "y") (P "y"))), 1000, rfl, (w9 _ _ fv), g9, c43.kn, bv.addLen c43 (by decide), c43.sm (by decide +kernel), by decide, by decide, fun H10 d4 s10 n10 z4 => ?_⟩
      have w10 := w9.trans s10
      have u10 := u9.trans s10
      have v10 := v9.trans s10
      have z1 := z1.keep (((s7.trans s8).trans s9).trans s10)
      have z2 := z2.keep (((s7.trans s8).trans s9).trans s10)
      have z3 := z3.keep (((s7.trans s8).trans s9).trans s10)
      have c51 := bp.mul b4
      refine ⟨_, g_9, _, g_16, _, g_11, _, g_17, (A "p"), c4, (P "p"), (sclP (P "y") 4), 1000, rfl, (w10 _ _ fp), (v10 _ _ ffour), bp.mulLen b4 (by decide), bp.deg2 b4 (by decide), bp.sm (by decide +kernel), b4.sm (by decide +kernel), by decide, fun H11 e11 s11 n11 g11 => ?_⟩
      have w11 := w10.trans s11
      have u11 := u10.trans s11
      have v11 := v10.trans s11
      have c52 := (b1.mono (Nat.le_refl _) (Nat.zero_le _) (show 1 ≤ 8 * 8 * (2 ^ 90 * (2 ^ 90 * (4 : Int).natAbs)) by decide +kernel)).plus c51
      refine ⟨c1, e11, (conP 1), (mulP (P "p") (sclP (P "y") 4)), rfl, (u11 _ _ fone), g11, b1.addLen c51 (by decide), fun H12 e12 s12 n12 g12 => ?_⟩
      have w12 := w11.trans s12
      have u12 := u11.trans s12
      have v12 := v11.trans s12
      refine ⟨(A "b"), e12, (P "b"), (plusP (conP 1) (mulP (P "p") (sclP (P "y") 4))), 1000, rfl, (w12 _ _ fb), g12, c52.kn, bb.addLen c52 (by decide), c52.sm (by decide +kernel), by decide, by decide, fun H13 d5 s13 n13 z5 => ?_⟩
      have w13 := w12.trans s13
      have u13 := u12.trans s13
      have v13 := v12.trans s13
      have z1 := z1.keep ((s11.trans s12).trans s13)
      have z2 := z2.keep ((s11.trans s12).trans s13)
      have z3 := z3.keep ((s11.trans s12).trans s13)
      have z4 := z4.keep ((s11.trans s12).trans s13)
      have c61 := bq.mul bu
      refine ⟨_, g_9, _, g_1, _, g_12, _, g_5, (A "q"), (A "u"), (P "q"), (P "u"), 1000, rfl, (w13 _ _ fq), (w13 _ _ fu), bq.mulLen bu (by decide), bq.deg2 bu (by decide), bq.sm (by decide +kernel), bu.sm (by decide +kernel), by decide, fun H14 e14 s14 n14 g14 => ?_⟩
      have w14 := w13.trans s14
      have u14 := u13.trans s14
      have v14 := v13.trans s14
      have c62 := (ba.mono (Nat.le_refl _) (show 8 ≤ 8 + 8 by decide) (show 2 ^ 90 ≤ 8 * 8 * (2 ^ 90 * 2 ^ 90) by decide +kernel)).plus c61
      refine ⟨da, e14, a, (mulP (P "q") (P "u")), rfl, (w14 _ _ fa), g14, ba.addLen c61 (by decide), fun H15 e15 s15 n15 g15 => ?_⟩
      have w15 := w14.trans s15
      have u15 := u14.trans s15
      have v15 := v14.trans s15
      refine ⟨(A "b"), e15, (P "b"), (plusP a (mulP (P "q") (P "u"))), 1000, rfl, (w15 _ _ fb), g15, c62.kn, bb.addLen c62 (by decide), c62.sm (by decide +kernel), by decide, by decide, fun H16 d6 s16 n16 z6 => ?_⟩
      have w16 := w15.trans s16
      have u16 := u15.trans s16
      have v16 := v15.trans s16
      have z1 := z1.keep ((s14.trans s15).trans s16)
      have z2 := z2.keep ((s14.trans s15).trans s16)
      have z3 := z3.keep ((s14.trans s15).trans s16)
      have z4 := z4.keep ((s14.trans s15).trans s16)
      have z5 := z5.keep ((s14.trans s15).trans s16)
      have c71 := bc.mul bu
      refine ⟨_, g_7, _, g_3, _, g_13, _, g_5, (A "c"), (A "u"), (P "c"), (P "u"), 1000, rfl, (w16 _ _ fc), (w16 _ _ fu), bc.mulLen bu (by decide), bc.deg2 bu (by decide), bc.sm (by decide +kernel), bu.sm (by decide +kernel), by decide, fun H17 e17 s17 n17 g17 => ?_⟩
      have w17 := w16.trans s17
      have u17 := u16.trans s17
      have v17 := v16.trans s17
      have c72 := (bx.mono (Nat.le_refl _) (show 8 ≤ 8 + 8 by decide) (show 2 ^ 90 ≤ 8 * 8 * (2 ^ 90 * 2 ^ 90) by decide +kernel)).plus c71
      refine ⟨(A "x"), e17, (P "x"), (mulP (P "c") (P "u")), rfl, (w17 _ _ fx), g17, bx.addLen c71 (by decide), fun H18 e18 s18 n18 g18 => ?_⟩
      have w18 := w17.trans s18
      have u18 := u17.trans s18
      have v18 := v17.trans s18
      refine ⟨(A "s"), e18, (P "s"), (plusP (P "x") (mulP (P "c") (P "u"))), 1000, rfl, (w18 _ _ fs), g18, c72.kn, bs.addLen c72 (by decide), c72.sm (by decide +kernel), by decide, by decide, fun H19 d7 s19 n19 z7 => ?_⟩
      have w19 := w18.trans s19
      have u19 := u18.trans s19
      have v19 := v18.trans s19
      have z1 := z1.keep ((s17.trans s18).trans s19)
      have z2 := z2.keep ((s17.trans s18).trans s19)
      have z3 := z3.keep ((s17.trans s18).trans s19)
      have z4 := z4.keep ((s17.trans s18).trans s19)
      have z5 := z5.keep ((s17.trans s18).trans s19)
      have z6 := z6.keep ((s17.trans s18).trans s19)
      have c81 := bd.mul b4
      refine ⟨_, g_8, _, g_0, _, g_14, _, g_17, (A "d"), c4, (P "d"), (sclP (P "y") 4), 1000, rfl, (w19 _ _ fd), (v19 _ _ ffour), bd.mulLen b4 (by decide), bd.deg2 b4 (by decide), bd.sm (by decide +kernel), b4.sm (by decide +kernel), by decide, fun H20 e20 s20 n20 g20 => ?_⟩
      have w20 := w19.trans s20
      have u20 := u19.trans s20
      have v20 := v19.trans s20
      have c82 := (bk.mono (Nat.le_refl _) (show 8 ≤ 8 + 8 by decide) (show 2 ^ 90 ≤ 8 * 8 * (2 ^ 90 * (2 ^ 90 * (4 : Int).natAbs)) by decide +kernel)).plus c81
      refine ⟨dk, e20, k, (mulP (P "d") (sclP (P "y") 4)), rfl, (w20 _ _ fk), g20, bk.addLen c81 (by decide), fun H21 e21 s21 n21 g21 => ?_⟩
      have w21 := w20.trans s21
      have u21 := u20.trans s21
      have v21 := v20.trans s21
      refine ⟨(A "t"), e21, (P "t"), (plusP k (mulP (P "d") (sclP (P "y") 4))), 1000, rfl, (w21 _ _ ft), g21, c82.kn, bt.addLen c82 (by decide), c82.sm (by decide +kernel), by decide, by decide, fun H22 d8 s22 n22 z8 => ?_⟩
      have w22 := w21.trans s22
      have u22 := u21.trans s22
      have v22 := v21.trans s22
      have z1 := z1.keep ((s20.trans s21).trans s22)
      have z2 := z2.keep ((s20.trans s21).trans s22)
      have z3 := z3.keep ((s20.trans s21).trans s22)
      have z4 := z4.keep ((s20.trans s21).trans s22)
      have z5 := z5.keep ((s20.trans s21).trans s22)
      have z6 := z6.keep ((s20.trans s21).trans s22)
      have z7 := z7.keep ((s20.trans s21).trans s22)
      have c91 := bk.plus be
      refine ⟨_, g_4, _, g_0, _, g_15, dk, (A "e"), k, (P "e"), rfl, (w22 _ _ fk), (w22 _ _ fe), bk.addLen be (by decide), fun H23 e23 s23 n23 g23 => ?_⟩
      have w23 := w22.trans s23
      have u23 := u22.trans s23
      have v23 := v22.trans s23
      refine ⟨(A "y"), e23, (P "y"), (plusP k (P "e")), 1000, rfl, (w23 _ _ fy), g23, c91.kn, by_.addLen c91 (by decide), c91.sm (by decide +kernel), by decide, by decide, fun H24 d9 s24 n24 z9 => ?_⟩
      have w24 := w23.trans s24
      have u24 := u23.trans s24
      have v24 := v23.trans s24
      have z1 := z1.keep (s23.trans s24)
      have z2 := z2.keep (s23.trans s24)
      have z3 := z3.keep (s23.trans s24)
      have z4 := z4.keep (s23.trans s24)
      have z5 := z5.keep (s23.trans s24)
      have z6 := z6.keep (s23.trans s24)
      have z7 := z7.keep (s23.trans s24)
      have z8 := z8.keep (s23.trans s24)
      refine ⟨Nat.le_of_ble_eq_true rfl, fun L nL => ?_⟩
      have sL := same_upd (o := .lst [.ref d1, .ref d2, .ref d3, .ref d4, .ref d5, .ref d6, .ref d7, .ref d8, .ref d9]) nL
      have all := s1.trans w24
      exact q _ L [d1, d2, d3, d4, d5, d6, d7, d8, d9] (all.trans sL) (all.free nL) upd_same (.cons (z1.keep sL) (.cons (z2.keep sL) (.cons (z3.keep sL) (.cons (z4.keep sL) (.cons (z5.keep sL) (.cons (z6.keep sL) (.cons (z7.keep sL) (.cons (z8.keep sL) (.cons (z9.keep sL) (.nil))))))))))

def fOf (ks : List (L2.Key × V)) (n : Str) : Int := match valV ks (.inr n) with
  | some (.int i) => i
  | _ => 0
def isW (k a : Int) (ks : List (L2.Key × V)) : Bool := decide (1 ≤ k) && decide (2 ≤ a) && decide (ks.length = 13) && nms.all (fun n => isNat ((valV ks (.inr n)).getD .non)) && (eqsP (conP k) (conP a) varP).all fun p => decide (evp (fOf ks) p = 0)
theorem fOf_kz {vs : List Int} {i : Nat} {n : Str} {v : Int} (h : nms[i]? = some n) (g : vs[i]? = some v) : fOf (kzOf nms vs) n = v := by
  unfold fOf
  rw [valV_zip nms_nd h g]
theorem kz_flat {vs : List Int} (hl : vs.length = 13) (hv : ∀ v ∈ vs, Sm 100000 v) : ∀ n ∈ nms, ∀ w, valV (kzOf nms vs) (.inr n) = some w → FlatK w ∧ Sm 100000 (fOf (kzOf nms vs) n) := by
  intro n hn w hw
  obtain ⟨i, hi⟩ := List.mem_iff_getElem?.mp hn
  have lt : i < 13 := (List.getElem?_eq_some_iff.mp hi).1
  have g : vs[i]? = some (vs[i]'(by omega)) := List.getElem?_eq_getElem _
  rw [valV_zip nms_nd hi g] at hw
  cases hw
  exact ⟨.inl ⟨_, rfl⟩, by rw [fOf_kz hi g]; exact hv _ (List.getElem_mem _)⟩
theorem isW_kz (k a x y u v s t b r p q c d e : Int) : isW k a (kzOf nms [x, y, u, v, s, t, b, r, p, q, c, d, e]) =
    (decide (1 ≤ k) && (decide (2 ≤ a) && ((decide (0 ≤ x) && (decide (0 ≤ y) && (decide (0 ≤ u) && (decide (0 ≤ v) && (decide (0 ≤ s) && (decide (0 ≤ t) && (decide (0 ≤ b) && (decide (0 ≤ r) && (decide (0 ≤ p) && (decide (0 ≤ q) && (decide (0 ≤ c) && (decide (0 ≤ d) && decide (0 ≤ e))))))))))))) && eqV k a x y u v s t b r p q c d e))) := by
  have z : ∀ {i : Nat} {n : Str} {w : Int}, nms[i]? = some n → [x, y, u, v, s, t, b, r, p, q, c, d, e][i]? = some w → valV (kzOf nms [x, y, u, v, s, t, b, r, p, q, c, d, e]) (.inr n) = some (.int w) := fun h g => valV_zip nms_nd h g
  unfold isW
  rw [eqsP_all, eqI_V, fOf_kz (i := 0) rfl rfl, fOf_kz (i := 1) rfl rfl, fOf_kz (i := 2) rfl rfl, fOf_kz (i := 3) rfl rfl, fOf_kz (i := 4) rfl rfl, fOf_kz (i := 5) rfl rfl, fOf_kz (i := 6) rfl rfl, fOf_kz (i := 7) rfl rfl, fOf_kz (i := 8) rfl rfl,
    fOf_kz (i := 9) rfl rfl, fOf_kz (i := 10) rfl rfl, fOf_kz (i := 11) rfl rfl, fOf_kz (i := 12) rfl rfl]
  have e1 : (nms.all fun n => isNat ((valV (kzOf nms [x, y, u, v, s, t, b, r, p, q, c, d, e]) (.inr n)).getD .non)) = (decide (0 ≤ x) && (decide (0 ≤ y) && (decide (0 ≤ u) && (decide (0 ≤ v) && (decide (0 ≤ s) && (decide (0 ≤ t) && (decide (0 ≤ b) && (decide (0 ≤ r) && (decide (0 ≤ p) && (decide (0 ≤ q) && (decide (0 ≤ c) && (decide (0 ≤ d) && decide (0 ≤ e))))))))))))) := by
    generalize kzOf nms [x, y, u, v, s, t, b, r, p, q, c, d, e] = KZ at z ⊢
    unfold nms at z ⊢
    simp only [List.all_cons, List.all_nil, Bool.and_true]
    rw [z (i := 0) rfl rfl, z (i := 1) rfl rfl, z (i := 2) rfl rfl, z (i := 3) rfl rfl, z (i := 4) rfl rfl, z (i := 5) rfl rfl, z (i := 6) rfl rfl, z (i := 7) rfl rfl, z (i := 8) rfl rfl, z (i := 9) rfl rfl, z (i := 10) rfl rfl, z (i := 11) rfl rfl, z (i := 12) rfl rfl]
    rfl
  rw [e1, show (kzOf nms [x, y, u, v, s, t, b, r, p, q, c, d, e]).length = 13 from rfl, decide_eq_true (rfl : 13 = 13)]
  simp only [Bool.and_true, Bool.and_assoc]
theorem Sm.div {B : Nat} {x y : Int} (h : Sm B x) (hy : 0 < y) : Sm (B + 1) (x / y) := by
  unfold Sm at h ⊢
  rw [Nat.pow_succ]
  have h1 : x / y * y + x % y = x := Int.ediv_mul_add_emod ..
  have h2 := Int.emod_nonneg x (show y ≠ 0 by omega)
  have h3 := Int.emod_lt_of_pos x hy
  rcases Int.lt_or_le (x / y) 0 with l | l
  · have : x / y * y ≤ x / y * 1 := Int.mul_le_mul_of_nonpos_left (by omega) (by omega)
    have h4 : (x / y + 1) * y ≤ (x / y + 1) * 1 := Int.mul_le_mul_of_nonpos_left (by omega) (by omega)
    have h5 : (x / y + 1) * y = x / y * y + y := by rw [Int.add_mul, Int.one_mul]
    omega
  · have : x / y * 1 ≤ x / y * y := Int.mul_le_mul_of_nonneg_left (by omega) l
    omega
def sp_is_witness (K : PySem.W.Frag) : Sp := fun vs H Q _ => ∃ (k a : Int) (d : Addr), vs = [.int k, .int a, .ref d] ∧ Sm 80 k ∧ Sm 80 a ∧
  ((∃ ys, H d = some (.lst ys) ∧ ∀ H', Same H H' → Q (.bl false) H') ∨
    ∃ ks, H d = some (.dK ks) ∧ (∀ n ∈ nms, ∀ w, valV ks (.inr n) = some w → FlatK w ∧ Sm 100000 (fOf ks n)) ∧ ∀ H', Same H H' → Q (.bl (isW k a ks)) H')
theorem ok_is_witness {f : Addr} {fd : FuncData} (F : Fun K "is_witness" "is_witness" s_is_witness f fd) (C_unknown : Cal P w K mg base "unknown" 1 ["name"] (sp_unknown K)) (C_holds : Cal P w K mg base "holds" 3 ["relation", "values"] (sp_holds K)) (C_is_natural : Cal P w K mg base "is_natural" 2 ["value"] (sp_is_natural K)) (C_index_equations : Cal P w K mg base "index_equations" 8 ["k", "a", "numbers"] (sp_index_equations K)) (C_constant : Cal P w K mg base "constant" 2 ["number"] (sp_constant K)) (m_all : mg "all" = none) (m_isinstance : mg "isinstance" = none) (m_dict : mg "dict" = none) (m_len : mg "len" = none) {r_NAMES : Addr} (m_NAMES : mg "NAMES" = some (.ref r_NAMES)) (k_NAMES : TupK K r_NAMES [V.str "x", V.str "y", V.str "u", V.str "v", V.str "s", V.str "t", V.str "b", V.str "r", V.str "p", V.str "q", V.str "c", V.str "d", V.str "e"]) : FnOk P w K mg base CX0 9 f fd ["k", "a", "values"] (sp_is_witness K) := by
  refine F.ok sc_is_witness (fun vs H Q E h => ?_) (fun cdv A outer s H vs Q E hr h => ?_)
  · obtain ⟨k, a, d, rfl, _⟩ := h
    rfl
  · obtain ⟨k, a, d, rfl, sk, sa, h⟩ := h
    refine ⟨_, (pss_cons (ps_if (PW.pt (pw_or (pt_cmpR op_lt (pv 0) pe_int (nomark _)) (pw_or (pt_cmpR op_lt (pv 1) pe_int (nomark _)) (pw_or (pt_not (pt_val (pe_callB call_isi (by rfl) m_isinstance (by decide +kernel) (pa_cons (pv 2) (pa_cons (pe_bltn (v := .ty "dict") rfl m_dict (by decide +kernel) rfl) pa_nil))))) (pw_or1 (pt_cmpR op_ne (pe_callB call_lenD (by rfl) m_len (by decide +kernel) (pa_cons (pv 2) pa_nil)) (pe_callB call_len_seq (by rfl) m_len (by decide +kernel) (pa_cons (pe_glob rfl m_NAMES (show RelV (.ref r_NAMES) _ from rfl)) pa_nil)) (nomark _))))))) (pss_one (ps_ret pe_bl)) pss_nil)
      (pss_cons (ps_if (pt_not (pt_val (pe_callB (cr_all rfl) (by rfl) m_all (by decide +kernel) (pa_cons (pe_lc (own := [("name", 4)]) (g := (gName 4)) (by rfl) sc_is_witness.nd (pi_tup (pe_glob rfl m_NAMES (show RelV (.ref r_NAMES) _ from rfl))) (blkOk_by (own := [("name", 4)]) (N := ["k", "a", "values", "numbers", "name", "relation"]) (sc := defScope s_is_witness) (by decide +kernel)) (fun _ _ _ _ _ => (pg_name (i := 4) sc_is_witness.nd rfl (Or.inl rfl))) (fun _ _ _ _ _ => pts_nil) (fun _ _ _ _ _ => (pe_cal C_is_natural (hr.mono (by decide)) (by rfl) (pa_cons (pe_dget1 (hu_of hr) (pv 2) (pv 4) ⟨by rfl, by rfl, by rfl, by rfl⟩) pa_nil)))) pa_nil)))) (pss_one (ps_ret pe_bl)) pss_nil)
      (pss_cons (ps_setDc (i := 3) (own := [("name", 4)]) (g := (gName 4)) (by rfl) sc_is_witness.nd rfl rfl (sw_dict rfl rfl rfl (by decide +kernel)) (pi_tup (pe_glob rfl m_NAMES (show RelV (.ref r_NAMES) _ from rfl))) (blkOk_by (own := [("name", 4)]) (N := ["k", "a", "values", "numbers", "name", "relation"]) (sc := defScope s_is_witness) (by decide +kernel)) (fun _ _ _ _ _ => (pg_name (i := 4) sc_is_witness.nd rfl (Or.inl rfl))) (fun _ _ _ _ _ => pts_nil) (fun _ _ _ _ _ => (pv 4)) (fun _ _ _ _ _ => (pe_cal C_unknown (hr.mono (by decide)) (by rfl) (pa_cons (pv 4) pa_nil))))
      (pss_one (ps_ret (pe_callB (cr_all rfl) (by rfl) m_all (by decide +kernel) (pa_cons (pe_lc (own := [("relation", 5)]) (g := (gName 5)) (by rfl) sc_is_witness.nd (pi_list (pe_cal C_index_equations hr (by rfl) (pa_cons (pe_cal C_constant (hr.mono (by decide)) (by rfl) (pa_cons (pv 0) pa_nil)) (pa_cons (pe_cal C_constant (hr.mono (by decide)) (by rfl) (pa_cons (pv 1) pa_nil)) (pa_cons (pv 3) pa_nil))))) (blkOk_by (own := [("relation", 5)]) (N := ["k", "a", "values", "numbers", "name", "relation"]) (sc := defScope s_is_witness) (by decide +kernel)) (fun _ _ _ _ _ => (pg_name (i := 5) sc_is_witness.nd rfl (Or.inl rfl))) (fun _ _ _ _ _ => pts_nil) (fun _ _ _ _ _ => (pe_cal C_holds (hr.mono (by decide)) (by rfl) (pa_cons (pv 5) (pa_cons (pv 2) pa_nil))))) pa_nil))))))), ?_⟩
    rw [st_is_witness]
    have fin : ¬ (1 ≤ k ∧ 2 ≤ a) → ∀ H', Same H H' → Q (.bl false) H' := by
      intro hn
      rcases h with ⟨ys, _, q⟩ | ⟨ks, _, _, q⟩
      · exact q
      · intro H' s
        have := q H' s
        have e : isW k a ks = false := by
          unfold isW
          by_cases h1 : 1 ≤ k
          · rw [decide_eq_false (show ¬ 2 ≤ a from fun z => hn ⟨h1, z⟩)]
            simp
          · rw [decide_eq_false h1]
            simp
        rw [e] at this
        exact this
    walk_at "wk"
    refine ite2 (fun e => ?_) (fun e => ?_)
    · exact fin (fun z => absurd (of_decide_eq_true e) (by omega)) H (fun _ _ z => z)
    have hk : 1 ≤ k := by
      by_cases z : k < 1
      · exact absurd (decide_eq_true z) e
      · omega
    walk_at "wk"
    refine ite2 (fun e => ?_) (fun e => ?_)
    · exact fin (fun z => absurd (of_decide_eq_true e) (by omega)) H (fun _ _ z => z)
    have ha : 2 ≤ a := by
      by_cases z : a < 2
      · exact absurd (decide_eq_true z) e
      · omega
    rcases h with ⟨ys, hd, q⟩ | ⟨ks, hd, hfl, q⟩
    · refine ⟨_, rfl, .ref d, .ty "dict", .type "list", .type "dict", false, rfl, .ty _, .base (.lst hd), kit_ty (by decide +kernel), ?_⟩
      exact ⟨_, rfl, q H (fun _ _ z => z)⟩
    refine ⟨_, rfl, .ref d, .ty "dict", .type "dict", .type "dict", true, rfl, .ty _, .base (.dK hd), kit_ty (by decide +kernel), ?_⟩
    have same0 : Same H H := fun _ _ z => z
    have fin2 : (decide (ks.length = 13) && nms.all (fun n => isNat ((valV ks (.inr n)).getD .non))) = false → ∀ H', Same H H' → Q (.bl false) H' := by
      intro e2 H' s'
      have := q H' s'
      have e3 : isW k a ks = false := by
        unfold isW
        rw [Bool.and_assoc (decide (1 ≤ k) && decide (2 ≤ a)), e2, Bool.and_false, Bool.false_and]
      rw [e3] at this
      exact this
    refine ⟨_, rfl, WK.nift ⟨_, rfl, d, ks, rfl, hd, r_NAMES, _, rfl, .inr (k_NAMES.sq _), ?_⟩⟩
    refine WK.ne_i ⟨_, rfl, ?_⟩
    refine ite2 (fun e => ?_) (fun e => ?_)
    · refine fin2 ?_ H same0
      rw [decide_eq_false (fun z : ks.length = 13 => ?_), Bool.false_and]
      rw [z] at e
      revert e
      decide
    have hlen : ks.length = 13 := by
      by_cases z : ks.length = 13
      · exact z
      · refine absurd ?_ e
        rw [Bool.not_eq_true', decide_eq_false_iff_not]
        intro y
        injection y with y
        exact z (by exact_mod_cast y)
    -- all([..])
    refine ⟨_, rfl, ⟨_, k_NAMES.sq H⟩, fun D nD => ?_⟩
    refine lc_it (walk_tup (K := K) (a := r_NAMES) (xs := nms.map V.str)) (fun i H' => H' D = some (.lst (((nms.take i).map fun n => isNat ((valV ks (.inr n)).getD .non)).map V.bl)) ∧ Same H H') ?_ ?_ ?_ ?_
    · exact ⟨upd_same, same_upd nD⟩
    · exact fun i H' _ _ => k_NAMES.sq H'
    · rintro i x H1 H2 lt ⟨hD, s1⟩ ⟨rfl, hx⟩
      rw [List.getElem?_map] at hx
      obtain ⟨n, hn1, rfl⟩ := Option.map_eq_some_iff.mp hx
      refine ⟨rfl, WK.yes (WK.ift ⟨_, rfl, d, rfl, .inl ⟨ks, .inl (s1 _ _ hd)⟩, _, rfl, valV ks (.inr n), .inl ⟨ks, .inr n, .inl (s1 _ _ hd), rfl, rfl⟩, _, rfl, ?_, ?_⟩)⟩
      · cases ev : valV ks (.inr n) with
        | none => exact .inr (.inr (.inl rfl))
        | some w => exact (hfl n (List.mem_of_getElem? hn1) w ev).1
      · refine ⟨_, hD, ?_, ?_, Same.new s1 nD⟩
        · rw [List.length_map, List.length_map, List.length_take]
          exact sz_lt (Nat.le_trans (Nat.min_le_right ..) (by decide))
        · rw [upd_same, List.take_add_one, hn1, List.map_append, List.map_append]
          rfl
    rintro H1 ⟨hD, s1⟩
    refine ⟨D, _, rfl, .inl (.inl hD), ?_⟩
    refine ⟨_, rfl, ?_⟩
    have eAll : (((nms.take (nms.map V.str).length).map fun n => isNat ((valV ks (.inr n)).getD .non)).all id) = nms.all fun n => isNat ((valV ks (.inr n)).getD .non) := by
      rw [List.take_of_length_le (by rw [List.length_map]; exact Nat.le_refl _), List.all_map]
      rfl
    rw [eAll]
    refine ite2 (fun e => ?_) (fun e => ?_)
    · refine fin2 ?_ H1 s1
      rw [Bool.not_eq_true'] at e
      rw [e, Bool.and_false]
    have hall : (nms.all fun n => isNat ((valV ks (.inr n)).getD .non)) = true := by
      cases z : nms.all fun n => isNat ((valV ks (.inr n)).getD .non) with
      | true => rfl
      | false => exact absurd (by rw [z]; rfl) e
    have hval : ∀ n ∈ nms, valV ks (.inr n) = some (.int (fOf ks n)) ∧ Sm 100000 (fOf ks n) := by
      intro n hn
      have h1 := List.all_eq_true.mp hall n hn
      cases ev : valV ks (.inr n) with
      | none => rw [ev] at h1; exact absurd h1 (by decide)
      | some w =>
        have h2 := hfl n hn w ev
        rw [ev] at h1
        cases w with
        | int i =>
          have e1 : fOf ks n = i := by unfold fOf; rw [ev]
          exact ⟨by rw [e1], h2.2⟩
        | _ => exact absurd h1 (by simp [isNat])
    -- numbers
    refine ⟨_, rfl, ⟨_, k_NAMES.sq H1⟩, fun N nN => ?_⟩
    refine dc_it (walk_tup (K := K) (a := r_NAMES) (xs := nms.map V.str)) (fun i H' => ∃ (kz : List (L2.Key × V)) (A : Str → Addr), H' N = some (.dK kz) ∧ kz.length ≤ i ∧ (∀ n ∈ nms.take i, valV kz (.inr n) = some (.ref (A n)) ∧ PD H' (A n) (varP n)) ∧ (∀ n, n ∉ nms.take i → valV kz (.inr n) = none) ∧ Same H1 H') ?_ ?_ ?_ ?_
    · exact ⟨[], fun _ => 0, upd_same, Nat.le_refl _, fun n hn => (List.not_mem_nil hn).elim, fun _ _ => rfl, same_upd nN⟩
    · exact fun i H' _ _ => k_NAMES.sq H'
    · rintro i x H2 H3 lt ⟨kz, A, hN, hl, hA, hno, s2⟩ ⟨rfl, hx⟩
      rw [List.getElem?_map] at hx
      obtain ⟨n, hn1, rfl⟩ := Option.map_eq_some_iff.mp hx
      have ilt : i < 13 := by rw [List.length_map] at lt; exact lt
      have nd : nms.Nodup := by decide +kernel
      have htk : nms.take (i + 1) = nms.take i ++ [n] := by rw [List.take_add_one, hn1]; rfl
      have hnot : n ∉ nms.take i := by
        have := List.Nodup.sublist (List.take_sublist (i + 1) nms) nd
        rw [htk, List.nodup_append] at this
        exact fun z => this.2.2 n z n (by simp) rfl
      have hv0 := hno n hnot
      refine ⟨rfl, WK.yes (WK.ift ⟨_, rfl, _, rfl, n, rfl, fun H4 r s4 n4 h4 => ?_⟩)⟩
      have hrN : r ≠ N := fun z => by
        rw [z, hN] at n4
        cases n4
      refine ⟨kz, .inr n, rfl, s4 _ _ hN, sz_lt (Nat.le_trans hl (by omega)), kz ++ [(.inr n, .ref r)], (fun m => if m = n then r else A m), ?_, ?_, ?_, ?_, Same.new (s2.trans s4) nN⟩
      · rw [upd_same, putK_new hv0]
      · rw [List.length_append]
        show kz.length + 1 ≤ _
        omega
      · intro m hm
        rw [valV_snoc2 hv0]
        by_cases z : m = n
        · subst z
          rw [if_pos rfl]
          dsimp only
          rw [if_pos rfl]
          refine ⟨rfl, ?_⟩
          show (upd H4 N _) r = _
          rw [upd_ne hrN]
          exact h4
        · rw [if_neg (fun y => z (Sum.inr.inj y))]
          dsimp only
          rw [if_neg z]
          rw [htk] at hm
          have hm2 : m ∈ nms.take i := by
            rcases List.mem_append.mp hm with y | y
            · exact y
            · exact absurd (List.mem_singleton.mp y) z
          obtain ⟨g1, g2⟩ := hA m hm2
          refine ⟨g1, ?_⟩
          show (upd H4 N _) (A m) = _
          have g3 : H4 (A m) = _ := s4 _ _ g2
          rw [upd_ne (fun y => by unfold PD at g2; rw [y, hN] at g2; cases g2)]
          exact g3
      · intro m hm
        rw [htk] at hm
        rw [valV_snoc2 hv0, if_neg (fun y => hm (List.mem_append.mpr (.inr (by rw [Sum.inr.inj y]; simp))))]
        exact hno m fun y => hm (List.mem_append.mpr (.inl y))
    rintro H2 ⟨kz, A, hN, hl, hA, hno, s2⟩
    rw [List.length_map, List.take_of_length_le (Nat.le_refl _)] at hA
    dsimp only [List.set, gName]
    refine ⟨_, rfl, k, rfl, fun H3 c1 s3 n3 h3 => ⟨_, rfl, a, rfl, fun H4 c2 s4 n4 h4 => ?_⟩⟩
    have s12 := s1.trans s2
    have s34 := s3.trans s4
    refine ⟨_, rfl, c1, c2, N, conP k, conP a, kz, A, varP, rfl, s4 _ _ h3, h4, sd_con sk, sd_con sa, s34 _ _ hN, fun n hn => ⟨(hA n hn).1, s34 _ _ (hA n hn).2, sd_var n⟩, fun H5 L ds s5 n5 hL zs => ?_⟩
    have s15 := s12.trans (s34.trans s5)
    refine ⟨L, rfl, ⟨_, .inl (.inl hL)⟩, fun D2 nD2 => ?_⟩
    have len9 := Paired.length zs
    refine lc_it (walk_list (K := K) (a := L) (xs := ds.map V.ref)) (fun i H' => H' D2 = some (.lst ((((eqsP (conP k) (conP a) varP).take i).map fun p => decide (evp (fOf ks) p = 0)).map V.bl)) ∧ Same H5 H') ?_ ?_ ?_ ?_
    · exact ⟨upd_same, same_upd nD2⟩
    · rintro i H' _ ⟨_, s6⟩
      exact .inl (.inl (s6 _ _ hL))
    · rintro i x H6 H7 lt ⟨hD2, s6⟩ ⟨rfl, hx⟩
      obtain ⟨z, hz, rfl⟩ := ref_at hx
      obtain ⟨p, hp, hzr⟩ := L2.paired_get zs hz
      have wk := eqsP_wk (S := nms) (NmP.con nms k) (NmP.con nms a) (sd_con sk) (sd_con sa) (fun n hn => ⟨NmP.var hn, sd_var n⟩) p (List.mem_of_getElem? hp)
      refine ⟨rfl, WK.yes (WK.ift ⟨_, rfl, _, rfl, z, d, p, ks, fOf ks, 100000, rfl, hzr.keep s6, (s15.trans s6) _ _ hd, fun t ht => ?_, Nat.le_refl _, fun H8 s8 => ?_⟩)⟩
      · obtain ⟨w1, w2, w3⟩ := wk.use t ht
        exact ⟨w1, w2, fun x hx => hval x (w3 x hx)⟩
      · refine ⟨_, s8 _ _ hD2, ?_, ?_, Same.new (s6.trans s8) nD2⟩
        · rw [List.length_map, List.length_map, List.length_take]
          exact sz_lt (Nat.le_trans (Nat.min_le_right ..) (by rw [eqsP_len]; decide))
        · rw [upd_same, List.take_add_one, hp, List.map_append, List.map_append]
          rfl
    rintro H6 ⟨hD2, s6⟩
    rw [List.length_map, len9, List.take_of_length_le (Nat.le_refl _)] at hD2
    refine ⟨D2, _, rfl, .inl (.inl hD2), ?_⟩
    have := q H6 (s15.trans s6)
    have e5 : isW k a ks = (((eqsP (conP k) (conP a) varP).map fun p => decide (evp (fOf ks) p = 0)).all id) := by
      unfold isW
      rw [decide_eq_true hk, decide_eq_true ha, decide_eq_true hlen, hall]
      simp only [Bool.true_and, List.all_map, Function.comp_def, id]
    rw [e5] at this
    exact this

def sp_digits_needed (K : PySem.W.Frag) : Sp := fun vs H Q _ => ∃ (k : Nat) (a : Int) (B : Nat) (n : Nat), vs = [.int k, .int a] ∧ Fit B k a ∧ 1 ≤ n ∧ n < 9000 ∧ ((10 ^ (n - 1) : Nat) : Int) ≤ max (px a (nW k a)) (px (bW k a) k) ∧ max (px a (nW k a)) (px (bW k a) k) < ((10 ^ n : Nat) : Int) ∧ cnt0 k a ≤ n ∧
  ∀ H', Same H H' → Q (.int n) H'
theorem ok_digits_needed {f : Addr} {fd : FuncData} (F : Fun K "digits_needed" "digits_needed" s_digits_needed f fd) (C__three_pairs : Cal P w K mg base "_three_pairs" 3 ["k", "a"] (sp__three_pairs K)) (C_raised : Cal P w K mg base "raised" 1 ["base", "exponent"] (sp_raised K)) (m_max : mg "max" = none) : FnOk P w K mg base CX0 4 f fd ["k", "a"] (sp_digits_needed K) := by
  refine F.ok sc_digits_needed (fun vs H Q E h => ?_) (fun cdv A outer s H vs Q E hr h => ?_)
  · obtain ⟨k, a, B, n, rfl, _⟩ := h
    rfl
  · obtain ⟨k, a, B, n, rfl, fit, n1, n2, hlo, hhi, hc, q⟩ := h
    obtain ⟨k1, a2, sa, sk, sx, su, sb, ss, b2, hB, hn, hk⟩ := id fit
    refine ⟨_, (pss_cons (ps_asg (pe_cal C__three_pairs hr (by rfl) (pa_cons (pv 0) (pa_cons (pv 1) pa_nil))) (pg_tup (by rfl) (pgs_cons (pg_name (i := 2) sc_digits_needed.nd rfl (.inl rfl)) (pgs_cons (pg_tup (by rfl) (pgs_cons (pg_name (i := 3) sc_digits_needed.nd rfl (.inl rfl)) (pgs_cons (pg_name (i := 2) sc_digits_needed.nd rfl (.inl rfl)) pgs_nil))) (pgs_cons (pg_tup (by rfl) (pgs_cons (pg_name (i := 4) sc_digits_needed.nd rfl (.inl rfl)) (pgs_cons (pg_name (i := 2) sc_digits_needed.nd rfl (.inl rfl)) pgs_nil))) (pgs_cons (pg_name (i := 2) sc_digits_needed.nd rfl (.inl rfl)) pgs_nil))))))
      (pss_cons (ps_set (i := 5) sc_digits_needed.nd rfl (.inl rfl) (pe_callB (call_max2 rfl) (by rfl) m_max (by decide +kernel) (pa_cons (pv 3) (pa_cons (pv 4) pa_nil))))
      (pss_cons (ps_set (i := 6) sc_digits_needed.nd rfl (.inl rfl) (pe_op op_fdivW (pe_op op_mulX (pe_op op_sub (pe_bits (pv 5)) pe_int) pe_int) (pe_op op_pow pe_int pe_int)))
      (pss_cons (ps_set (i := 7) sc_digits_needed.nd rfl (.inl rfl) (pe_cal C_raised (hr.mono (by decide)) (by rfl) (pa_cons pe_int (pa_cons (pv 6) pa_nil))))
      (pss_cons (ps_while PassesOwn.never (pt_cmpR op_le (pv 7) (pv 5) (nomark _)) (pss_one (ps_par (by rfl) sc_digits_needed.nd (i := 6) (j := 7) rfl rfl (by decide) rfl rfl (pa_cons (pe_op op_add (pv 6) pe_int) (pa_cons (pe_op op_mulX (pv 7) pe_int) pa_nil)) (by rfl))))
      (pss_one (ps_ret (pv 6)))))))), ?_⟩
    rw [st_digits_needed]
    refine ⟨_, rfl, _, rfl, k, a, B, rfl, fit, fun H1 T t1 t2 t3 s1 n1 hT h1 h2 h3 => ?_⟩
    refine gTup_as (sq_of hT) rfl ⟨_, _, rfl, ?_⟩
    dsimp only [List.set]
    refine ⟨_, _, rfl, gTup_as (sq_of h2) rfl ⟨_, _, rfl, _, _, rfl, rfl, ?_⟩⟩
    refine ⟨_, _, rfl, gTup_as (sq_of h3) rfl ⟨_, _, rfl, _, _, rfl, rfl, ?_⟩⟩
    refine ⟨_, _, rfl, rfl, ?_⟩
    dsimp only [List.set]
    refine ⟨_, rfl, _, rfl, _, _, rfl, ?_⟩
    rw [show (if px (bW k a) k > px a (nW k a) then px (bW k a) k else px a (nW k a)) = max (px a (nW k a)) (px (bW k a) k) by rw [Int.max_def]; split <;> split <;> omega]
    unfold cnt0 at hc
    obtain ⟨g, eg⟩ : ∃ g, g = max (px a (nW k a)) (px (bW k a) k) := ⟨_, rfl⟩
    rw [← eg] at hlo hhi hc ⊢
    have g1 : 1 ≤ g := by
      have : 0 < 10 ^ (n - 1) := Nat.pow_pos (by decide)
      omega
    have b1 : 1 ≤ Builtin.Int.intBits g := by
      obtain ⟨gn, rfl⟩ : ∃ gn : Nat, g = gn := ⟨g.toNat, by omega⟩
      have h1 := bl_lt gn
      have : bl gn = Builtin.Int.intBits (gn : Int) := rfl
      rw [this] at h1
      by_cases z : Builtin.Int.intBits (gn : Int) = 0
      · rw [z] at h1
        omega
      · omega
    have ec : ((Builtin.Int.intBits g : Int) - 1) * 301029995 / 10 ^ (9 : Int).toNat = (((Builtin.Int.intBits g - 1) * 301029995 / 10 ^ 9 : Nat) : Int) := by
      rw [show (10 : Int) ^ (9 : Int).toNat = 1000000000 from rfl, show 10 ^ 9 = 1000000000 from rfl]
      generalize Builtin.Int.intBits g = bb at b1 ⊢
      omega
    obtain ⟨c0, ec0⟩ : ∃ c0, c0 = (Builtin.Int.intBits g - 1) * 301029995 / 10 ^ 9 := ⟨_, rfl⟩
    have hbits : Builtin.Int.intBits g < 100000 := by
      rw [show 10 ^ 9 = 1000000000 from rfl] at hc
      omega
    rw [← ec0] at hc ec
    have sbits : Sm 64 ((Builtin.Int.intBits g : Int) - 1) := Sm.le (y := 100000) (Sm.lit (k := 64)) (by omega) (by omega)
    walk_at "wk"
    refine ⟨_, rfl, g, rfl, _, _, rfl, rfl, _, _, rfl, rfl, Sm.mx sbits (Sm.lit (k := 64)) (by decide), _, _, rfl, rfl, ⟨by decide, by decide, by decide⟩, _, _, rfl, rfl, ⟨by decide, by decide +kernel⟩, ?_⟩
    dsimp only
    rw [ec]
    refine ⟨_, rfl, 10, c0, 4 * c0 + 5, rfl, by decide, (Sm.lit (k := 5) (x := 10)).mono (by omega), (sm_ten c0).mono (by omega), by omega, by omega, ?_⟩
    dsimp only [List.set]
    refine ⟨fun m σ' H' => ∃ c : Nat, σ' = [some (.int k), some (.int a), some (.int (bW k a)), some (.int (px a (nW k a))), some (.int (px (bW k a) k)), some (.int g), some (.int c), some (.int ((10 ^ c : Nat) : Int))] ∧ c ≤ n ∧ m = n - c ∧ H' = H1, ⟨n - c0, c0, rfl, hc, rfl, rfl⟩, ?_⟩
    rintro m σ' H' ⟨c, rfl, cn, rfl, rfl⟩
    refine ⟨_, rfl, _, rfl, _, _, rfl, rfl, _, rfl, ite2 (fun e => ?_) (fun e => ?_)⟩
    · have e1 : ((10 ^ c : Nat) : Int) ≤ g := of_decide_eq_true e
      have cl : c < n := by
        rcases Nat.lt_or_eq_of_le cn with l | l
        · exact l
        · rw [← l] at hhi
          omega
      refine ⟨fun σ2 H2 => σ2 = [some (.int k), some (.int a), some (.int (bW k a)), some (.int (px a (nW k a))), some (.int (px (bW k a) k)), some (.int g), some (.int ((c + 1 : Nat) : Int)), some (.int ((10 ^ (c + 1) : Nat) : Int))] ∧ H2 = H', ?_, ?_⟩
      · rintro σ' H' ⟨rfl, rfl⟩
        exact ⟨n - (c + 1), by omega, c + 1, rfl, by omega, rfl, rfl⟩
      · walk_at "wk"
        refine ⟨_, _, rfl, rfl, Sm.mx (sm_ten c) (Sm.lit (k := 64)) (by omega), _, _, rfl, ?_⟩
        refine ⟨?_, rfl⟩
        dsimp only [List.set]
        rw [ten_succ]
        rfl
    · have e1 : g < ((10 ^ c : Nat) : Int) := by
        by_cases z : ((10 ^ c : Nat) : Int) ≤ g
        · exact absurd (decide_eq_true z) e
        · omega
      have : c = n := by
        rcases Nat.lt_or_eq_of_le cn with l | l
        · have h1 : 10 ^ c ≤ 10 ^ (n - 1) := Nat.pow_le_pow_right (by decide) (by omega)
          omega
        · exact l
      subst this
      refine ⟨_, rfl, ?_⟩
      exact q _ s1

def sp__law_is_integer (K : PySem.W.Frag) : Sp := fun vs H Q _ => ∃ (i : Int), vs = [.int i] ∧ Q (.bl true) H
theorem ok__law_is_integer {f : Addr} {fd : FuncData} (F : Fun K "_law_is_integer" "_law_is_integer" s__law_is_integer f fd) (m_isinstance : mg "isinstance" = none) (m_int : mg "int" = none) (m_bool : mg "bool" = none) : FnOk P w K mg base CX0 1 f fd ["actual"] (sp__law_is_integer K) := by
  refine F.ok sc__law_is_integer (fun vs H Q E h => ?_) (fun cdv A outer s H vs Q E hr h => ?_)
  · obtain ⟨i, rfl, _⟩ := h
    rfl
  · obtain ⟨i, rfl, q⟩ := h
    refine ⟨_, (pss_one (ps_ret (pe_and (pe_callB isi_int (by rfl) m_isinstance (by decide +kernel) (pa_cons (pv 0) (pa_cons (pe_bltn (v := .ty "int") rfl m_int (by decide +kernel) rfl) pa_nil))) (pe_one (pe_not (pe_callB isi_bool (by rfl) m_isinstance (by decide +kernel) (pa_cons (pv 0) (pa_cons (pe_bltn (v := .ty "bool") rfl m_bool (by decide +kernel) rfl) pa_nil)))))))), ?_⟩
    walk_at "rd"
    exact q

def sp__law_has_figures (K : PySem.W.Frag) : Sp := fun vs H Q _ => ∃ (g : Int) (n : Nat), vs = [.int g, .int n] ∧ 1 ≤ n ∧ n < 20000 ∧ Q (.bl (decide (((10 ^ (n - 1) : Nat) : Int) ≤ g) && decide (g < 10 * ((10 ^ (n - 1) : Nat) : Int)))) H
theorem ok__law_has_figures {f : Addr} {fd : FuncData} (F : Fun K "_law_has_figures" "_law_has_figures" s__law_has_figures f fd) (m_range : mg "range" = none) : FnOk P w K mg base CX0 1 f fd ["number", "count"] (sp__law_has_figures K) := by
  refine F.ok sc__law_has_figures (fun vs H Q E h => ?_) (fun cdv A outer s H vs Q E hr h => ?_)
  · obtain ⟨g, n, rfl, _⟩ := h
    rfl
  · obtain ⟨g, n, rfl, n1, n2, q⟩ := h
    refine ⟨_, (pss_cons (ps_set (i := 2) sc__law_has_figures.nd rfl (.inl rfl) pe_int)
      (pss_cons (ps_for PassesOwn.never rfl (pi_range1 (by rfl) m_range (pa_cons (pe_op op_sub (pv 1) pe_int) pa_nil)) (pg_name (i := 3) sc__law_has_figures.nd rfl (.inl rfl)) (pss_one (ps_set (i := 2) sc__law_has_figures.nd rfl (.inl rfl) (pe_op op_mulX (pv 2) pe_int))))
      (pss_one (ps_ret (pe_and (pe_cmpR op_le (pv 2) (pv 0) (nomark _)) (pe_one (pe_cmpR op_lt (pv 0) (pe_op op_mulX pe_int (pv 2)) (nomark _)))))))), ?_⟩
    rw [st__law_has_figures]
    obtain ⟨m, rfl⟩ : ∃ m, n = m + 1 := ⟨n - 1, by omega⟩
    rw [show m + 1 - 1 = m from rfl] at q
    refine ⟨_, rfl, _, _, rfl, rfl, ?_⟩
    refine ⟨_, rfl, by omega, by omega, ?_⟩
    rw [show (((m + 1 : Nat) : Int) - 1).toNat = m by omega]
    refine for_rng (n := m) (fun k σ' H' => ∃ c3 : Option V, σ' = [some (.int g), some (.int ((m + 1 : Nat) : Int)), some (.int ((10 ^ k : Nat) : Int)), c3] ∧ H' = H) ?_ ?_ ?_
    · exact ⟨none, rfl, rfl⟩
    · rintro k σ' H' hk ⟨c3, rfl, rfl⟩
      refine ⟨_, rfl, _, _, rfl, rfl, Sm.mx (sm_ten k) (Sm.lit (k := 64)) (by omega), ⟨some (.int (k : Int)), ?_, rfl⟩⟩
      dsimp only [List.set]
      rw [ten_succ]
    · rintro σ' H' ⟨c3, rfl, rfl⟩
      refine ⟨_, rfl, _, rfl, _, _, rfl, rfl, ?_⟩
      refine ⟨_, rfl, ite2 (fun e => ?_) (fun e => ?_)⟩
      · rw [e, Bool.true_and] at q
        refine ⟨_, rfl, _, rfl, _, _, rfl, rfl, Sm.mx (Sm.lit (k := 64)) (sm_ten m) (by omega), _, _, rfl, rfl, ?_⟩
        exact q
      · rw [Bool.eq_false_iff.mpr e, Bool.false_and] at q
        exact q

def sp__law_cell (K : PySem.W.Frag) : Sp := fun vs H Q _ => ∃ (a : Addr) (ns : List Int) (k : Nat), vs = [.ref a, .int k] ∧ SqL K H a (ns.map V.int) ∧ Q (.int (ns.getD k 0)) H
theorem ok__law_cell {f : Addr} {fd : FuncData} (F : Fun K "_law_cell" "_law_cell" s__law_cell f fd) (m_len : mg "len" = none) : FnOk P w K mg base CX0 1 f fd ["script", "k"] (sp__law_cell K) := by
  refine F.ok sc__law_cell (fun vs H Q E h => ?_) (fun cdv A outer s H vs Q E hr h => ?_)
  · obtain ⟨a, ns, k, rfl, _⟩ := h
    rfl
  · obtain ⟨a, ns, k, rfl, hS, q⟩ := h
    refine ⟨_, (pss_cons (ps_if (pt_cmpR op_lt (pv 1) (pe_callB call_len_seq (by rfl) m_len (by decide +kernel) (pa_cons (pv 0) pa_nil)) (nomark _)) (pss_one (ps_ret (pe_ix ix_list (pv 0) (pv 1) (fun _ _ => rfl)))) pss_nil)
      (pss_one (ps_ret pe_int))), ?_⟩
    walk_at "rd"
    refine ⟨_, _, rfl, .inl hS, ?_⟩
    walk_at "rd"
    refine ite2 (fun e => ?_) (fun e => ?_)
    · have h1 : k < ns.length := by
        have := of_decide_eq_true e
        rw [List.length_map] at this
        omega
      walk_at "rd"
      refine ⟨_, _, _, .int ns[k], rfl, rfl, hS, atI_nat (by rw [List.getElem?_map, List.getElem?_eq_getElem h1]; rfl), ?_⟩
      rw [List.getD_eq_getElem?_getD, List.getElem?_eq_getElem h1] at q
      exact q
    · have h1 : ¬ k < ns.length := fun l => e (decide_eq_true (by rw [List.length_map]; omega))
      walk_at "rd"
      rw [List.getD_eq_getElem?_getD, List.getElem?_eq_none (by omega)] at q
      exact q

def sp__law_holds (K : PySem.W.Frag) : Sp := fun vs H Q _ => ∃ (k a : Int) (D : Addr) (x y u v s t b r p q c d e : Int), vs = [.int k, .int a, .ref D] ∧ H D = some (.dK (kzOf nms [x, y, u, v, s, t, b, r, p, q, c, d, e])) ∧ (∀ z ∈ [x, y, u, v, s, t, b, r, p, q, c, d, e], Sm 100000 z) ∧ Sm 80 k ∧ Sm 80 a ∧
  ∀ H', Same H H' → Q (.bl (eqV k a x y u v s t b r p q c d e)) H'
theorem ok__law_holds {f : Addr} {fd : FuncData} (F : Fun K "_law_holds" "_law_holds" s__law_holds f fd)  : FnOk P w K mg base CX0 1 f fd ["k", "a", "n"] (sp__law_holds K) := by
  refine F.ok sc__law_holds (fun vs H Q E h => ?_) (fun cdv A outer s_ H vs Q E hr h => ?_)
  · obtain ⟨k, a, D, x, y, u, v, s, t, b, r, p, q, c, d, e, rfl, _⟩ := h
    rfl
  · obtain ⟨k, a, D, x, y, u, v, s, t, b, r, p, q, c, d, e, rfl, hD, hv, sk, sa, qq⟩ := h
    refine ⟨_, (pss_cons (ps_set (i := 3) sc__law_holds.nd rfl (.inl rfl) (pe_lst (pa_cons (pe_op op_sub (pe_op op_sub (pe_op op_mulX (pe_dget (hu_of hr) (pv 2) pe_str (fun _ _ => rfl)) (pe_dget (hu_of hr) (pv 2) pe_str (fun _ _ => rfl))) (pe_op op_mulX (pe_op op_mulX (pe_op op_sub (pe_op op_mulX (pv 1) (pv 1)) pe_int) (pe_dget (hu_of hr) (pv 2) pe_str (fun _ _ => rfl))) (pe_dget (hu_of hr) (pv 2) pe_str (fun _ _ => rfl)))) pe_int) (pa_cons (pe_op op_sub (pe_op op_sub (pe_op op_mulX (pe_dget (hu_of hr) (pv 2) pe_str (fun _ _ => rfl)) (pe_dget (hu_of hr) (pv 2) pe_str (fun _ _ => rfl))) (pe_op op_mulX (pe_op op_mulX (pe_op op_sub (pe_op op_mulX (pv 1) (pv 1)) pe_int) (pe_dget (hu_of hr) (pv 2) pe_str (fun _ _ => rfl))) (pe_dget (hu_of hr) (pv 2) pe_str (fun _ _ => rfl)))) pe_int) pa_nil))))
      (pss_cons (ps_expr (pe_bm PySem.F.plainAttrs_list PySem.F.slot_list_append PySem.F.type_list_append mt_append (pv 3) (pa_cons (pe_op op_sub (pe_op op_sub (pe_op op_mulX (pe_dget (hu_of hr) (pv 2) pe_str (fun _ _ => rfl)) (pe_dget (hu_of hr) (pv 2) pe_str (fun _ _ => rfl))) (pe_op op_mulX (pe_op op_mulX (pe_op op_sub (pe_op op_mulX (pe_dget (hu_of hr) (pv 2) pe_str (fun _ _ => rfl)) (pe_dget (hu_of hr) (pv 2) pe_str (fun _ _ => rfl))) pe_int) (pe_dget (hu_of hr) (pv 2) pe_str (fun _ _ => rfl))) (pe_dget (hu_of hr) (pv 2) pe_str (fun _ _ => rfl)))) pe_int) pa_nil)))
      (pss_cons (ps_set (i := 3) sc__law_holds.nd rfl (.inl rfl) (pe_op op_cat (pv 3) (pe_lst (pa_cons (pe_op op_sub (pe_dget (hu_of hr) (pv 2) pe_str (fun _ _ => rfl)) (pe_op op_mulX (pe_op op_mulX (pe_op op_add (pe_dget (hu_of hr) (pv 2) pe_str (fun _ _ => rfl)) pe_int) (pe_dget (hu_of hr) (pv 2) pe_str (fun _ _ => rfl))) (pe_dget (hu_of hr) (pv 2) pe_str (fun _ _ => rfl)))) (pa_cons (pe_op op_sub (pe_op op_sub (pe_dget (hu_of hr) (pv 2) pe_str (fun _ _ => rfl)) pe_int) (pe_op op_mulX (pe_op op_mulX pe_int (pe_dget (hu_of hr) (pv 2) pe_str (fun _ _ => rfl))) (pe_dget (hu_of hr) (pv 2) pe_str (fun _ _ => rfl)))) (pa_cons (pe_op op_sub (pe_op op_sub (pe_dget (hu_of hr) (pv 2) pe_str (fun _ _ => rfl)) (pv 1)) (pe_op op_mulX (pe_dget (hu_of hr) (pv 2) pe_str (fun _ _ => rfl)) (pe_dget (hu_of hr) (pv 2) pe_str (fun _ _ => rfl)))) pa_nil))))))
      (pss_cons (ps_set (i := 3) sc__law_holds.nd rfl (.inl rfl) (pe_op op_cat (pv 3) (pe_lst (pa_cons (pe_op op_sub (pe_op op_sub (pe_dget (hu_of hr) (pv 2) pe_str (fun _ _ => rfl)) (pe_dget (hu_of hr) (pv 2) pe_str (fun _ _ => rfl))) (pe_op op_mulX (pe_dget (hu_of hr) (pv 2) pe_str (fun _ _ => rfl)) (pe_dget (hu_of hr) (pv 2) pe_str (fun _ _ => rfl)))) (pa_cons (pe_op op_sub (pe_op op_sub (pe_dget (hu_of hr) (pv 2) pe_str (fun _ _ => rfl)) (pv 0)) (pe_op op_mulX (pe_op op_mulX pe_int (pe_dget (hu_of hr) (pv 2) pe_str (fun _ _ => rfl))) (pe_dget (hu_of hr) (pv 2) pe_str (fun _ _ => rfl)))) (pa_cons (pe_op op_sub (pe_op op_sub (pe_dget (hu_of hr) (pv 2) pe_str (fun _ _ => rfl)) (pv 0)) (pe_dget (hu_of hr) (pv 2) pe_str (fun _ _ => rfl))) pa_nil))))))
      (pss_one (ps_ret (pe_cmpR (op_eqD hr.units) (pv 3) (pe_op op_rep (pe_lst (pa_cons pe_int pa_nil)) pe_int) (nomark _)))))))), ?_⟩
    rw [st__law_holds]
    have get : ∀ {H1 : Hp} {n : Str} {w : Int} (i : Nat), H1 D = some (.dK (kzOf nms [x, y, u, v, s, t, b, r, p, q, c, d, e])) → nms[i]? = some n → [x, y, u, v, s, t, b, r, p, q, c, d, e][i]? = some w → DGet H1 D (kV (.inr n)) (some (.int w)) := fun i h g l => kz_get i h g l
    have sx : Sm 100000 x := hv _ (by simp)
    have sy : Sm 100000 y := hv _ (by simp)
    have su : Sm 100000 u := hv _ (by simp)
    have sv : Sm 100000 v := hv _ (by simp)
    have ss : Sm 100000 s := hv _ (by simp)
    have st : Sm 100000 t := hv _ (by simp)
    have sb : Sm 100000 b := hv _ (by simp)
    have sr : Sm 100000 r := hv _ (by simp)
    have sp : Sm 100000 p := hv _ (by simp)
    have sq_ : Sm 100000 q := hv _ (by simp)
    have sc : Sm 100000 c := hv _ (by simp)
    have sd : Sm 100000 d := hv _ (by simp)
    have se : Sm 100000 e := hv _ (by simp)
    have saa : Sm 200 (a * a - 1) := ((sa.mul sa).sub (Sm.lit (k := 160))).mono (by decide)
    have sbb : Sm 200001 (b * b - 1) := ((sb.mul sb).sub (Sm.lit (k := 200000) (h := Nat.lt_of_lt_of_le (show 1 < 2 ^ 1 by decide) (Nat.pow_le_pow_right (by decide) (by decide)))))
    have sr1 : Sm 100001 (r + 1) := sr.add (Sm.lit (k := 100000) (h := Nat.lt_of_lt_of_le (show 1 < 2 ^ 1 by decide) (Nat.pow_le_pow_right (by decide) (by decide))))
    refine ⟨_, rfl, D, .int x, rfl, get 0 hD rfl rfl, _, rfl, D, .int x, rfl, get 0 hD rfl rfl, _, _, rfl, rfl, Sm.mx sx sx (by decide), _, rfl, _, rfl, _, _, rfl, rfl, Sm.mx sa sa (by decide), _, _, rfl, rfl, _, rfl, D, .int y, rfl, get 1 hD rfl rfl, _, _, rfl, rfl, Sm.mx saa sy (by decide), _, rfl, D, .int y, rfl, get 1 hD rfl rfl, _, _, rfl, rfl, Sm.mx (Sm.mul saa sy) sy (by decide), _, _, rfl, rfl, _, _, rfl, rfl, ?_⟩
    refine ⟨_, rfl, D, .int u, rfl, get 2 hD rfl rfl, _, rfl, D, .int u, rfl, get 2 hD rfl rfl, _, _, rfl, rfl, Sm.mx su su (by decide), _, rfl, _, rfl, _, _, rfl, rfl, Sm.mx sa sa (by decide), _, _, rfl, rfl, _, rfl, D, .int v, rfl, get 3 hD rfl rfl, _, _, rfl, rfl, Sm.mx saa sv (by decide), _, rfl, D, .int v, rfl, get 3 hD rfl rfl, _, _, rfl, rfl, Sm.mx (Sm.mul saa sv) sv (by decide), _, _, rfl, rfl, _, _, rfl, rfl, ?_⟩
    refine ⟨Nat.le_of_ble_eq_true rfl, fun L nL => ?_⟩
    have d1 := same_upd (o := .lst [.int (x * x - (a * a - 1) * y * y - 1), .int (u * u - (a * a - 1) * v * v - 1)]) nL _ _ hD
    have l1 : (upd H L (.lst [.int (x * x - (a * a - 1) * y * y - 1), .int (u * u - (a * a - 1) * v * v - 1)])) L = some (.lst [.int (x * x - (a * a - 1) * y * y - 1), .int (u * u - (a * a - 1) * v * v - 1)]) := upd_same
    have s1 : Same H (upd H L (.lst [.int (x * x - (a * a - 1) * y * y - 1), .int (u * u - (a * a - 1) * v * v - 1)])) := same_upd nL
    obtain ⟨z1, ez1⟩ : ∃ z1, z1 = x * x - (a * a - 1) * y * y - 1 := ⟨_, rfl⟩
    obtain ⟨z2, ez2⟩ : ∃ z2, z2 = u * u - (a * a - 1) * v * v - 1 := ⟨_, rfl⟩
    rw [← ez1, ← ez2] at d1 l1 s1
    show gName 3 (V.ref L) _ (upd H L (.lst [.int (x * x - (a * a - 1) * y * y - 1), .int (u * u - (a * a - 1) * v * v - 1)])) _
    rw [← ez1, ← ez2]
    have nLH : H L = none := nL
    generalize upd H L (.lst [.int z1, .int z2]) = H1 at d1 l1 s1 ⊢
    refine ⟨_, rfl, .inl ⟨rfl, _, .inl (.inl l1)⟩, ?_⟩
    refine ⟨_, rfl, D, .int s, rfl, get 4 d1 rfl rfl, _, rfl, D, .int s, rfl, get 4 d1 rfl rfl, _, _, rfl, rfl, Sm.mx ss ss (by decide), _, rfl, D, .int b, rfl, get 6 d1 rfl rfl, _, rfl, D, .int b, rfl, get 6 d1 rfl rfl, _, _, rfl, rfl, Sm.mx sb sb (by decide), _, _, rfl, rfl, _, rfl, D, .int t, rfl, get 5 d1 rfl rfl, _, _, rfl, rfl, Sm.mx sbb st (by decide), _, rfl, D, .int t, rfl, get 5 d1 rfl rfl, _, _, rfl, rfl, Sm.mx (Sm.mul sbb st) st (by decide), _, _, rfl, rfl, _, _, rfl, rfl, ?_⟩
    have hDL : D ≠ L := ne_of_none hD nLH
    refine ⟨L, _, _, rfl, rfl, l1, sz_lt (Nat.le_of_ble_eq_true rfl), ?_⟩
    have d2 : (upd H1 L (.lst ([.int z1, .int z2] ++ [.int (s * s - (b * b - 1) * t * t - 1)]))) D = some (.dK (kzOf nms [x, y, u, v, s, t, b, r, p, q, c, d, e])) := by rw [upd_ne hDL]; exact d1
    have l2 : (upd H1 L (.lst ([.int z1, .int z2] ++ [.int (s * s - (b * b - 1) * t * t - 1)]))) L = some (.lst ([.int z1, .int z2] ++ [.int (s * s - (b * b - 1) * t * t - 1)])) := upd_same
    have s2 : Same H (upd H1 L (.lst ([.int z1, .int z2] ++ [.int (s * s - (b * b - 1) * t * t - 1)]))) := Same.new s1 nLH
    obtain ⟨z3, ez3⟩ : ∃ z3, z3 = s * s - (b * b - 1) * t * t - 1 := ⟨_, rfl⟩
    dsimp only
    rw [← ez3] at d2 l2 s2 ⊢
    generalize upd H1 L (.lst ([.int z1, .int z2] ++ [.int z3])) = H2 at d2 l2 s2 ⊢
    refine ⟨_, rfl, _, rfl, D, .int v, rfl, get 3 d2 rfl rfl, _, rfl, D, .int r, rfl, get 7 d2 rfl rfl, _, _, rfl, rfl, _, rfl, D, .int y, rfl, get 1 d2 rfl rfl, _, _, rfl, rfl, Sm.mx sr1 sy (by decide), _, rfl, D, .int y, rfl, get 1 d2 rfl rfl, _, _, rfl, rfl, Sm.mx (Sm.mul sr1 sy) sy (by decide), _, _, rfl, rfl, ?_⟩
    refine ⟨_, rfl, D, .int b, rfl, get 6 d2 rfl rfl, _, _, rfl, rfl, _, rfl, D, .int p, rfl, get 8 d2 rfl rfl, _, _, rfl, rfl, Sm.mx (Sm.lit (k := 64)) sp (by decide), _, rfl, D, .int y, rfl, get 1 d2 rfl rfl, _, _, rfl, rfl, Sm.mx (Sm.mul (Sm.lit (k := 64)) sp) sy (by decide), _, _, rfl, rfl, ?_⟩
    refine ⟨_, rfl, D, .int b, rfl, get 6 d2 rfl rfl, _, rfl, _, _, rfl, rfl, _, rfl, D, .int q, rfl, get 9 d2 rfl rfl, _, rfl, D, .int u, rfl, get 2 d2 rfl rfl, _, _, rfl, rfl, Sm.mx sq_ su (by decide), _, _, rfl, rfl, ?_⟩
    refine ⟨Nat.le_of_ble_eq_true rfl, fun p2 np2 => ?_⟩
    have dp2 := same_upd (o := .lst [.int (v - (r + 1) * y * y), .int (b - 1 - 4 * p * y), .int (b - a - q * u)]) np2 _ _ d2
    have lp2 := same_upd (o := .lst [.int (v - (r + 1) * y * y), .int (b - 1 - 4 * p * y), .int (b - a - q * u)]) np2 _ _ l2
    have pp2 : (upd H2 p2 (.lst [.int (v - (r + 1) * y * y), .int (b - 1 - 4 * p * y), .int (b - a - q * u)])) p2 = some (.lst [.int (v - (r + 1) * y * y), .int (b - 1 - 4 * p * y), .int (b - a - q * u)]) := upd_same
    have sp2 : Same H (upd H2 p2 (.lst [.int (v - (r + 1) * y * y), .int (b - 1 - 4 * p * y), .int (b - a - q * u)])) := s2.trans (same_upd np2)
    show rCat (V.ref L) (V.ref p2) (upd H2 p2 (.lst [.int (v - (r + 1) * y * y), .int (b - 1 - 4 * p * y), .int (b - a - q * u)])) _
    obtain ⟨z4, ez4⟩ : ∃ z4, z4 = v - (r + 1) * y * y := ⟨_, rfl⟩
    obtain ⟨z5, ez5⟩ : ∃ z5, z5 = b - 1 - 4 * p * y := ⟨_, rfl⟩
    obtain ⟨z6, ez6⟩ : ∃ z6, z6 = b - a - q * u := ⟨_, rfl⟩
    rw [← ez4, ← ez5, ← ez6] at dp2 lp2 pp2 sp2 ⊢
    generalize upd H2 p2 (.lst [.int z4, .int z5, .int z6]) = G2 at dp2 lp2 pp2 sp2 ⊢
    refine ⟨L, p2, _, _, rfl, rfl, lp2, pp2, Nat.le_of_ble_eq_true rfl, fun L3 nL3 => ?_⟩
    have d3 := same_upd (o := .lst ([.int z1, .int z2] ++ [.int z3] ++ [.int z4, .int z5, .int z6])) nL3 _ _ dp2
    have l3 : (upd G2 L3 (.lst ([.int z1, .int z2] ++ [.int z3] ++ [.int z4, .int z5, .int z6]))) L3 = some (.lst [.int z1, .int z2, .int z3, .int z4, .int z5, .int z6]) := upd_same
    have s3 : Same H (upd G2 L3 (.lst ([.int z1, .int z2] ++ [.int z3] ++ [.int z4, .int z5, .int z6]))) := sp2.trans (same_upd nL3)
    generalize upd G2 L3 (.lst ([.int z1, .int z2] ++ [.int z3] ++ [.int z4, .int z5, .int z6])) = H3 at d3 l3 s3 ⊢
    refine ⟨_, rfl, _, rfl, D, .int s, rfl, get 4 d3 rfl rfl, _, rfl, D, .int x, rfl, get 0 d3 rfl rfl, _, _, rfl, rfl, _, rfl, D, .int c, rfl, get 10 d3 rfl rfl, _, rfl, D, .int u, rfl, get 2 d3 rfl rfl, _, _, rfl, rfl, Sm.mx sc su (by decide), _, _, rfl, rfl, ?_⟩
    refine ⟨_, rfl, D, .int t, rfl, get 5 d3 rfl rfl, _, rfl, _, _, rfl, rfl, _, rfl, D, .int d, rfl, get 11 d3 rfl rfl, _, _, rfl, rfl, Sm.mx (Sm.lit (k := 64)) sd (by decide), _, rfl, D, .int y, rfl, get 1 d3 rfl rfl, _, _, rfl, rfl, Sm.mx (Sm.mul (Sm.lit (k := 64)) sd) sy (by decide), _, _, rfl, rfl, ?_⟩
    refine ⟨_, rfl, D, .int y, rfl, get 1 d3 rfl rfl, _, rfl, _, _, rfl, rfl, _, rfl, D, .int e, rfl, get 12 d3 rfl rfl, _, _, rfl, rfl, ?_⟩
    refine ⟨Nat.le_of_ble_eq_true rfl, fun p3 np3 => ?_⟩
    have dp3 := same_upd (o := .lst [.int (s - x - c * u), .int (t - k - 4 * d * y), .int (y - k - e)]) np3 _ _ d3
    have lp3 := same_upd (o := .lst [.int (s - x - c * u), .int (t - k - 4 * d * y), .int (y - k - e)]) np3 _ _ l3
    have pp3 : (upd H3 p3 (.lst [.int (s - x - c * u), .int (t - k - 4 * d * y), .int (y - k - e)])) p3 = some (.lst [.int (s - x - c * u), .int (t - k - 4 * d * y), .int (y - k - e)]) := upd_same
    have sp3 : Same H (upd H3 p3 (.lst [.int (s - x - c * u), .int (t - k - 4 * d * y), .int (y - k - e)])) := s3.trans (same_upd np3)
    show rCat (V.ref L3) (V.ref p3) (upd H3 p3 (.lst [.int (s - x - c * u), .int (t - k - 4 * d * y), .int (y - k - e)])) _
    obtain ⟨z7, ez7⟩ : ∃ z7, z7 = s - x - c * u := ⟨_, rfl⟩
    obtain ⟨z8, ez8⟩ : ∃ z8, z8 = t - k - 4 * d * y := ⟨_, rfl⟩
    obtain ⟨z9, ez9⟩ : ∃ z9, z9 = y - k - e := ⟨_, rfl⟩
    rw [← ez7, ← ez8, ← ez9] at dp3 lp3 pp3 sp3 ⊢
    generalize upd H3 p3 (.lst [.int z7, .int z8, .int z9]) = G3 at dp3 lp3 pp3 sp3 ⊢
    refine ⟨L3, p3, _, _, rfl, rfl, lp3, pp3, Nat.le_of_ble_eq_true rfl, fun L4 nL4 => ?_⟩
    have d4 := same_upd (o := .lst ([.int z1, .int z2, .int z3, .int z4, .int z5, .int z6] ++ [.int z7, .int z8, .int z9])) nL4 _ _ dp3
    have l4 : (upd G3 L4 (.lst ([.int z1, .int z2, .int z3, .int z4, .int z5, .int z6] ++ [.int z7, .int z8, .int z9]))) L4 = some (.lst [.int z1, .int z2, .int z3, .int z4, .int z5, .int z6, .int z7, .int z8, .int z9]) := upd_same
    have s4 : Same H (upd G3 L4 (.lst ([.int z1, .int z2, .int z3, .int z4, .int z5, .int z6] ++ [.int z7, .int z8, .int z9]))) := sp3.trans (same_upd nL4)
    generalize upd G3 L4 (.lst ([.int z1, .int z2, .int z3, .int z4, .int z5, .int z6] ++ [.int z7, .int z8, .int z9])) = H4 at d4 l4 s4 ⊢
    dsimp only [List.set]
    refine ⟨_, rfl, Nat.le_of_ble_eq_true rfl, fun p5 np5 => ?_⟩
    refine ⟨p5, 9, _, rfl, rfl, upd_same, by decide, by decide, Nat.le_of_ble_eq_true rfl, fun p6 np6 => ?_⟩
    have l6 := same_upd (o := .lst (List.replicate (9 : Int).toNat [V.int 0]).flatten) np6 _ _ (same_upd (o := .lst [V.int 0]) np5 _ _ l4)
    have s6 := s4.trans ((same_upd (o := .lst [V.int 0]) np5).trans (same_upd (o := .lst (List.replicate (9 : Int).toNat [V.int 0]).flatten) np6))
    have d6 : SqL K (upd (upd H4 p5 (.lst [V.int 0])) p6 (.lst (List.replicate (9 : Int).toNat [V.int 0]).flatten)) p6 [.int 0, .int 0, .int 0, .int 0, .int 0, .int 0, .int 0, .int 0, .int 0] := .inl (.inl upd_same)
    refine ⟨_, _, .lst (.inl (.inl l6)) (nine_dp ..), .lst d6 (nine_dp ..), nine_shaped .., nine_shaped .., ?_⟩
    rw [nine_eqv]
    have qz := qq _ s6
    unfold eqV at qz
    have w1 : x * x - (a * a - 1) * (y * y) - 1 = z1 := by rw [ez1, Int.mul_assoc (a * a - 1)]
    have w2 : u * u - (a * a - 1) * (v * v) - 1 = z2 := by rw [ez2, Int.mul_assoc (a * a - 1)]
    have w3 : s * s - (b * b - 1) * (t * t) - 1 = z3 := by rw [ez3, Int.mul_assoc (b * b - 1)]
    have w4 : v - (r + 1) * (y * y) = z4 := by rw [ez4, Int.mul_assoc (r + 1)]
    have w5 : b - (1 + p * (y * 4)) = z5 := by rw [ez5, show p * (y * 4) = 4 * p * y by rw [Int.mul_comm 4 p, Int.mul_assoc, Int.mul_comm 4 y]]; omega
    have w6 : b - (a + q * u) = z6 := by rw [ez6]; omega
    have w7 : s - (x + c * u) = z7 := by rw [ez7]; omega
    have w8 : t - (k + d * (y * 4)) = z8 := by rw [ez8, show d * (y * 4) = 4 * d * y by rw [Int.mul_comm 4 d, Int.mul_assoc, Int.mul_comm 4 y]]; omega
    have w9 : y - (k + e) = z9 := by rw [ez9]; omega
    rw [w1, w2, w3, w4, w5, w6, w7, w8, w9] at qz
    exact qz

def okV (w : V) : Prop := FlatK w ∧ ∀ i, w = .int i → Sm 100000 i
theorem sm0 (k : Nat) : Sm k 0 := by
  unfold Sm
  exact Nat.pow_pos (by decide)
theorem flat_of {ks : List (L2.Key × V)} (h : ∀ n ∈ nms, ∀ w, valV ks (.inr n) = some w → okV w) : ∀ n ∈ nms, ∀ w, valV ks (.inr n) = some w → FlatK w ∧ Sm 100000 (fOf ks n) := by
  intro n hn w hw
  obtain ⟨h1, h2⟩ := h n hn w hw
  refine ⟨h1, ?_⟩
  unfold fOf
  rw [hw]
  rcases h1 with ⟨i, rfl⟩ | ⟨b, rfl⟩ | rfl | ⟨x, rfl⟩
  · exact h2 i rfl
  · exact sm0 _
  · exact sm0 _
  · exact sm0 _
theorem isW_len {k a : Int} {ks : List (L2.Key × V)} (h : ks.length ≠ 13) : isW k a ks = false := by
  unfold isW
  rw [decide_eq_false h]
  simp
theorem isW_nat {k a : Int} {ks : List (L2.Key × V)} {n : Str} (hn : n ∈ nms) (h : isNat ((valV ks (.inr n)).getD .non) = false) : isW k a ks = false := by
  unfold isW
  have : (nms.all fun n => isNat ((valV ks (.inr n)).getD .non)) = false := by
    rw [List.all_eq_false]
    exact ⟨n, hn, by rw [h]; decide⟩
  rw [this]
  simp
theorem kz_okV {vs : List Int} (hl : vs.length = 13) (hv : ∀ v ∈ vs, Sm 100000 v) : ∀ n ∈ nms, ∀ w, valV (kzOf nms vs) (.inr n) = some w → okV w := by
  intro n hn w hw
  obtain ⟨i, hi⟩ := List.mem_iff_getElem?.mp hn
  have lt : i < 13 := (List.getElem?_eq_some_iff.mp hi).1
  have g : vs[i]? = some (vs[i]'(by omega)) := List.getElem?_eq_getElem _
  rw [valV_zip nms_nd hi g] at hw
  cases hw
  exact ⟨.inl ⟨_, rfl⟩, fun j ej => by injection ej with ej; rw [← ej]; exact hv _ (List.getElem_mem _)⟩
theorem isW_eqL {k a : Int} {vs : List Int} (hl : vs.length = 13) (k1 : 1 ≤ k) (a2 : 2 ≤ a) (h0 : ∀ v ∈ vs, 0 ≤ v) : isW k a (kzOf nms vs) = eqL k a vs := by
  obtain ⟨x, y, u, v, s, t, b, r, p, q, c, d, e, rfl⟩ := len13 hl
  rw [isW_kz]
  have z : ∀ w ∈ [x, y, u, v, s, t, b, r, p, q, c, d, e], decide (0 ≤ w) = true := fun w hw => decide_eq_true (h0 w hw)
  rw [decide_eq_true k1, decide_eq_true a2, z x (by simp), z y (by simp), z u (by simp), z v (by simp), z s (by simp), z t (by simp), z b (by simp), z r (by simp), z p (by simp), z q (by simp), z c (by simp), z d (by simp), z e (by simp)]
  rfl
theorem kz_self {vs : List Int} : ∀ p ∈ kzOf nms vs, valV (kzOf nms vs) p.1 = some p.2 ∧ flatB p.2 = true := by
  intro p hp
  obtain ⟨i, hi⟩ := List.mem_iff_getElem?.mp hp
  unfold kzOf at hi
  rw [List.getElem?_zipWith] at hi
  cases e : nms[i]? with
  | none => rw [e] at hi; simp at hi
  | some n =>
    cases e2 : vs[i]? with
    | none => rw [e, e2] at hi; simp at hi
    | some v =>
      rw [e, e2] at hi
      simp at hi
      subst hi
      exact ⟨valV_zip nms_nd e e2, rfl⟩
def sp_law (K : PySem.W.Frag) : Sp := fun vs H Q _ => ∃ (a : Addr) (ns : List Int), vs = [.ref a] ∧ SqL K H a (ns.map V.int) ∧ ns.length ≤ 63 ∧ ∀ H', Q (.bl true) H'
theorem ok_law {f : Addr} {fd : FuncData} (F : Fun K "law" "law" s_law f fd) (C__law_due : Cal P w K mg base "_law_due" 2 ["k", "a"] (sp__law_due K)) (C_witnesses : Cal P w K mg base "witnesses" 4 ["k", "a"] (sp_witnesses K)) (C_is_witness : Cal P w K mg base "is_witness" 9 ["k", "a", "values"] (sp_is_witness K)) (C_digits_needed : Cal P w K mg base "digits_needed" 4 ["k", "a"] (sp_digits_needed K)) (C__law_is_integer : Cal P w K mg base "_law_is_integer" 1 ["actual"] (sp__law_is_integer K)) (C__law_has_figures : Cal P w K mg base "_law_has_figures" 1 ["number", "count"] (sp__law_has_figures K)) (C__law_cell : Cal P w K mg base "_law_cell" 1 ["script", "k"] (sp__law_cell K)) (C__law_holds : Cal P w K mg base "_law_holds" 1 ["k", "a", "n"] (sp__law_holds K)) (C__law_pairs : Cal P w K mg base "_law_pairs" 1 ["a", "count"] (sp__law_pairs K)) (m_sorted : mg "sorted" = none) (m_dict : mg "dict" = none) (m_max : mg "max" = none) (m_int : mg "int" = none) (m_isinstance : mg "isinstance" = none) (m_all : mg "all" = none) (m_bool : mg "bool" = none) : FnOk P w K mg base CX0 10 f fd ["script"] (sp_law K) := by
  refine F.ok sc_law (fun vs H Q E h => ?_) (fun cdv A outer s H vs Q E hr h => ?_)
  · obtain ⟨a, ns, rfl, _⟩ := h
    rfl
  · obtain ⟨sa_, ns, rfl, hS, hlen, q⟩ := h
    refine ⟨_, (pss_cons (ps_set (i := 1) sc_law.nd rfl (.inl rfl) (pe_op op_mod (pe_callTy call_intI (by rfl) m_int (by decide +kernel) (pa_cons (pe_cal C__law_cell (hr.mono (by decide)) (by rfl) (pa_cons (pv 0) (pa_cons pe_int pa_nil))) pa_nil)) pe_int))
      (pss_cons (ps_set (i := 2) sc_law.nd rfl (.inr rfl) (pe_ix ix_list (pe_lst (pa_cons pe_int (pa_cons pe_int (pa_cons pe_int (pa_cons pe_int (pa_cons pe_int (pa_cons pe_int (pa_cons pe_int (pa_cons pe_int pa_nil))))))))) (pe_op op_mod (pv 1) pe_int) (fun _ _ => rfl)))
      (pss_cons (ps_set (i := 3) sc_law.nd rfl (.inr rfl) (pe_op op_add pe_int (pe_op op_mod (pe_op op_fdivW (pv 1) pe_int) (pe_ix ix_list (pe_lst (pa_cons pe_int (pa_cons pe_int (pa_cons pe_int (pa_cons pe_int pa_nil))))) (pe_op op_sub (pv 2) pe_int) (fun _ _ => rfl)))))
      (pss_cons (ps_set (i := 4) sc_law.nd rfl (.inr rfl) (pe_cal C__law_due (hr.mono (by decide)) (by rfl) (pa_cons (pv 2) (pa_cons (pv 3) pa_nil))))
      (pss_cons (ps_set (i := 5) sc_law.nd rfl (.inr rfl) (pe_cal C_witnesses (hr.mono (by decide)) (by rfl) (pa_cons (pv 2) (pa_cons (pv 3) pa_nil))))
      (pss_cons (ps_if (PW.pt (pw_or (pt_not (pt_val (pe_callB call_isi (by rfl) m_isinstance (by decide +kernel) (pa_cons (pv 5) (pa_cons (pe_bltn (v := .ty "dict") rfl m_dict (by decide +kernel) rfl) pa_nil))))) (pw_or (pt_cmpR (op_ne_dictA hr.units0) (pv 5) (pv 4) (nomark _)) (pw_or1 (pt_not (pt_val (pe_callB (cr_all rfl) (by rfl) m_all (by decide +kernel) (pa_cons (pe_lk (pe_lc (own := [("name", 6)]) (g := (gName 6)) (by rfl) sc_law.nd (pi_keys (pv 5)) (blkOk_by (own := [("name", 6)]) (N := ["script", "number", "k", "a", "due", "found", "name", "names", "other", "told", "bad", "more", "spoilt", "swapped", "greatest", "one"]) (sc := defScope s_law) (by decide +kernel)) (fun _ _ _ _ _ => (pg_name (i := 6) sc_law.nd rfl (Or.inl rfl))) (fun _ _ _ _ _ => pts_nil) (fun _ _ _ _ _ => (pe_cal C__law_is_integer (hr.mono (by decide)) (by rfl) (pa_cons (pe_dget (hu_of hr) (pv 5) (pv 6) (fun _ _ => rfl)) pa_nil))))) pa_nil)))))))) (pss_one (ps_ret pe_bl)) pss_nil)
      (pss_cons (ps_if (PW.pt (pw_or (pt_cmpR op_notBl (pe_cal C_is_witness hr (by rfl) (pa_cons (pv 2) (pa_cons (pv 3) (pa_cons (pv 5) pa_nil)))) pe_bl (nomark _)) (pw_or1 (pt_cmpR op_ne (pe_dget (hu_of hr) (pv 5) pe_str (fun _ _ => rfl)) (pe_ix ix_tup (pe_ix ix_list (pe_cal C__law_pairs (hr.mono (by decide)) (by rfl) (pa_cons (pv 3) (pa_cons pe_int pa_nil))) (pv 2) (fun _ _ => rfl)) pe_int (fun _ _ => rfl)) (nomark _))))) (pss_one (ps_ret pe_bl)) pss_nil)
      (pss_cons (ps_set (i := 7) sc_law.nd rfl (.inl rfl) (pe_callB (call_sortedD rfl) (by rfl) m_sorted (by decide +kernel) (pa_cons (pv 4) pa_nil)))
      (pss_cons (ps_set (i := 6) sc_law.nd rfl (.inl rfl) (pe_ix ix_list (pv 7) (pe_op op_mod (pe_op op_fdivW (pv 1) pe_int) pe_int) (fun _ _ => rfl)))
      (pss_cons (ps_set (i := 8) sc_law.nd rfl (.inl rfl) (pe_callTy call_dictK (by rfl) m_dict (by decide +kernel) (pa_cons (pv 4) pa_nil)))
      (pss_cons (ps_dput (hu_of hr) (pv 8) (pv 6) (pe_callB (call_max2 rfl) (by rfl) m_max (by decide +kernel) (pa_cons pe_int (pa_cons (pe_op op_sub (pe_op op_add (pe_dget (hu_of hr) (pv 8) (pv 6) (fun _ _ => rfl)) (pe_op op_mod (pe_op op_fdivW (pv 1) pe_int) pe_int)) pe_int) pa_nil))) (by rfl))
      (pss_cons (ps_set (i := 9) sc_law.nd rfl (.inl rfl) (pe_cal C_is_witness hr (by rfl) (pa_cons (pv 2) (pa_cons (pv 3) (pa_cons (pv 8) pa_nil)))))
      (pss_cons (ps_if (PW.pt (pw_or (pt_not (pt_val (pe_callB call_isi (by rfl) m_isinstance (by decide +kernel) (pa_cons (pv 9) (pa_cons (pe_bltn (v := .ty "bool") rfl m_bool (by decide +kernel) rfl) pa_nil))))) (pw_or (pt_cmpR op_ne (pv 9) (pe_cal C__law_holds (hr.mono (by decide)) (by rfl) (pa_cons (pv 2) (pa_cons (pv 3) (pa_cons (pv 8) pa_nil)))) (nomark _)) (pw_or1 (pt_cmpR op_notBl (pe_cal C_is_witness hr (by rfl) (pa_cons (pe_op op_add (pv 2) pe_int) (pa_cons (pv 3) (pa_cons (pv 4) pa_nil)))) pe_bl (nomark _)))))) (pss_one (ps_ret pe_bl)) pss_nil)
      (pss_cons (ps_set (i := 10) sc_law.nd rfl (.inl rfl) (pe_callTy call_dictK (by rfl) m_dict (by decide +kernel) (pa_cons (pv 4) pa_nil)))
      (pss_cons (ps_expr (pe_dpop1 (pv 10) (pv 6) ⟨by rfl, by rfl, by rfl, by rfl⟩))
      (pss_cons (ps_set (i := 11) sc_law.nd rfl (.inl rfl) (pe_callTy call_dictK (by rfl) m_dict (by decide +kernel) (pa_cons (pv 4) pa_nil)))
      (pss_cons (ps_dput (hu_of hr) (pv 11) pe_str pe_int (by rfl))
      (pss_cons (ps_set (i := 12) sc_law.nd rfl (.inl rfl) (pe_callTy call_dictK (by rfl) m_dict (by decide +kernel) (pa_cons (pv 4) pa_nil)))
      (pss_cons (ps_dput (hu_of hr) (pv 12) (pv 6) (pe_ix ix_list (pe_lst (pa_cons (pe_un un_neg pe_int) (pa_cons pe_bl (pa_cons pe_str (pa_cons pe_non pa_nil))))) (pe_op op_mod (pe_op op_fdivW (pv 1) pe_int) pe_int) (fun _ _ => rfl)) (by rfl))
      (pss_cons (ps_set (i := 13) sc_law.nd rfl (.inl rfl) (pe_callTy call_dictK (by rfl) m_dict (by decide +kernel) (pa_cons (pv 10) pa_nil)))
      (pss_cons (ps_dput (hu_of hr) (pv 13) pe_str (pe_dget (hu_of hr) (pv 4) (pv 6) (fun _ _ => rfl)) (by rfl))
      (pss_cons (ps_if (pt_cmpR (op_neD hr.units) (pe_lc (own := [("one", 15)]) (g := (gName 15)) (by rfl) sc_law.nd (pi_list (pe_lst (pa_cons (pv 10) (pa_cons (pv 11) (pa_cons (pv 12) (pa_cons (pv 13) (pa_cons (pe_callB (call_sortedD rfl) (by rfl) m_sorted (by decide +kernel) (pa_cons (pv 4) pa_nil)) pa_nil))))))) (blkOk_by (own := [("one", 15)]) (N := ["script", "number", "k", "a", "due", "found", "name", "names", "other", "told", "bad", "more", "spoilt", "swapped", "greatest", "one"]) (sc := defScope s_law) (by decide +kernel)) (fun _ _ _ _ _ => (pg_name (i := 15) sc_law.nd rfl (Or.inl rfl))) (fun _ _ _ _ _ => pts_nil) (fun _ _ _ _ _ => (pe_cal C_is_witness hr (by rfl) (pa_cons (pv 2) (pa_cons (pv 3) (pa_cons (pv 15) pa_nil)))))) (pe_op op_rep (pe_lst (pa_cons pe_bl pa_nil)) pe_int) (nomark _)) (pss_one (ps_ret pe_bl)) pss_nil)
      (pss_cons (ps_set (i := 14) sc_law.nd rfl (.inl rfl) (pe_callB (cr_max rfl) (by rfl) m_max (by decide +kernel) (pa_cons (pe_lk (pe_lc (own := [("one", 15)]) (g := (gName 15)) (by rfl) sc_law.nd (pi_keys (pv 4)) (blkOk_by (own := [("one", 15)]) (N := ["script", "number", "k", "a", "due", "found", "name", "names", "other", "told", "bad", "more", "spoilt", "swapped", "greatest", "one"]) (sc := defScope s_law) (by decide +kernel)) (fun _ _ _ _ _ => (pg_name (i := 15) sc_law.nd rfl (Or.inl rfl))) (fun _ _ _ _ _ => pts_nil) (fun _ _ _ _ _ => (pe_dget (hu_of hr) (pv 4) (pv 15) (fun _ _ => rfl))))) pa_nil)))
      (pss_cons (ps_set (i := 9) sc_law.nd rfl (.inl rfl) (pe_cal C_digits_needed (hr.mono (by decide)) (by rfl) (pa_cons (pv 2) (pa_cons (pv 3) pa_nil))))
      (pss_one (ps_ret (pe_and (pe_cal C__law_is_integer (hr.mono (by decide)) (by rfl) (pa_cons (pv 9) pa_nil)) (pe_and (pe_cmpR op_lt pe_int (pv 9) (nomark _)) (pe_and (pe_cmpR op_lt (pv 9) pe_int (nomark _)) (pe_one (pe_cal C__law_has_figures (hr.mono (by decide)) (by rfl) (pa_cons (pv 14) (pa_cons (pv 9) pa_nil))))))))))))))))))))))))))))))))), ?_⟩
    rw [st_law]
    walk_at "rd"
    refine ⟨_, _, 0, rfl, hS, ?_⟩
    generalize ns.getD 0 0 = z
    obtain ⟨N, eN⟩ : ∃ N : Nat, z % 90000 = N := ⟨(z % 90000).toNat, by omega⟩
    refine ⟨_, rfl, _, _, rfl, rfl, (by decide : (0 : Int) < 90000), ?_⟩
    dsimp only [List.set]
    rw [eN]
    obtain ⟨k0, ek, hk⟩ : ∃ k0, kof (N % 8) = k0 + 1 ∧ k0 < 4 := by
      have h8 : N % 8 < 8 := Nat.mod_lt _ (by decide)
      have : N % 8 = 0 ∨ N % 8 = 1 ∨ N % 8 = 2 ∨ N % 8 = 3 ∨ N % 8 = 4 ∨ N % 8 = 5 ∨ N % 8 = 6 ∨ N % 8 = 7 := by omega
      rcases this with h | h | h | h | h | h | h | h <;> rw [h] <;> first | exact ⟨0, rfl, by decide⟩ | exact ⟨1, rfl, by decide⟩ | exact ⟨2, rfl, by decide⟩ | exact ⟨3, rfl, by decide⟩
    have hkk : ([.int 1, .int 2, .int 3, .int 1, .int 2, .int 3, .int 1, .int 4] : List V)[N % 8]? = some (.int ((k0 + 1 : Nat) : Int)) := by
      rw [← ek]
      have : N % 8 = 0 ∨ N % 8 = 1 ∨ N % 8 = 2 ∨ N % 8 = 3 ∨ N % 8 = 4 ∨ N % 8 = 5 ∨ N % 8 = 6 ∨ N % 8 = 7 := by omega
      rcases this with h | h | h | h | h | h | h | h <;> rw [h] <;> rfl
    clear ek
    refine ⟨Nat.le_of_ble_eq_true rfl, fun L nL => ?_⟩
    refine ⟨_, rfl, _, _, rfl, rfl, (by decide : (0 : Int) < 8), L, _, (N : Int) % 8, .int ((k0 + 1 : Nat) : Int), rfl, rfl, .inl (.inl upd_same), ?_, ?_⟩
    · rw [show (N : Int) % 8 = ((N % 8 : Nat) : Int) by omega]
      exact atI_nat hkk
    have s0 := same_upd (o := .lst [.int 1, .int 2, .int 3, .int 1, .int 2, .int 3, .int 1, .int 4]) nL
    generalize upd H L (.lst [.int 1, .int 2, .int 3, .int 1, .int 2, .int 3, .int 1, .int 4]) = H1 at s0 ⊢
    obtain ⟨m, em⟩ : ∃ m : Nat, m = N / 8 % basesK (k0 + 1) := ⟨_, rfl⟩
    have hm : m < basesK (k0 + 1) := by
      rw [em]
      exact Nat.mod_lt _ (basesK_pos hk)
    have hmk : ([.int 8, .int 8, .int 4, .int 2] : List V)[k0]? = some (.int ((basesK (k0 + 1) : Nat) : Int)) := by
      have : k0 = 0 ∨ k0 = 1 ∨ k0 = 2 ∨ k0 = 3 := by omega
      rcases this with rfl | rfl | rfl | rfl <;> rfl
    have hmpos : (0 : Int) < ((basesK (k0 + 1) : Nat) : Int) := by
      have := basesK_pos hk
      omega
    dsimp only [List.set]
    refine ⟨_, rfl, _, _, rfl, rfl, ⟨by decide, by decide⟩, Nat.le_of_ble_eq_true rfl, fun L nL => ?_⟩
    have s1 := s0.trans (same_upd (o := .lst [.int 8, .int 8, .int 4, .int 2]) nL)
    refine ⟨_, rfl, _, _, rfl, rfl, L, _, ((k0 : Nat) : Int), .int ((basesK (k0 + 1) : Nat) : Int), rfl, ?_, .inl (.inl upd_same), atI_nat hmk, ?_⟩
    · show V.int (((k0 + 1 : Nat) : Int) - 1) = _
      congr 1
      omega
    refine ⟨_, _, rfl, rfl, hmpos, _, _, rfl, rfl, ?_⟩
    dsimp only [List.set]
    rw [show (2 : Int) + (N : Int) / 8 % ((basesK (k0 + 1) : Nat) : Int) = (m : Int) + 2 by rw [em]; push_cast; omega]
    generalize upd H1 L (.lst [.int 8, .int 8, .int 4, .int 2]) = H2 at s1 ⊢
    obtain ⟨C1, C2⟩ := chk41_at hk hm
    have F1 := chk41_of C1
    obtain ⟨V1, V2, f1, f2, f3, f4, f5⟩ := chk41b_of C2
    have a2 : (2 : Int) ≤ (m : Int) + 2 := by omega
    have m8 : m < 8 := Nat.lt_of_lt_of_le hm (basesK_le hk)
    have a10 : (m : Int) + 2 < 10 := by omega
    have k1 : 1 ≤ k0 + 1 := by omega
    have k4 : k0 + 1 ≤ 4 := by omega
    have f7 := px7_at m8
    clear hmpos hmk em hkk
    generalize (m : Int) + 2 = av at *
    generalize k0 + 1 = k at *
    refine ⟨_, rfl, _, rfl, k, av, rfl, k1, k4, a2, by omega, C1, fun H3 D s2 nD hD => ?_⟩
    obtain ⟨fx, fu, fb, fs, fb2, fn, fy4, fy1000, _, _⟩ := F1
    have sa : Sm 64 av := Sm.le (y := 100) (Sm.lit (k := 64)) (by omega) (by omega)
    have sk : Sm 64 (k : Int) := Sm.le (y := 100) (Sm.lit (k := 64)) (by omega) (by omega)
    have sk1 : Sm 64 ((k : Int) + 1) := Sm.le (y := 100) (Sm.lit (k := 64)) (by omega) (by omega)
    have fit : Fit 90000 k av := ⟨k1, a2, sa.mono (by decide), sk.mono (by decide), (fx.le (by have := pxy_pos a2 k; omega) (px_mono a2 (by omega))).mono (by decide), fu.mono (by decide), fb.mono (by decide), fs.le (by have := pxy_pos fb2 k; omega) (px_mono fb2 (by omega)), fb2, by decide, Nat.lt_of_lt_of_le fn (Nat.pow_le_pow_right (by decide) (by decide)), Nat.lt_of_lt_of_le (show k < 2 ^ 3 by omega) (Nat.pow_le_pow_right (by decide) (by decide))⟩
    dsimp only [List.set]
    refine ⟨_, rfl, _, rfl, k, av, 90000, rfl, fit, fy4, fu, fun H4 W s3 nW hW => ?_⟩
    have hD4 := s3 _ _ hD
    have hvl : (vsW k av).length = 13 := rfl
    have hvs : ∀ v ∈ vsW k av, Sm 100000 v := fun v hv => (V1 v hv).1.mono (by decide)
    have hw0 : isW k av (kzOf nms (vsW k av)) = true := by
      rw [isW_eqL hvl (by omega) a2 fun v hv => (V1 v hv).2.1]
      exact V2
    have same0 : ∀ {H : Hp}, Same H H := fun _ _ z => z
    have hvy : (vsW k av)[1]? = some (py av k) := rfl
    have hve : ∃ z, (vsW k av)[12]? = some z ∧ z = py av k - k := ⟨_, rfl, rfl⟩
    have hvg : ∃ z ∈ vsW k av, z = grt k av := by
      unfold grt
      rw [Int.max_def]
      split
      · exact ⟨_, List.mem_of_getElem? (i := 4) rfl, rfl⟩
      · exact ⟨_, List.mem_of_getElem? (i := 2) rfl, rfl⟩
    generalize hvw : vsW k av = vs at *
    dsimp only [List.set]
    walk_at "wk"
    refine ⟨.ref W, .ty "dict", .type "dict", .type "dict", true, rfl, .ty _, .base (.dK hW), kit_ty (by decide +kernel), ?_⟩
    walk_at "wk"
    refine ⟨W, D, _, _, rfl, rfl, hW, hD4, rfl, kz_self, ?_⟩
    walk_at "wk"
    refine kz_lc (vs := vs) (f := fun _ => V.bl true) hvl hW rfl (fun _ => rfl) (fun H5 n v R hg r => ⟨_, rfl, _, rfl, W, .int v, rfl, hg, v, rfl, r⟩) fun H5 X1 s4 nX hX => ?_
    refine ⟨X1, vs.map fun _ => true, rfl, ?_, ?_⟩
    · rw [List.map_map]
      exact .inl (.inl hX)
    rw [show ((vs.map fun _ => true).all id) = true by rw [List.all_map]; exact List.all_eq_true.mpr fun _ _ => rfl]
    have hW5 := s4 _ _ hW
    have hD5 := s4 _ _ hD4
    clear hX nX
    walk_at "wk"
    have isw : ∀ {H1 : Hp} {X : Addr} {kk : Int} {ks : List (L2.Key × V)} {R : VK}, H1 X = some (.dK ks) → Sm 80 kk → (∀ n ∈ nms, ∀ w, valV ks (.inr n) = some w → okV w) → (∀ H', Same H1 H' → R (.bl (isW kk av ks)) H') → sp_is_witness K [.int kk, .int av, .ref X] H1 R L2.E0 :=
      fun h1 h2 h3 r => ⟨_, _, _, rfl, h2, sa.mono (by decide), .inr ⟨_, h1, flat_of h3, r⟩⟩
    refine isw hW5 (sk.mono (by decide)) (kz_okV hvl hvs) fun H6 s5 => ?_
    rw [hw0]
    have hW6 := s5 _ _ hW5
    have hD6 := s5 _ _ hD5
    refine ⟨true, true, rfl, rfl, ⟨_, rfl, ?_⟩⟩
    rw [show (!decide (true = true)) = false from rfl]
    walk_at "wk"
    refine ⟨_, rfl, W, .int (py av k), rfl, kz_get 1 hW6 rfl hvy, ?_⟩
    walk_at "wk"
    refine ⟨av, 6, 64, rfl, a2, sa, f7, by decide, by decide, fun H7 X2 s6 nX hL => ?_⟩
    walk_at "wk"
    refine hL.at (i := k) (by omega) fun p hp => ?_
    walk_at "wk"
    have e7 : ¬ (!decide (V.int (py av k) = V.int (py av k))) = true := by simp
    refine ite2 (fun e => absurd e e7) (fun _ => ?_)
    clear e7
    have hD7 := s6 _ _ hD6
    walk_at "wk"
    refine ⟨D, _, nms, rfl, .inl hD7, kz_keys _ _ hvl.symm, by decide, fun ys P hys hso nP => ?_⟩
    have hD8 := same_upd (o := .lst (ys.map V.str)) nP _ _ hD7
    have hP8 : (upd H7 P (.lst (ys.map V.str))) P = some (.lst (ys.map V.str)) := upd_same
    generalize upd H7 P (.lst (ys.map V.str)) = H8 at hD8 hP8 ⊢
    obtain ⟨i0, ei0⟩ : ∃ i0 : Nat, i0 = N / 64 % 13 := ⟨_, rfl⟩
    have hi0 : i0 < ys.length := by
      rw [hys.length_eq, show nms.length = 13 from rfl]
      omega
    obtain ⟨nm, hnm⟩ : ∃ nm, ys[i0]? = some nm := ⟨_, List.getElem?_eq_getElem hi0⟩
    have hmem : nm ∈ nms := hys.mem_iff.mp (List.mem_of_getElem? hnm)
    obtain ⟨j, hj⟩ := List.mem_iff_getElem?.mp hmem
    have jl : j < 13 := (List.getElem?_eq_some_iff.mp hj).1
    obtain ⟨vj, hvj⟩ : ∃ vj, vs[j]? = some vj := ⟨_, List.getElem?_eq_getElem (by omega)⟩
    walk_at "wk"
    refine ⟨P, _, (N : Int) / 64 % 13, .str nm, rfl, rfl, .inl (.inl hP8), ?_, ?_⟩
    · rw [show (N : Int) / 64 % 13 = (i0 : Int) by omega]
      exact atI_nat (by rw [List.getElem?_map, hnm]; rfl)
    walk_at "wk"
    refine ⟨D, _, rfl, .inl hD8, fun O nO => ?_⟩
    have hD9 := same_upd (o := .dK (kzOf nms vs)) nO _ _ hD8
    have hO9 : (upd H8 O (.dK (kzOf nms vs))) O = some (.dK (kzOf nms vs)) := upd_same
    have hDO : D ≠ O := ne_of_none hD8 nO
    generalize upd H8 O (.dK (kzOf nms vs)) = H9 at hD9 hO9 ⊢
    clear hD8 hP8 nP hys hso hnm hi0 ei0
    walk_at "wk"
    refine ⟨_, rfl, _, rfl, O, .int vj, rfl, kz_get j hO9 hj hvj, ?_⟩
    walk_at "wk"
    obtain ⟨w0, ew0⟩ : ∃ w0, w0 = (if vj + (N : Int) / 832 % 7 - 3 > 0 then vj + (N : Int) / 832 % 7 - 3 else 0) := ⟨_, rfl⟩
    have hvj0 := V1 vj (List.mem_of_getElem? hvj)
    have hw00 : 0 ≤ w0 := by
      rw [ew0]
      split <;> omega
    have hw01 : Sm 100000 w0 := by
      have h1 : Sm 90001 (vj + 6) := hvj0.1.add (Sm.mono (j := 64) (Sm.lit (k := 64)) (by decide))
      refine (h1.le hw00 ?_).mono (by decide)
      rw [ew0]
      split <;> omega
    refine ⟨_, _, rfl, ?_⟩
    rw [← ew0]
    refine ⟨_, rfl, _, rfl, O, _, rfl, kz_put j _ hO9 hj hvj, ?_⟩
    have hD10 : (upd H9 O (.dK (kzOf nms (vs.set j w0)))) D = some (.dK (kzOf nms vs)) := by
      rw [upd_ne hDO]
      exact hD9
    have hO10 : (upd H9 O (.dK (kzOf nms (vs.set j w0)))) O = some (.dK (kzOf nms (vs.set j w0))) := upd_same
    generalize upd H9 O (.dK (kzOf nms (vs.set j w0))) = H10 at hD10 hO10 ⊢
    clear hw0 hD9 hO9 hW6 hW5 hW hD4 hD hD5 hD6 hD7 hL hp s6 s5 s4 s3 s2
    have hv2l : (vs.set j w0).length = 13 := by rw [List.length_set]; exact hvl
    have hv2 : ∀ v ∈ vs.set j w0, Sm 100000 v ∧ 0 ≤ v := by
      intro v hv
      rcases List.mem_or_eq_of_mem_set hv with h | rfl
      · exact ⟨hvs v h, (V1 v h).2.1⟩
      · exact ⟨hw01, hw00⟩
    generalize vs.set j w0 = vs2 at hO10 hv2l hv2
    walk_at "wk"
    refine isw hO10 (sk.mono (by decide)) (kz_okV hv2l fun v hv => (hv2 v hv).1) fun H11 s11 => ?_
    rw [isW_eqL hv2l (by omega) a2 fun v hv => (hv2 v hv).2]
    have hD11 := s11 _ _ hD10
    have hO11 := s11 _ _ hO10
    obtain ⟨x, y, u, v, s, t, b, r, p, q', c, d, e, rfl⟩ := len13 hv2l
    obtain ⟨tv, etv⟩ : ∃ tv, tv = eqV k av x y u v s t b r p q' c d e := ⟨_, rfl⟩
    rw [show eqL k av [x, y, u, v, s, t, b, r, p, q', c, d, e] = eqV k av x y u v s t b r p q' c d e from rfl, ← etv]
    walk_at "wk"
    refine ⟨.bl tv, .ty "bool", .type "bool", .type "bool", true, rfl, .ty _, .base (.bl _), kit_ty (by decide +kernel), ?_⟩
    walk_at "wk"
    refine ⟨_, _, O, x, y, u, v, s, t, b, r, p, q', c, d, e, rfl, hO11, fun z hz => (hv2 z hz).1, sk.mono (by decide), sa.mono (by decide), fun H12 s12 => ?_⟩
    rw [← etv]
    have hD12 := s12 _ _ hD11
    refine ⟨rfl, ?_⟩
    rw [show (!decide (V.bl tv = V.bl tv)) = false by simp]
    walk_at "wk"
    refine isw hD12 (sk1.mono (by decide)) (kz_okV hvl hvs) fun H13 s13 => ?_
    have e13 : isW ((k : Int) + 1) av (kzOf nms vs) = false := by
      obtain ⟨z, z1, rfl⟩ := hve
      rw [isW_eqL hvl (by omega) a2 fun v hv => (V1 v hv).2.1]
      exact eqL_succ hvl hvy z1
    rw [e13]
    have hD13 := s13 _ _ hD12
    refine ⟨false, false, rfl, rfl, ⟨_, rfl, ?_⟩⟩
    rw [show (!decide (false = false)) = false from rfl]
    clear hD12 hO11 hD11 hD10 hO10 s13 s12 s11 e13 etv
    walk_at "wk"
    refine ⟨D, _, rfl, .inl hD13, fun B nB => ?_⟩
    have s14 := same_upd (o := .dK (kzOf nms vs)) nB
    have hB14 : (upd H13 B (.dK (kzOf nms vs))) B = some (.dK (kzOf nms vs)) := upd_same
    generalize upd H13 B (.dK (kzOf nms vs)) = H14 at s14 hB14 ⊢
    have hvn : valV (kzOf nms vs) (.inr nm) = some (.int vj) := valV_zip nms_nd hj hvj
    walk_at "wk"
    refine ⟨_, rfl, B, rfl, .inl ⟨_, .inl hB14⟩, _, rfl, _, .inr nm, _, hB14, rfl, hvn, ?_⟩
    have s15 := Same.new (o := .dK (dropK (kzOf nms vs) (.inr nm))) s14 nB
    have hB15 : (upd H14 B (.dK (dropK (kzOf nms vs) (.inr nm)))) B = some (.dK (dropK (kzOf nms vs) (.inr nm))) := upd_same
    have hD15 := s15 _ _ hD13
    generalize upd H14 B (.dK (dropK (kzOf nms vs) (.inr nm))) = H15 at hD15 hB15 ⊢
    clear s15 s14 hB14
    walk_at "wk"
    refine ⟨D, _, rfl, .inl hD15, fun M nM => ?_⟩
    have s16 := same_upd (o := .dK (kzOf nms vs)) nM
    have hM16 : (upd H15 M (.dK (kzOf nms vs))) M = some (.dK (kzOf nms vs)) := upd_same
    generalize upd H15 M (.dK (kzOf nms vs)) = H16 at s16 hM16 ⊢
    walk_at "wk"
    have hkl : (kzOf nms vs).length = 13 := by
      unfold kzOf
      rw [List.length_zipWith, hvl]
      rfl
    have hzn : (Str.ofString "z") ∉ nms := by decide
    have hvz : valV (kzOf nms vs) (.inr (Str.ofString "z")) = none := valV_none hzn
    refine ⟨_, rfl, M, _, rfl, DPut.k (v := .int 0) (k := .inr (Str.ofString "z")) hM16 (sz_lt (by rw [hkl]; exact Nat.le_of_ble_eq_true rfl)), ?_⟩
    have s17 := Same.new (o := .dK (putK (kzOf nms vs) (.inr (Str.ofString "z")) (.int 0))) s16 nM
    have hM17 : (upd H16 M (.dK (putK (kzOf nms vs) (.inr (Str.ofString "z")) (.int 0)))) M = some (.dK (putK (kzOf nms vs) (.inr (Str.ofString "z")) (.int 0))) := upd_same
    have hD17 := s17 _ _ hD15
    have hB17 := s17 _ _ hB15
    generalize upd H16 M (.dK (putK (kzOf nms vs) (.inr (Str.ofString "z")) (.int 0))) = H17 at hD17 hB17 hM17 ⊢
    clear s17 s16 hM16 hB15 hD15
    walk_at "wk"
    refine ⟨D, _, rfl, .inl hD17, fun S nS => ?_⟩
    have s18 := same_upd (o := .dK (kzOf nms vs)) nS
    have hS18 : (upd H17 S (.dK (kzOf nms vs))) S = some (.dK (kzOf nms vs)) := upd_same
    generalize upd H17 S (.dK (kzOf nms vs)) = H18 at s18 hS18 ⊢
    walk_at "wk"
    refine ⟨1, rfl, Nat.le_of_ble_eq_true rfl, fun L nL => ?_⟩
    obtain ⟨i1, ei1⟩ : ∃ i1 : Nat, i1 = N / 5824 % 4 := ⟨_, rfl⟩
    obtain ⟨wv, hwv, wok, wnn⟩ : ∃ wv, ([.int (-1), .bl true, .str (Str.ofString "1"), .non] : List V)[i1]? = some wv ∧ okV wv ∧ isNat wv = false := by
      have : i1 = 0 ∨ i1 = 1 ∨ i1 = 2 ∨ i1 = 3 := by omega
      rcases this with rfl | rfl | rfl | rfl
      · exact ⟨_, rfl, ⟨.inl ⟨_, rfl⟩, fun i e => by injection e with e; rw [← e]; exact Sm.mono (j := 64) (Sm.lit (k := 64)) (by decide)⟩, rfl⟩
      · exact ⟨_, rfl, ⟨.inr (.inl ⟨_, rfl⟩), fun i e => by cases e⟩, rfl⟩
      · exact ⟨_, rfl, ⟨.inr (.inr (.inr ⟨_, rfl⟩)), fun i e => by cases e⟩, rfl⟩
      · exact ⟨_, rfl, ⟨.inr (.inr (.inl rfl)), fun i e => by cases e⟩, rfl⟩
    refine ⟨_, rfl, _, _, rfl, rfl, ⟨by decide, by decide⟩, _, _, rfl, rfl, (by decide : (0 : Int) < 4), L, _, (N : Int) / 5824 % 4, wv, rfl, rfl, .inl (.inl upd_same), ?_, ?_⟩
    · rw [show (N : Int) / 5824 % 4 = (i1 : Int) by omega]
      exact atI_nat hwv
    have s19 := s18.trans (same_upd (o := .lst [.int (-1), .bl true, .str (Str.ofString "1"), .non]) nL)
    have hS19 := same_upd (o := .lst [.int (-1), .bl true, .str (Str.ofString "1"), .non]) nL _ _ hS18
    have nS17 : H17 S = none := nS
    generalize upd H18 L (.lst [.int (-1), .bl true, .str (Str.ofString "1"), .non]) = H19 at s19 hS19 ⊢
    refine ⟨_, rfl, _, rfl, S, _, rfl, DPut.k (v := wv) (k := .inr nm) hS19 (sz_lt (by rw [hkl]; exact Nat.le_of_ble_eq_true rfl)), ?_⟩
    have s20 := Same.new (o := .dK (putK (kzOf nms vs) (.inr nm) wv)) s19 nS17
    have hS20 : (upd H19 S (.dK (putK (kzOf nms vs) (.inr nm) wv))) S = some (.dK (putK (kzOf nms vs) (.inr nm) wv)) := upd_same
    have hD20 := s20 _ _ hD17
    have hB20 := s20 _ _ hB17
    have hM20 := s20 _ _ hM17
    generalize upd H19 S (.dK (putK (kzOf nms vs) (.inr nm) wv)) = H20 at hD20 hB20 hM20 hS20 ⊢
    clear s20 s19 hS19 s18 hS18 hD17 hB17 hM17
    walk_at "wk"
    refine ⟨B, _, rfl, .inl hB20, fun U nU => ?_⟩
    have s21 := same_upd (o := .dK (dropK (kzOf nms vs) (.inr nm))) nU
    have hU21 : (upd H20 U (.dK (dropK (kzOf nms vs) (.inr nm)))) U = some (.dK (dropK (kzOf nms vs) (.inr nm))) := upd_same
    generalize upd H20 U (.dK (dropK (kzOf nms vs) (.inr nm))) = H21 at s21 hU21 ⊢
    walk_at "wk"
    refine ⟨_, rfl, _, rfl, D, .int vj, rfl, kz_get j (s21 _ _ hD20) hj hvj, ?_⟩
    have hdl : (dropK (kzOf nms vs) (.inr nm)).length = 12 := by
      have hk2 : (kzOf nms vs).map (·.1) = nms.map Sum.inr := kz_keys nms vs hvl.symm
      have h1 := dropK_len (kvs := kzOf nms vs) (k := .inr nm) (by rw [hk2]; decide) (by rw [hk2]; exact List.mem_map.mpr ⟨nm, hmem, rfl⟩)
      omega
    refine ⟨_, rfl, U, _, rfl, DPut.k (v := .int vj) (k := .inr (Str.ofString "z")) hU21 (sz_lt (by rw [hdl]; exact Nat.le_of_ble_eq_true rfl)), ?_⟩
    have s22 := Same.new (o := .dK (putK (dropK (kzOf nms vs) (.inr nm)) (.inr (Str.ofString "z")) (.int vj))) s21 nU
    have hU22 : (upd H21 U (.dK (putK (dropK (kzOf nms vs) (.inr nm)) (.inr (Str.ofString "z")) (.int vj)))) U = some (.dK (putK (dropK (kzOf nms vs) (.inr nm)) (.inr (Str.ofString "z")) (.int vj))) := upd_same
    have hD22 := s22 _ _ hD20
    have hB22 := s22 _ _ hB20
    have hM22 := s22 _ _ hM20
    have hS22 := s22 _ _ hS20
    generalize upd H21 U (.dK (putK (dropK (kzOf nms vs) (.inr nm)) (.inr (Str.ofString "z")) (.int vj))) = H22 at hD22 hB22 hM22 hS22 hU22 ⊢
    clear s22 s21 hU21 hD20 hB20 hM20 hS20
    walk_at "wk"
    refine ⟨D, _, nms, rfl, .inl hD22, kz_keys _ _ hvl.symm, by decide, fun ys2 P2 _ _ nP2 => ?_⟩
    have s23 := same_upd (o := .lst (ys2.map V.str)) nP2
    have hP23 : (upd H22 P2 (.lst (ys2.map V.str))) P2 = some (.lst (ys2.map V.str)) := upd_same
    have hD23 := s23 _ _ hD22
    have hB23 := s23 _ _ hB22
    have hM23 := s23 _ _ hM22
    have hS23 := s23 _ _ hS22
    have hU23 := s23 _ _ hU22
    generalize upd H22 P2 (.lst (ys2.map V.str)) = H23 at hD23 hB23 hM23 hS23 hU23 hP23 ⊢
    clear s23 hD22 hB22 hM22 hS22 hU22
    walk_at "wk"
    intro T nT
    have s24 := same_upd (o := .lst [.ref B, .ref M, .ref S, .ref U, .ref P2]) nT
    have hT24 : (upd H23 T (.lst [.ref B, .ref M, .ref S, .ref U, .ref P2])) T = some (.lst [.ref B, .ref M, .ref S, .ref U, .ref P2]) := upd_same
    have hD24 := s24 _ _ hD23
    have hB24 := s24 _ _ hB23
    have hM24 := s24 _ _ hM23
    have hS24 := s24 _ _ hS23
    have hU24 := s24 _ _ hU23
    have hP24 := s24 _ _ hP23
    generalize upd H23 T (.lst [.ref B, .ref M, .ref S, .ref U, .ref P2]) = H24 at hT24 hD24 hB24 hM24 hS24 hU24 hP24 ⊢
    clear s24 hD23 hB23 hM23 hS23 hU23 hP23
    have okz := kz_okV hvl hvs
    have hne : ∀ n ∈ nms, (Sum.inr n : L2.Key) ≠ Sum.inr (Str.ofString "z") := fun n hn e => hzn (Sum.inr.inj e ▸ hn)
    have one : ∀ (X : Addr), X ∈ [B, M, S, U, P2] → ∀ (H1 : Hp) (R : VK), Same H24 H1 → (∀ H', Same H1 H' → R (.bl false) H') → sp_is_witness K [.int k, .int av, .ref X] H1 R L2.E0 := by
      intro X hX H1 R sX r
      have sk8 : Sm 80 (k : Int) := sk.mono (by decide)
      simp only [List.mem_cons, List.not_mem_nil, or_false] at hX
      rcases hX with rfl | rfl | rfl | rfl | rfl
      · refine isw (sX _ _ hB24) sk8 (fun n hn w hw => ?_) fun H' s' => ?_
        · rw [valV_drop] at hw
          split at hw
          · cases hw
          · exact okz n hn w hw
        · rw [isW_len (by rw [hdl]; decide)]
          exact r H' s'
      · refine isw (sX _ _ hM24) sk8 (fun n hn w hw => ?_) fun H' s' => ?_
        · rw [valV_put, if_neg (hne n hn)] at hw
          exact okz n hn w hw
        · rw [isW_len (by rw [putK_new hvz, List.length_append, hkl]; decide)]
          exact r H' s'
      · refine isw (sX _ _ hS24) sk8 (fun n hn w hw => ?_) fun H' s' => ?_
        · rw [valV_put] at hw
          split at hw
          · cases hw
            exact wok
          · exact okz n hn w hw
        · rw [isW_nat hmem (by rw [valV_put, if_pos rfl]; exact wnn)]
          exact r H' s'
      · refine isw (sX _ _ hU24) sk8 (fun n hn w hw => ?_) fun H' s' => ?_
        · rw [valV_put, if_neg (hne n hn), valV_drop] at hw
          split at hw
          · cases hw
          · exact okz n hn w hw
        · rw [isW_nat hmem (by rw [valV_put, if_neg (hne nm hmem), valV_drop, if_pos rfl]; rfl)]
          exact r H' s'
      · exact ⟨_, _, _, rfl, sk8, sa.mono (by decide), .inl ⟨_, sX _ _ hP24, r⟩⟩
    clear hB24 hM24 hS24 hU24 hP24
    refine ⟨T, rfl, ⟨_, .inl (.inl hT24)⟩, fun X nX => ?_⟩
    refine lc_it (walk_list (K := K) (a := T) (xs := [.ref B, .ref M, .ref S, .ref U, .ref P2])) (fun i H' => H' X = some (.lst (List.replicate i (V.bl false))) ∧ Same H24 H') ?_ ?_ ?_ ?_
    · exact ⟨upd_same, same_upd nX⟩
    · exact fun i H' _ hh => .inl (.inl (hh.2 _ _ hT24))
    · rintro i x H1 H2 lt ⟨hX, sX⟩ ⟨rfl, hx⟩
      obtain ⟨Y, rfl, hY⟩ : ∃ Y, x = .ref Y ∧ Y ∈ [B, M, S, U, P2] := by
        have := List.mem_of_getElem? hx
        simp only [List.mem_cons, List.not_mem_nil, or_false] at this ⊢
        rcases this with h | h | h | h | h
        · exact ⟨_, h, .inl rfl⟩
        · exact ⟨_, h, .inr (.inl rfl)⟩
        · exact ⟨_, h, .inr (.inr (.inl rfl))⟩
        · exact ⟨_, h, .inr (.inr (.inr (.inl rfl)))⟩
        · exact ⟨_, h, .inr (.inr (.inr (.inr rfl)))⟩
      refine ⟨rfl, WK.yes (WK.ift ?_)⟩
      dsimp only [wipe, List.map, List.set]
      walk_at "wk"
      refine one Y hY _ _ sX fun H' s' => ⟨_, s' _ _ hX, ?_, ?_, Same.new (sX.trans s') nX⟩
      · rw [List.length_replicate]
        exact sz_lt (Nat.le_trans (Nat.le_of_lt lt) (Nat.le_of_ble_eq_true rfl))
      · rw [upd_same, List.replicate_succ']
    · rintro H25 ⟨hX, sX⟩
      have hD25 := sX _ _ hD24
      clear hT24 hD24
      refine ⟨Nat.le_of_ble_eq_true rfl, fun p5 np5 => ⟨p5, 5, _, rfl, rfl, upd_same, by decide, by decide, Nat.le_of_ble_eq_true rfl, fun p6 np6 => ?_⟩⟩
      have s26 := (same_upd (o := .lst [V.bl false]) np5).trans (same_upd (o := .lst (List.replicate (5 : Int).toNat [V.bl false]).flatten) np6)
      have hX26 := s26 _ _ hX
      have hD26 := s26 _ _ hD25
      have hp6 : (upd (upd H25 p5 (.lst [V.bl false])) p6 (.lst (List.replicate (5 : Int).toNat [V.bl false]).flatten)) p6 = some (.lst [.bl false, .bl false, .bl false, .bl false, .bl false]) := upd_same
      generalize upd (upd H25 p5 (.lst [V.bl false])) p6 (.lst (List.replicate (5 : Int).toNat [V.bl false]).flatten) = H26 at hX26 hD26 hp6 ⊢
      have dp5 : DpAll K H26 [.bl false, .bl false, .bl false, .bl false, .bl false] [.bool false, .bool false, .bool false, .bool false, .bool false] := .cons (.bl _) (.cons (.bl _) (.cons (.bl _) (.cons (.bl _) (.cons (.bl _) .nil))))
      refine ⟨.list [.bool false, .bool false, .bool false, .bool false, .bool false], .list [.bool false, .bool false, .bool false, .bool false, .bool false], .lst (.inl (.inl hX26)) dp5, .lst (.inl (.inl hp6)) dp5, rfl, rfl, ?_⟩
      rw [SeqAt.eqv_refl _ (SeqAt.canLay_of_shaped rfl)]
      rw [show (!true) = false from rfl]
      walk_at "wk"
      refine kz_lc (vs := vs) (f := V.int) hvl hD26 rfl (fun _ => rfl) (fun H27 n v R hg r => ⟨_, rfl, _, rfl, D, .int v, rfl, hg, r⟩) fun H28 X3 s28 _ hX3 => ?_
      refine ⟨X3, vs, rfl, .inl (.inl hX3), by omega, fun mx hmx hmax => ?_⟩
      have emx : mx = grt k av := by
        obtain ⟨z, hz, ez⟩ := hvg
        have h1 := hmax z hz
        have h2 := (V1 mx hmx).2.2
        omega
      subst emx
      walk_at "wk"
      refine ⟨k, av, 90000, figN k av, rfl, fit, f1, f2, f3, f4, f5, fun H29 s29 => ?_⟩
      refine ⟨_, rfl, figN k av, rfl, ?_⟩
      refine ⟨_, rfl, WK.ift ?_⟩
      refine ⟨_, rfl, _, _, rfl, rfl, ⟨_, rfl, ?_⟩⟩
      rw [decide_eq_true (show (0 : Int) < ((figN k av : Nat) : Int) by omega)]
      refine WK.ift ⟨_, rfl, _, _, rfl, rfl, ⟨_, rfl, ?_⟩⟩
      rw [decide_eq_true (show ((figN k av : Nat) : Int) < 9000 by omega)]
      refine WK.ift ⟨_, rfl, _, rfl, grt k av, figN k av, rfl, f1, by omega, ?_⟩
      rw [decide_eq_true f3]
      have f6 : grt k av < 10 * ((10 ^ (figN k av - 1) : Nat) : Int) := by
        have h1 := ten_succ (figN k av - 1)
        rw [Nat.sub_add_cancel f1] at h1
        rw [Int.mul_comm, h1]
        exact f4
      rw [decide_eq_true f6]
      exact q _

end
end RR

namespace RR
open PySem PySem.Spec PyProof.Rows L2
theorem all_mk {l : PySem.W.OpenLaw} {w : World} {K : PySem.W.Frag} {h : Heap} {mg : Str → Option Value} {fa : Addr} (X : K.In h) (G : h.Ns mainGlobals mg) (hfa : mg "law" = some (.ref fa))
    {f0 : Addr} {od0 an0 : Option Addr} {sl0 : Array (Option Value)} {oc0 kV0 dc0 pm0 cd0 ct0 : Value}
    {f1 : Addr} {od1 an1 : Option Addr} {sl1 : Array (Option Value)} {oc1 kV1 dc1 pm1 cd1 ct1 : Value}
    {f2 : Addr} {od2 an2 : Option Addr} {sl2 : Array (Option Value)} {oc2 kV2 dc2 pm2 cd2 ct2 : Value}
    {f3 : Addr} {od3 an3 : Option Addr} {sl3 : Array (Option Value)} {oc3 kV3 dc3 pm3 cd3 ct3 : Value}
    {f4 : Addr} {od4 an4 : Option Addr} {sl4 : Array (Option Value)} {oc4 kV4 dc4 pm4 cd4 ct4 : Value}
    {f5 : Addr} {od5 an5 : Option Addr} {sl5 : Array (Option Value)} {oc5 kV5 dc5 pm5 cd5 ct5 : Value}
    {f6 : Addr} {od6 an6 : Option Addr} {sl6 : Array (Option Value)} {oc6 kV6 dc6 pm6 cd6 ct6 : Value}
    {f7 : Addr} {od7 an7 : Option Addr} {sl7 : Array (Option Value)} {oc7 kV7 dc7 pm7 cd7 ct7 : Value}
    {f8 : Addr} {od8 an8 : Option Addr} {sl8 : Array (Option Value)} {oc8 kV8 dc8 pm8 cd8 ct8 : Value}
    {f9 : Addr} {od9 an9 : Option Addr} {sl9 : Array (Option Value)} {oc9 kV9 dc9 pm9 cd9 ct9 : Value}
    {f10 : Addr} {od10 an10 : Option Addr} {sl10 : Array (Option Value)} {oc10 kV10 dc10 pm10 cd10 ct10 : Value}
    {f11 : Addr} {od11 an11 : Option Addr} {sl11 : Array (Option Value)} {oc11 kV11 dc11 pm11 cd11 ct11 : Value}
    {f12 : Addr} {od12 an12 : Option Addr} {sl12 : Array (Option Value)} {oc12 kV12 dc12 pm12 cd12 ct12 : Value}
    {f13 : Addr} {od13 an13 : Option Addr} {sl13 : Array (Option Value)} {oc13 kV13 dc13 pm13 cd13 ct13 : Value}
    {f14 : Addr} {od14 an14 : Option Addr} {sl14 : Array (Option Value)} {oc14 kV14 dc14 pm14 cd14 ct14 : Value}
    {f15 : Addr} {od15 an15 : Option Addr} {sl15 : Array (Option Value)} {oc15 kV15 dc15 pm15 cd15 ct15 : Value}
    {f16 : Addr} {od16 an16 : Option Addr} {sl16 : Array (Option Value)} {oc16 kV16 dc16 pm16 cd16 ct16 : Value}
    {f17 : Addr} {od17 an17 : Option Addr} {sl17 : Array (Option Value)} {oc17 kV17 dc17 pm17 cd17 ct17 : Value}
    {f18 : Addr} {od18 an18 : Option Addr} {sl18 : Array (Option Value)} {oc18 kV18 dc18 pm18 cd18 ct18 : Value}
    {f19 : Addr} {od19 an19 : Option Addr} {sl19 : Array (Option Value)} {oc19 kV19 dc19 pm19 cd19 ct19 : Value}
    {f20 : Addr} {od20 an20 : Option Addr} {sl20 : Array (Option Value)} {oc20 kV20 dc20 pm20 cd20 ct20 : Value}
    {f21 : Addr} {od21 an21 : Option Addr} {sl21 : Array (Option Value)} {oc21 kV21 dc21 pm21 cd21 ct21 : Value}
    {f22 : Addr} {od22 an22 : Option Addr} {sl22 : Array (Option Value)} {oc22 kV22 dc22 pm22 cd22 ct22 : Value}
    {f23 : Addr} {od23 an23 : Option Addr} {sl23 : Array (Option Value)} {oc23 kV23 dc23 pm23 cd23 ct23 : Value}
    {f24 : Addr} {od24 an24 : Option Addr} {sl24 : Array (Option Value)} {oc24 kV24 dc24 pm24 cd24 ct24 : Value}
    {f25 : Addr} {od25 an25 : Option Addr} {sl25 : Array (Option Value)} {oc25 kV25 dc25 pm25 cd25 ct25 : Value}
    {f26 : Addr} {od26 an26 : Option Addr} {sl26 : Array (Option Value)} {oc26 kV26 dc26 pm26 cd26 ct26 : Value}
    {f27 : Addr} {od27 an27 : Option Addr} {sl27 : Array (Option Value)} {oc27 kV27 dc27 pm27 cd27 ct27 : Value}
    {f28 : Addr} {od28 an28 : Option Addr} {sl28 : Array (Option Value)} {oc28 kV28 dc28 pm28 cd28 ct28 : Value}
    {f29 : Addr} {od29 an29 : Option Addr} {sl29 : Array (Option Value)} {oc29 kV29 dc29 pm29 cd29 ct29 : Value}
    {f30 : Addr} {od30 an30 : Option Addr} {sl30 : Array (Option Value)} {oc30 kV30 dc30 pm30 cd30 ct30 : Value}
    {f31 : Addr} {od31 an31 : Option Addr} {sl31 : Array (Option Value)} {oc31 kV31 dc31 pm31 cd31 ct31 : Value}
    {f32 : Addr} {od32 an32 : Option Addr} {sl32 : Array (Option Value)} {oc32 kV32 dc32 pm32 cd32 ct32 : Value}
    {f33 : Addr} {od33 an33 : Option Addr} {sl33 : Array (Option Value)} {oc33 kV33 dc33 pm33 cd33 ct33 : Value}
    {f34 : Addr} {od34 an34 : Option Addr} {sl34 : Array (Option Value)} {oc34 kV34 dc34 pm34 cd34 ct34 : Value}
    {f35 : Addr} {od35 an35 : Option Addr} {sl35 : Array (Option Value)} {oc35 kV35 dc35 pm35 cd35 ct35 : Value}
    {f36 : Addr} {od36 an36 : Option Addr} {sl36 : Array (Option Value)} {oc36 kV36 dc36 pm36 cd36 ct36 : Value}
    (a0 : PySem.W.nsIn K mainGlobals "_law_pairs" = some (some (.ref f0)))
    (l0 : K.lookup f0 = some ⟨oc0, od0, .func (PySem.W.fnOf "_law_pairs" "_law_pairs" (defArgs s__law_pairs) (defBody s__law_pairs) (defScope s__law_pairs) .none kV0 dc0 pm0 an0 cd0 ct0), sl0⟩)
    (c0 : PySem.W.codeIn K cd0 "_law_pairs" = true) (k0 : PySem.W.keepIn K (.ref f0) = true)
    (a1 : PySem.W.nsIn K mainGlobals "_law_base" = some (some (.ref f1)))
    (l1 : K.lookup f1 = some ⟨oc1, od1, .func (PySem.W.fnOf "_law_base" "_law_base" (defArgs s__law_base) (defBody s__law_base) (defScope s__law_base) .none kV1 dc1 pm1 an1 cd1 ct1), sl1⟩)
    (c1 : PySem.W.codeIn K cd1 "_law_base" = true) (k1 : PySem.W.keepIn K (.ref f1) = true)
    (a2 : PySem.W.nsIn K mainGlobals "_law_due" = some (some (.ref f2)))
    (l2 : K.lookup f2 = some ⟨oc2, od2, .func (PySem.W.fnOf "_law_due" "_law_due" (defArgs s__law_due) (defBody s__law_due) (defScope s__law_due) .none kV2 dc2 pm2 an2 cd2 ct2), sl2⟩)
    (c2 : PySem.W.codeIn K cd2 "_law_due" = true) (k2 : PySem.W.keepIn K (.ref f2) = true)
    (a3 : PySem.W.nsIn K mainGlobals "_doubled" = some (some (.ref f3)))
    (l3 : K.lookup f3 = some ⟨oc3, od3, .func (PySem.W.fnOf "_doubled" "_doubled" (defArgs s__doubled) (defBody s__doubled) (defScope s__doubled) .none kV3 dc3 pm3 an3 cd3 ct3), sl3⟩)
    (c3 : PySem.W.codeIn K cd3 "_doubled" = true) (k3 : PySem.W.keepIn K (.ref f3) = true)
    (a4 : PySem.W.nsIn K mainGlobals "_next" = some (some (.ref f4)))
    (l4 : K.lookup f4 = some ⟨oc4, od4, .func (PySem.W.fnOf "_next" "_next" (defArgs s__next) (defBody s__next) (defScope s__next) .none kV4 dc4 pm4 an4 cd4 ct4), sl4⟩)
    (c4 : PySem.W.codeIn K cd4 "_next" = true) (k4 : PySem.W.keepIn K (.ref f4) = true)
    (a5 : PySem.W.nsIn K mainGlobals "pair" = some (some (.ref f5)))
    (l5 : K.lookup f5 = some ⟨oc5, od5, .func (PySem.W.fnOf "pair" "pair" (defArgs s_pair) (defBody s_pair) (defScope s_pair) .none kV5 dc5 pm5 an5 cd5 ct5), sl5⟩)
    (c5 : PySem.W.codeIn K cd5 "pair" = true) (k5 : PySem.W.keepIn K (.ref f5) = true)
    (a6 : PySem.W.nsIn K mainGlobals "_three_pairs" = some (some (.ref f6)))
    (l6 : K.lookup f6 = some ⟨oc6, od6, .func (PySem.W.fnOf "_three_pairs" "_three_pairs" (defArgs s__three_pairs) (defBody s__three_pairs) (defScope s__three_pairs) .none kV6 dc6 pm6 an6 cd6 ct6), sl6⟩)
    (c6 : PySem.W.codeIn K cd6 "_three_pairs" = true) (k6 : PySem.W.keepIn K (.ref f6) = true)
    (a7 : PySem.W.nsIn K mainGlobals "witnesses" = some (some (.ref f7)))
    (l7 : K.lookup f7 = some ⟨oc7, od7, .func (PySem.W.fnOf "witnesses" "witnesses" (defArgs s_witnesses) (defBody s_witnesses) (defScope s_witnesses) .none kV7 dc7 pm7 an7 cd7 ct7), sl7⟩)
    (c7 : PySem.W.codeIn K cd7 "witnesses" = true) (k7 : PySem.W.keepIn K (.ref f7) = true)
    (a8 : PySem.W.nsIn K mainGlobals "unknown" = some (some (.ref f8)))
    (l8 : K.lookup f8 = some ⟨oc8, od8, .func (PySem.W.fnOf "unknown" "unknown" (defArgs s_unknown) (defBody s_unknown) (defScope s_unknown) .none kV8 dc8 pm8 an8 cd8 ct8), sl8⟩)
    (c8 : PySem.W.codeIn K cd8 "unknown" = true) (k8 : PySem.W.keepIn K (.ref f8) = true)
    (a9 : PySem.W.nsIn K mainGlobals "row_member" = some (some (.ref f9)))
    (l9 : K.lookup f9 = some ⟨oc9, od9, .func (PySem.W.fnOf "row_member" "row_member" (defArgs s_row_member) (defBody s_row_member) (defScope s_row_member) .none kV9 dc9 pm9 an9 cd9 ct9), sl9⟩)
    (c9 : PySem.W.codeIn K cd9 "row_member" = true) (k9 : PySem.W.keepIn K (.ref f9) = true)
    (a10 : PySem.W.nsIn K mainGlobals "_holds_row" = some (some (.ref f10)))
    (l10 : K.lookup f10 = some ⟨oc10, od10, .func (PySem.W.fnOf "_holds_row" "_holds_row" (defArgs s__holds_row) (defBody s__holds_row) (defScope s__holds_row) .none kV10 dc10 pm10 an10 cd10 ct10), sl10⟩)
    (c10 : PySem.W.codeIn K cd10 "_holds_row" = true) (k10 : PySem.W.keepIn K (.ref f10) = true)
    (a11 : PySem.W.nsIn K mainGlobals "value_of" = some (some (.ref f11)))
    (l11 : K.lookup f11 = some ⟨oc11, od11, .func (PySem.W.fnOf "value_of" "value_of" (defArgs s_value_of) (defBody s_value_of) (defScope s_value_of) .none kV11 dc11 pm11 an11 cd11 ct11), sl11⟩)
    (c11 : PySem.W.codeIn K cd11 "value_of" = true) (k11 : PySem.W.keepIn K (.ref f11) = true)
    (a12 : PySem.W.nsIn K mainGlobals "_holds_under" = some (some (.ref f12)))
    (l12 : K.lookup f12 = some ⟨oc12, od12, .func (PySem.W.fnOf "_holds_under" "_holds_under" (defArgs s__holds_under) (defBody s__holds_under) (defScope s__holds_under) .none kV12 dc12 pm12 an12 cd12 ct12), sl12⟩)
    (c12 : PySem.W.codeIn K cd12 "_holds_under" = true) (k12 : PySem.W.keepIn K (.ref f12) = true)
    (a13 : PySem.W.nsIn K mainGlobals "raised" = some (some (.ref f13)))
    (l13 : K.lookup f13 = some ⟨oc13, od13, .func (PySem.W.fnOf "raised" "raised" (defArgs s_raised) (defBody s_raised) (defScope s_raised) .none kV13 dc13 pm13 an13 cd13 ct13), sl13⟩)
    (c13 : PySem.W.codeIn K cd13 "raised" = true) (k13 : PySem.W.keepIn K (.ref f13) = true)
    (a14 : PySem.W.nsIn K mainGlobals "_holds_power" = some (some (.ref f14)))
    (l14 : K.lookup f14 = some ⟨oc14, od14, .func (PySem.W.fnOf "_holds_power" "_holds_power" (defArgs s__holds_power) (defBody s__holds_power) (defScope s__holds_power) .none kV14 dc14 pm14 an14 cd14 ct14), sl14⟩)
    (c14 : PySem.W.codeIn K cd14 "_holds_power" = true) (k14 : PySem.W.keepIn K (.ref f14) = true)
    (a15 : PySem.W.nsIn K mainGlobals "holds" = some (some (.ref f15)))
    (l15 : K.lookup f15 = some ⟨oc15, od15, .func (PySem.W.fnOf "holds" "holds" (defArgs s_holds) (defBody s_holds) (defScope s_holds) .none kV15 dc15 pm15 an15 cd15 ct15), sl15⟩)
    (c15 : PySem.W.codeIn K cd15 "holds" = true) (k15 : PySem.W.keepIn K (.ref f15) = true)
    (a16 : PySem.W.nsIn K mainGlobals "is_number" = some (some (.ref f16)))
    (l16 : K.lookup f16 = some ⟨oc16, od16, .func (PySem.W.fnOf "is_number" "is_number" (defArgs s_is_number) (defBody s_is_number) (defScope s_is_number) .none kV16 dc16 pm16 an16 cd16 ct16), sl16⟩)
    (c16 : PySem.W.codeIn K cd16 "is_number" = true) (k16 : PySem.W.keepIn K (.ref f16) = true)
    (a17 : PySem.W.nsIn K mainGlobals "is_natural" = some (some (.ref f17)))
    (l17 : K.lookup f17 = some ⟨oc17, od17, .func (PySem.W.fnOf "is_natural" "is_natural" (defArgs s_is_natural) (defBody s_is_natural) (defScope s_is_natural) .none kV17 dc17 pm17 an17 cd17 ct17), sl17⟩)
    (c17 : PySem.W.codeIn K cd17 "is_natural" = true) (k17 : PySem.W.keepIn K (.ref f17) = true)
    (a18 : PySem.W.nsIn K mainGlobals "_without_zeros" = some (some (.ref f18)))
    (l18 : K.lookup f18 = some ⟨oc18, od18, .func (PySem.W.fnOf "_without_zeros" "_without_zeros" (defArgs s__without_zeros) (defBody s__without_zeros) (defScope s__without_zeros) .none kV18 dc18 pm18 an18 cd18 ct18), sl18⟩)
    (c18 : PySem.W.codeIn K cd18 "_without_zeros" = true) (k18 : PySem.W.keepIn K (.ref f18) = true)
    (a19 : PySem.W.nsIn K mainGlobals "constant" = some (some (.ref f19)))
    (l19 : K.lookup f19 = some ⟨oc19, od19, .func (PySem.W.fnOf "constant" "constant" (defArgs s_constant) (defBody s_constant) (defScope s_constant) .none kV19 dc19 pm19 an19 cd19 ct19), sl19⟩)
    (c19 : PySem.W.codeIn K cd19 "constant" = true) (k19 : PySem.W.keepIn K (.ref f19) = true)
    (a20 : PySem.W.nsIn K mainGlobals "scaled" = some (some (.ref f20)))
    (l20 : K.lookup f20 = some ⟨oc20, od20, .func (PySem.W.fnOf "scaled" "scaled" (defArgs s_scaled) (defBody s_scaled) (defScope s_scaled) .none kV20 dc20 pm20 an20 cd20 ct20), sl20⟩)
    (c20 : PySem.W.codeIn K cd20 "scaled" = true) (k20 : PySem.W.keepIn K (.ref f20) = true)
    (a21 : PySem.W.nsIn K mainGlobals "collected" = some (some (.ref f21)))
    (l21 : K.lookup f21 = some ⟨oc21, od21, .func (PySem.W.fnOf "collected" "collected" (defArgs s_collected) (defBody s_collected) (defScope s_collected) .none kV21 dc21 pm21 an21 cd21 ct21), sl21⟩)
    (c21 : PySem.W.codeIn K cd21 "collected" = true) (k21 : PySem.W.keepIn K (.ref f21) = true)
    (a22 : PySem.W.nsIn K mainGlobals "sum_of" = some (some (.ref f22)))
    (l22 : K.lookup f22 = some ⟨oc22, od22, .func (PySem.W.fnOf "sum_of" "sum_of" (defArgs s_sum_of) (defBody s_sum_of) (defScope s_sum_of) .none kV22 dc22 pm22 an22 cd22 ct22), sl22⟩)
    (c22 : PySem.W.codeIn K cd22 "sum_of" = true) (k22 : PySem.W.keepIn K (.ref f22) = true)
    (a23 : PySem.W.nsIn K mainGlobals "plus" = some (some (.ref f23)))
    (l23 : K.lookup f23 = some ⟨oc23, od23, .func (PySem.W.fnOf "plus" "plus" (defArgs s_plus) (defBody s_plus) (defScope s_plus) .none kV23 dc23 pm23 an23 cd23 ct23), sl23⟩)
    (c23 : PySem.W.codeIn K cd23 "plus" = true) (k23 : PySem.W.keepIn K (.ref f23) = true)
    (a24 : PySem.W.nsIn K mainGlobals "minus" = some (some (.ref f24)))
    (l24 : K.lookup f24 = some ⟨oc24, od24, .func (PySem.W.fnOf "minus" "minus" (defArgs s_minus) (defBody s_minus) (defScope s_minus) .none kV24 dc24 pm24 an24 cd24 ct24), sl24⟩)
    (c24 : PySem.W.codeIn K cd24 "minus" = true) (k24 : PySem.W.keepIn K (.ref f24) = true)
    (a25 : PySem.W.nsIn K mainGlobals "equal" = some (some (.ref f25)))
    (l25 : K.lookup f25 = some ⟨oc25, od25, .func (PySem.W.fnOf "equal" "equal" (defArgs s_equal) (defBody s_equal) (defScope s_equal) .none kV25 dc25 pm25 an25 cd25 ct25), sl25⟩)
    (c25 : PySem.W.codeIn K cd25 "equal" = true) (k25 : PySem.W.keepIn K (.ref f25) = true)
    (a26 : PySem.W.nsIn K mainGlobals "_merged" = some (some (.ref f26)))
    (l26 : K.lookup f26 = some ⟨oc26, od26, .func (PySem.W.fnOf "_merged" "_merged" (defArgs s__merged) (defBody s__merged) (defScope s__merged) .none kV26 dc26 pm26 an26 cd26 ct26), sl26⟩)
    (c26 : PySem.W.codeIn K cd26 "_merged" = true) (k26 : PySem.W.keepIn K (.ref f26) = true)
    (a27 : PySem.W.nsIn K mainGlobals "times" = some (some (.ref f27)))
    (l27 : K.lookup f27 = some ⟨oc27, od27, .func (PySem.W.fnOf "times" "times" (defArgs s_times) (defBody s_times) (defScope s_times) .none kV27 dc27 pm27 an27 cd27 ct27), sl27⟩)
    (c27 : PySem.W.codeIn K cd27 "times" = true) (k27 : PySem.W.keepIn K (.ref f27) = true)
    (a28 : PySem.W.nsIn K mainGlobals "one_apart" = some (some (.ref f28)))
    (l28 : K.lookup f28 = some ⟨oc28, od28, .func (PySem.W.fnOf "one_apart" "one_apart" (defArgs s_one_apart) (defBody s_one_apart) (defScope s_one_apart) .none kV28 dc28 pm28 an28 cd28 ct28), sl28⟩)
    (c28 : PySem.W.codeIn K cd28 "one_apart" = true) (k28 : PySem.W.keepIn K (.ref f28) = true)
    (a29 : PySem.W.nsIn K mainGlobals "index_equations" = some (some (.ref f29)))
    (l29 : K.lookup f29 = some ⟨oc29, od29, .func (PySem.W.fnOf "index_equations" "index_equations" (defArgs s_index_equations) (defBody s_index_equations) (defScope s_index_equations) .none kV29 dc29 pm29 an29 cd29 ct29), sl29⟩)
    (c29 : PySem.W.codeIn K cd29 "index_equations" = true) (k29 : PySem.W.keepIn K (.ref f29) = true)
    (a30 : PySem.W.nsIn K mainGlobals "is_witness" = some (some (.ref f30)))
    (l30 : K.lookup f30 = some ⟨oc30, od30, .func (PySem.W.fnOf "is_witness" "is_witness" (defArgs s_is_witness) (defBody s_is_witness) (defScope s_is_witness) .none kV30 dc30 pm30 an30 cd30 ct30), sl30⟩)
    (c30 : PySem.W.codeIn K cd30 "is_witness" = true) (k30 : PySem.W.keepIn K (.ref f30) = true)
    (a31 : PySem.W.nsIn K mainGlobals "digits_needed" = some (some (.ref f31)))
    (l31 : K.lookup f31 = some ⟨oc31, od31, .func (PySem.W.fnOf "digits_needed" "digits_needed" (defArgs s_digits_needed) (defBody s_digits_needed) (defScope s_digits_needed) .none kV31 dc31 pm31 an31 cd31 ct31), sl31⟩)
    (c31 : PySem.W.codeIn K cd31 "digits_needed" = true) (k31 : PySem.W.keepIn K (.ref f31) = true)
    (a32 : PySem.W.nsIn K mainGlobals "_law_is_integer" = some (some (.ref f32)))
    (l32 : K.lookup f32 = some ⟨oc32, od32, .func (PySem.W.fnOf "_law_is_integer" "_law_is_integer" (defArgs s__law_is_integer) (defBody s__law_is_integer) (defScope s__law_is_integer) .none kV32 dc32 pm32 an32 cd32 ct32), sl32⟩)
    (c32 : PySem.W.codeIn K cd32 "_law_is_integer" = true) (k32 : PySem.W.keepIn K (.ref f32) = true)
    (a33 : PySem.W.nsIn K mainGlobals "_law_has_figures" = some (some (.ref f33)))
    (l33 : K.lookup f33 = some ⟨oc33, od33, .func (PySem.W.fnOf "_law_has_figures" "_law_has_figures" (defArgs s__law_has_figures) (defBody s__law_has_figures) (defScope s__law_has_figures) .none kV33 dc33 pm33 an33 cd33 ct33), sl33⟩)
    (c33 : PySem.W.codeIn K cd33 "_law_has_figures" = true) (k33 : PySem.W.keepIn K (.ref f33) = true)
    (a34 : PySem.W.nsIn K mainGlobals "_law_cell" = some (some (.ref f34)))
    (l34 : K.lookup f34 = some ⟨oc34, od34, .func (PySem.W.fnOf "_law_cell" "_law_cell" (defArgs s__law_cell) (defBody s__law_cell) (defScope s__law_cell) .none kV34 dc34 pm34 an34 cd34 ct34), sl34⟩)
    (c34 : PySem.W.codeIn K cd34 "_law_cell" = true) (k34 : PySem.W.keepIn K (.ref f34) = true)
    (a35 : PySem.W.nsIn K mainGlobals "_law_holds" = some (some (.ref f35)))
    (l35 : K.lookup f35 = some ⟨oc35, od35, .func (PySem.W.fnOf "_law_holds" "_law_holds" (defArgs s__law_holds) (defBody s__law_holds) (defScope s__law_holds) .none kV35 dc35 pm35 an35 cd35 ct35), sl35⟩)
    (c35 : PySem.W.codeIn K cd35 "_law_holds" = true) (k35 : PySem.W.keepIn K (.ref f35) = true)
    (a36 : PySem.W.nsIn K mainGlobals "law" = some (some (.ref f36)))
    (l36 : K.lookup f36 = some ⟨oc36, od36, .func (PySem.W.fnOf "law" "law" (defArgs s_law) (defBody s_law) (defScope s_law) .none kV36 dc36 pm36 an36 cd36 ct36), sl36⟩)
    (c36 : PySem.W.codeIn K cd36 "law" = true) (k36 : PySem.W.keepIn K (.ref f36) = true)
    (z_range : PySem.W.nsIn K mainGlobals "range" = some none)
    (z_int : PySem.W.nsIn K mainGlobals "int" = some none)
    (z_reversed : PySem.W.nsIn K mainGlobals "reversed" = some none)
    (z_isinstance : PySem.W.nsIn K mainGlobals "isinstance" = some none)
    (z_bool : PySem.W.nsIn K mainGlobals "bool" = some none)
    (z_tuple : PySem.W.nsIn K mainGlobals "tuple" = some none)
    (z_sorted : PySem.W.nsIn K mainGlobals "sorted" = some none)
    (z_all : PySem.W.nsIn K mainGlobals "all" = some none)
    (z_dict : PySem.W.nsIn K mainGlobals "dict" = some none)
    (z_len : PySem.W.nsIn K mainGlobals "len" = some none)
    (z_max : PySem.W.nsIn K mainGlobals "max" = some none)
    {r_NAMES : Addr} {o_NAMES : Obj} (z_NAMES : PySem.W.nsIn K mainGlobals "NAMES" = some (some (.ref r_NAMES))) (lk_NAMES : K.lookup r_NAMES = some o_NAMES) (co_NAMES : TupO o_NAMES [V.str "x", V.str "y", V.str "u", V.str "v", V.str "s", V.str "t", V.str "b", V.str "r", V.str "p", V.str "q", V.str "c", V.str "d", V.str "e"])
    : ∃ fd : FuncData, (∀ (s : Shared) (v : Value), BindsTo s fd ⟨[v], []⟩ [("script", v)]) ∧ ∀ base : Heap, K.In base → base.Ns mainGlobals mg → FnOk l.prog w K mg base CX0 10 fa fd ["script"] (sp_law K) := by
  have e := hfa.symm.trans (PySem.W.mg_of X G a36)
  cases e
  have F0 := fun_mk (st := s__law_pairs) l0 c0 k0
  have F1 := fun_mk (st := s__law_base) l1 c1 k1
  have F2 := fun_mk (st := s__law_due) l2 c2 k2
  have F3 := fun_mk (st := s__doubled) l3 c3 k3
  have F4 := fun_mk (st := s__next) l4 c4 k4
  have F5 := fun_mk (st := s_pair) l5 c5 k5
  have F6 := fun_mk (st := s__three_pairs) l6 c6 k6
  have F7 := fun_mk (st := s_witnesses) l7 c7 k7
  have F8 := fun_mk (st := s_unknown) l8 c8 k8
  have F9 := fun_mk (st := s_row_member) l9 c9 k9
  have F10 := fun_mk (st := s__holds_row) l10 c10 k10
  have F11 := fun_mk (st := s_value_of) l11 c11 k11
  have F12 := fun_mk (st := s__holds_under) l12 c12 k12
  have F13 := fun_mk (st := s_raised) l13 c13 k13
  have F14 := fun_mk (st := s__holds_power) l14 c14 k14
  have F15 := fun_mk (st := s_holds) l15 c15 k15
  have F16 := fun_mk (st := s_is_number) l16 c16 k16
  have F17 := fun_mk (st := s_is_natural) l17 c17 k17
  have F18 := fun_mk (st := s__without_zeros) l18 c18 k18
  have F19 := fun_mk (st := s_constant) l19 c19 k19
  have F20 := fun_mk (st := s_scaled) l20 c20 k20
  have F21 := fun_mk (st := s_collected) l21 c21 k21
  have F22 := fun_mk (st := s_sum_of) l22 c22 k22
  have F23 := fun_mk (st := s_plus) l23 c23 k23
  have F24 := fun_mk (st := s_minus) l24 c24 k24
  have F25 := fun_mk (st := s_equal) l25 c25 k25
  have F26 := fun_mk (st := s__merged) l26 c26 k26
  have F27 := fun_mk (st := s_times) l27 c27 k27
  have F28 := fun_mk (st := s_one_apart) l28 c28 k28
  have F29 := fun_mk (st := s_index_equations) l29 c29 k29
  have F30 := fun_mk (st := s_is_witness) l30 c30 k30
  have F31 := fun_mk (st := s_digits_needed) l31 c31 k31
  have F32 := fun_mk (st := s__law_is_integer) l32 c32 k32
  have F33 := fun_mk (st := s__law_has_figures) l33 c33 k33
  have F34 := fun_mk (st := s__law_cell) l34 c34 k34
  have F35 := fun_mk (st := s__law_holds) l35 c35 k35
  have F36 := fun_mk (st := s_law) l36 c36 k36
  have b0 := F0.binds (ps := ["a", "count"]) fun _ _ _ _ _ _ us hl => match us, hl with | [_, _], _ => rfl
  have b1 := F1.binds (ps := ["a", "y", "u"]) fun _ _ _ _ _ _ us hl => match us, hl with | [_, _, _], _ => rfl
  have b2 := F2.binds (ps := ["k", "a"]) fun _ _ _ _ _ _ us hl => match us, hl with | [_, _], _ => rfl
  have b3 := F3.binds (ps := ["x", "y"]) fun _ _ _ _ _ _ us hl => match us, hl with | [_, _], _ => rfl
  have b4 := F4.binds (ps := ["x", "y", "a"]) fun _ _ _ _ _ _ us hl => match us, hl with | [_, _, _], _ => rfl
  have b5 := F5.binds (ps := ["n", "a"]) fun _ _ _ _ _ _ us hl => match us, hl with | [_, _], _ => rfl
  have b6 := F6.binds (ps := ["k", "a"]) fun _ _ _ _ _ _ us hl => match us, hl with | [_, _], _ => rfl
  have b7 := F7.binds (ps := ["k", "a"]) fun _ _ _ _ _ _ us hl => match us, hl with | [_, _], _ => rfl
  have b8 := F8.binds (ps := ["name"]) fun _ _ _ _ _ _ us hl => match us, hl with | [_], _ => rfl
  have b9 := F9.binds (ps := ["n", "a"]) fun _ _ _ _ _ _ us hl => match us, hl with | [_, _], _ => rfl
  have b10 := F10.binds (ps := ["y", "n", "a"]) fun _ _ _ _ _ _ us hl => match us, hl with | [_, _, _], _ => rfl
  have b11 := F11.binds (ps := ["polynomial", "values"]) fun _ _ _ _ _ _ us hl => match us, hl with | [_, _], _ => rfl
  have b12 := F12.binds (ps := ["a", "b"]) fun _ _ _ _ _ _ us hl => match us, hl with | [_, _], _ => rfl
  have b13 := F13.binds (ps := ["base", "exponent"]) fun _ _ _ _ _ _ us hl => match us, hl with | [_, _], _ => rfl
  have b14 := F14.binds (ps := ["z", "x", "y"]) fun _ _ _ _ _ _ us hl => match us, hl with | [_, _, _], _ => rfl
  have b15 := F15.binds (ps := ["relation", "values"]) fun _ _ _ _ _ _ us hl => match us, hl with | [_, _], _ => rfl
  have b16 := F16.binds (ps := ["value"]) fun _ _ _ _ _ _ us hl => match us, hl with | [_], _ => rfl
  have b17 := F17.binds (ps := ["value"]) fun _ _ _ _ _ _ us hl => match us, hl with | [_], _ => rfl
  have b18 := F18.binds (ps := ["sums"]) fun _ _ _ _ _ _ us hl => match us, hl with | [_], _ => rfl
  have b19 := F19.binds (ps := ["number"]) fun _ _ _ _ _ _ us hl => match us, hl with | [_], _ => rfl
  have b20 := F20.binds (ps := ["polynomial", "number"]) fun _ _ _ _ _ _ us hl => match us, hl with | [_, _], _ => rfl
  have b21 := F21.binds (ps := ["terms"]) fun _ _ _ _ _ _ us hl => match us, hl with | [_], _ => rfl
  have b22 := F22.binds (ps := ["polynomials"]) fun _ _ _ _ _ _ us hl => match us, hl with | [_], _ => rfl
  have b23 := F23.binds (ps := ["first", "second"]) fun _ _ _ _ _ _ us hl => match us, hl with | [_, _], _ => rfl
  have b24 := F24.binds (ps := ["first", "second"]) fun _ _ _ _ _ _ us hl => match us, hl with | [_, _], _ => rfl
  have b25 := F25.binds (ps := ["first", "second"]) fun _ _ _ _ _ _ us hl => match us, hl with | [_, _], _ => rfl
  have b26 := F26.binds (ps := ["first", "second"]) fun _ _ _ _ _ _ us hl => match us, hl with | [_, _], _ => rfl
  have b27 := F27.binds (ps := ["first", "second"]) fun _ _ _ _ _ _ us hl => match us, hl with | [_, _], _ => rfl
  have b28 := F28.binds (ps := ["x", "y", "a"]) fun _ _ _ _ _ _ us hl => match us, hl with | [_, _, _], _ => rfl
  have b29 := F29.binds (ps := ["k", "a", "numbers"]) fun _ _ _ _ _ _ us hl => match us, hl with | [_, _, _], _ => rfl
  have b30 := F30.binds (ps := ["k", "a", "values"]) fun _ _ _ _ _ _ us hl => match us, hl with | [_, _, _], _ => rfl
  have b31 := F31.binds (ps := ["k", "a"]) fun _ _ _ _ _ _ us hl => match us, hl with | [_, _], _ => rfl
  have b32 := F32.binds (ps := ["actual"]) fun _ _ _ _ _ _ us hl => match us, hl with | [_], _ => rfl
  have b33 := F33.binds (ps := ["number", "count"]) fun _ _ _ _ _ _ us hl => match us, hl with | [_, _], _ => rfl
  have b34 := F34.binds (ps := ["script", "k"]) fun _ _ _ _ _ _ us hl => match us, hl with | [_, _], _ => rfl
  have b35 := F35.binds (ps := ["k", "a", "n"]) fun _ _ _ _ _ _ us hl => match us, hl with | [_, _, _], _ => rfl
  refine ⟨PySem.W.fnOf "law" "law" (defArgs s_law) (defBody s_law) (defScope s_law) .none kV36 dc36 pm36 an36 cd36 ct36, fun s v => .of_eq rfl, fun base _ _ => ?_⟩
  have m_range := PySem.W.mg_none_of X G z_range
  have m_int := PySem.W.mg_none_of X G z_int
  have m_reversed := PySem.W.mg_none_of X G z_reversed
  have m_isinstance := PySem.W.mg_none_of X G z_isinstance
  have m_bool := PySem.W.mg_none_of X G z_bool
  have m_tuple := PySem.W.mg_none_of X G z_tuple
  have m_sorted := PySem.W.mg_none_of X G z_sorted
  have m_all := PySem.W.mg_none_of X G z_all
  have m_dict := PySem.W.mg_none_of X G z_dict
  have m_len := PySem.W.mg_none_of X G z_len
  have m_max := PySem.W.mg_none_of X G z_max
  have m_NAMES := PySem.W.mg_of X G z_NAMES
  have k_NAMES := TupK.of lk_NAMES co_NAMES
  have C__law_pairs : Cal l.prog w K mg base "_law_pairs" 1 ["a", "count"] (sp__law_pairs K) := ⟨_, _, ok__law_pairs F0 m_range, PySem.W.mg_of X G a0, F0.kp, b0⟩
  have C__law_base : Cal l.prog w K mg base "_law_base" 1 ["a", "y", "u"] (sp__law_base K) := ⟨_, _, ok__law_base F1 m_range m_int, PySem.W.mg_of X G a1, F1.kp, b1⟩
  have C__law_due : Cal l.prog w K mg base "_law_due" 2 ["k", "a"] (sp__law_due K) := ⟨_, _, ok__law_due F2 C__law_pairs C__law_base m_range, PySem.W.mg_of X G a2, F2.kp, b2⟩
  have C__doubled : Cal l.prog w K mg base "_doubled" 1 ["x", "y"] (sp__doubled K) := ⟨_, _, ok__doubled F3 , PySem.W.mg_of X G a3, F3.kp, b3⟩
  have C__next : Cal l.prog w K mg base "_next" 1 ["x", "y", "a"] (sp__next K) := ⟨_, _, ok__next F4 , PySem.W.mg_of X G a4, F4.kp, b4⟩
  have C_pair : Cal l.prog w K mg base "pair" 2 ["n", "a"] (sp_pair K) := ⟨_, _, ok_pair F5 C__doubled C__next, PySem.W.mg_of X G a5, F5.kp, b5⟩
  have C__three_pairs : Cal l.prog w K mg base "_three_pairs" 3 ["k", "a"] (sp__three_pairs K) := ⟨_, _, ok__three_pairs F6 C_pair, PySem.W.mg_of X G a6, F6.kp, b6⟩
  have C_witnesses : Cal l.prog w K mg base "witnesses" 4 ["k", "a"] (sp_witnesses K) := ⟨_, _, ok_witnesses F7 C__three_pairs, PySem.W.mg_of X G a7, F7.kp, b7⟩
  have C_unknown : Cal l.prog w K mg base "unknown" 1 ["name"] (sp_unknown K) := ⟨_, _, ok_unknown F8 , PySem.W.mg_of X G a8, F8.kp, b8⟩
  have C_row_member : Cal l.prog w K mg base "row_member" 1 ["n", "a"] (sp_row_member K) := ⟨_, _, ok_row_member F9 m_reversed m_range, PySem.W.mg_of X G a9, F9.kp, b9⟩
  have C__holds_row : Cal l.prog w K mg base "_holds_row" 2 ["y", "n", "a"] (sp__holds_row K) := ⟨_, _, ok__holds_row F10 C_row_member, PySem.W.mg_of X G a10, F10.kp, b10⟩
  have C_value_of : Cal l.prog w K mg base "value_of" 1 ["polynomial", "values"] (sp_value_of K) := ⟨_, _, ok_value_of F11 , PySem.W.mg_of X G a11, F11.kp, b11⟩
  have C__holds_under : Cal l.prog w K mg base "_holds_under" 1 ["a", "b"] (sp__holds_under K) := ⟨_, _, ok__holds_under F12 , PySem.W.mg_of X G a12, F12.kp, b12⟩
  have C_raised : Cal l.prog w K mg base "raised" 1 ["base", "exponent"] (sp_raised K) := ⟨_, _, ok_raised F13 m_reversed m_range, PySem.W.mg_of X G a13, F13.kp, b13⟩
  have C__holds_power : Cal l.prog w K mg base "_holds_power" 2 ["z", "x", "y"] (sp__holds_power K) := ⟨_, _, ok__holds_power F14 C_raised, PySem.W.mg_of X G a14, F14.kp, b14⟩
  have C_holds : Cal l.prog w K mg base "holds" 3 ["relation", "values"] (sp_holds K) := ⟨_, _, ok_holds F15 C__holds_row C_value_of C__holds_under C__holds_power, PySem.W.mg_of X G a15, F15.kp, b15⟩
  have C_is_number : Cal l.prog w K mg base "is_number" 1 ["value"] (sp_is_number K) := ⟨_, _, ok_is_number F16 m_isinstance m_int m_bool, PySem.W.mg_of X G a16, F16.kp, b16⟩
  have C_is_natural : Cal l.prog w K mg base "is_natural" 2 ["value"] (sp_is_natural K) := ⟨_, _, ok_is_natural F17 C_is_number, PySem.W.mg_of X G a17, F17.kp, b17⟩
  have C__without_zeros : Cal l.prog w K mg base "_without_zeros" 1 ["sums"] (sp__without_zeros K) := ⟨_, _, ok__without_zeros F18 , PySem.W.mg_of X G a18, F18.kp, b18⟩
  have C_constant : Cal l.prog w K mg base "constant" 2 ["number"] (sp_constant K) := ⟨_, _, ok_constant F19 C__without_zeros, PySem.W.mg_of X G a19, F19.kp, b19⟩
  have C_scaled : Cal l.prog w K mg base "scaled" 2 ["polynomial", "number"] (sp_scaled K) := ⟨_, _, ok_scaled F20 C__without_zeros, PySem.W.mg_of X G a20, F20.kp, b20⟩
  have C_collected : Cal l.prog w K mg base "collected" 2 ["terms"] (sp_collected K) := ⟨_, _, ok_collected F21 C__without_zeros, PySem.W.mg_of X G a21, F21.kp, b21⟩
  have C_sum_of : Cal l.prog w K mg base "sum_of" 3 ["polynomials"] (sp_sum_of K) := ⟨_, _, ok_sum_of F22 C_collected, PySem.W.mg_of X G a22, F22.kp, b22⟩
  have C_plus : Cal l.prog w K mg base "plus" 4 ["first", "second"] (sp_plus K) := ⟨_, _, ok_plus F23 C_sum_of, PySem.W.mg_of X G a23, F23.kp, b23⟩
  have C_minus : Cal l.prog w K mg base "minus" 5 ["first", "second"] (sp_minus K) := ⟨_, _, ok_minus F24 C_plus C_scaled, PySem.W.mg_of X G a24, F24.kp, b24⟩
  have C_equal : Cal l.prog w K mg base "equal" 6 ["first", "second"] (sp_equal K) := ⟨_, _, ok_equal F25 C_minus, PySem.W.mg_of X G a25, F25.kp, b25⟩
  have C__merged : Cal l.prog w K mg base "_merged" 1 ["first", "second"] (sp__merged K) := ⟨_, _, ok__merged F26 m_tuple m_sorted, PySem.W.mg_of X G a26, F26.kp, b26⟩
  have C_times : Cal l.prog w K mg base "times" 3 ["first", "second"] (sp_times K) := ⟨_, _, ok_times F27 C_collected C__merged, PySem.W.mg_of X G a27, F27.kp, b27⟩
  have C_one_apart : Cal l.prog w K mg base "one_apart" 7 ["x", "y", "a"] (sp_one_apart K) := ⟨_, _, ok_one_apart F28 C_constant C_equal C_minus C_times, PySem.W.mg_of X G a28, F28.kp, b28⟩
  have C_index_equations : Cal l.prog w K mg base "index_equations" 8 ["k", "a", "numbers"] (sp_index_equations K) := ⟨_, _, ok_index_equations F29 C_constant C_scaled C_one_apart C_equal C_times C_plus m_NAMES k_NAMES, PySem.W.mg_of X G a29, F29.kp, b29⟩
  have C_is_witness : Cal l.prog w K mg base "is_witness" 9 ["k", "a", "values"] (sp_is_witness K) := ⟨_, _, ok_is_witness F30 C_unknown C_holds C_is_natural C_index_equations C_constant m_all m_isinstance m_dict m_len m_NAMES k_NAMES, PySem.W.mg_of X G a30, F30.kp, b30⟩
  have C_digits_needed : Cal l.prog w K mg base "digits_needed" 4 ["k", "a"] (sp_digits_needed K) := ⟨_, _, ok_digits_needed F31 C__three_pairs C_raised m_max, PySem.W.mg_of X G a31, F31.kp, b31⟩
  have C__law_is_integer : Cal l.prog w K mg base "_law_is_integer" 1 ["actual"] (sp__law_is_integer K) := ⟨_, _, ok__law_is_integer F32 m_isinstance m_int m_bool, PySem.W.mg_of X G a32, F32.kp, b32⟩
  have C__law_has_figures : Cal l.prog w K mg base "_law_has_figures" 1 ["number", "count"] (sp__law_has_figures K) := ⟨_, _, ok__law_has_figures F33 m_range, PySem.W.mg_of X G a33, F33.kp, b33⟩
  have C__law_cell : Cal l.prog w K mg base "_law_cell" 1 ["script", "k"] (sp__law_cell K) := ⟨_, _, ok__law_cell F34 m_len, PySem.W.mg_of X G a34, F34.kp, b34⟩
  have C__law_holds : Cal l.prog w K mg base "_law_holds" 1 ["k", "a", "n"] (sp__law_holds K) := ⟨_, _, ok__law_holds F35 , PySem.W.mg_of X G a35, F35.kp, b35⟩
  exact ok_law F36 C__law_due C_witnesses C_is_witness C_digits_needed C__law_is_integer C__law_has_figures C__law_cell C__law_holds C__law_pairs m_sorted m_dict m_max m_int m_isinstance m_all m_bool
end RR
open PySem PySem.W PyProof.Rows
set_option maxHeartbeats 0 in
theorem PySem.Challenge.cw_runroots_k41_numbers_that_force_the_inde_holds : PySem.Challenge.rw_runroots_k41_numbers_that_force_the_inde.Holds := by
  w_on; o_law; k_head; (case hw => w_witness2)
  k_fill
  refine L2.walk_of (l := PySem.Challenge.rw_runroots_k41_numbers_that_force_the_inde) (n := 63) (k := 10) (x := "script") (CX := fun _ => L2.CX0) (sp := fun w => RR.sp_law _) rfl (by decide) rfl ⟨rfl, by decide, by decide⟩ (fun w h Y => PySem.W.kIn_of Y) ?F (fun _ _ a ns hl _ hS => ⟨a, ns, rfl, hS, hl, fun _ => rfl⟩) (fun _ _ _ _ _ h => h)
  case F =>
    intro w mg fa h KX G hmg
    refine' RR.all_mk KX G hmg ?a0 ?l0 ?c0 ?k0 ?a1 ?l1 ?c1 ?k1 ?a2 ?l2 ?c2 ?k2 ?a3 ?l3 ?c3 ?k3 ?a4 ?l4 ?c4 ?k4 ?a5 ?l5 ?c5 ?k5 ?a6 ?l6 ?c6 ?k6 ?a7 ?l7 ?c7 ?k7 ?a8 ?l8 ?c8 ?k8 ?a9 ?l9 ?c9 ?k9 ?a10 ?l10 ?c10 ?k10 ?a11 ?l11 ?c11 ?k11 ?a12 ?l12 ?c12 ?k12 ?a13 ?l13 ?c13 ?k13 ?a14 ?l14 ?c14 ?k14 ?a15 ?l15 ?c15 ?k15 ?a16 ?l16 ?c16 ?k16 ?a17 ?l17 ?c17 ?k17 ?a18 ?l18 ?c18 ?k18 ?a19 ?l19 ?c19 ?k19 ?a20 ?l20 ?c20 ?k20 ?a21 ?l21 ?c21 ?k21 ?a22 ?l22 ?c22 ?k22 ?a23 ?l23 ?c23 ?k23 ?a24 ?l24 ?c24 ?k24 ?a25 ?l25 ?c25 ?k25 ?a26 ?l26 ?c26 ?k26 ?a27 ?l27 ?c27 ?k27 ?a28 ?l28 ?c28 ?k28 ?a29 ?l29 ?c29 ?k29 ?a30 ?l30 ?c30 ?k30 ?a31 ?l31 ?c31 ?k31 ?a32 ?l32 ?c32 ?k32 ?a33 ?l33 ?c33 ?k33 ?a34 ?l34 ?c34 ?k34 ?a35 ?l35 ?c35 ?k35 ?a36 ?l36 ?c36 ?k36 ?z_range ?z_int ?z_reversed ?z_isinstance ?z_bool ?z_tuple ?z_sorted ?z_all ?z_dict ?z_len ?z_max ?z_NAMES ?lk_NAMES ?co_NAMES
    (case a0 => k_is); (case l0 => k_is); (case c0 => k_is); (case k0 => k_is); (case a1 => k_is); (case l1 => k_is); (case c1 => k_is); (case k1 => k_is); (case a2 => k_is); (case l2 => k_is); (case c2 => k_is); (case k2 => k_is); (case a3 => k_is); (case l3 => k_is); (case c3 => k_is); (case k3 => k_is); (case a4 => k_is); (case l4 => k_is); (case c4 => k_is); (case k4 => k_is); (case a5 => k_is); (case l5 => k_is); (case c5 => k_is); (case k5 => k_is); (case a6 => k_is); (case l6 => k_is); (case c6 => k_is); (case k6 => k_is); (case a7 => k_is); (case l7 => k_is); (case c7 => k_is); (case k7 => k_is); (case a8 => k_is); (case l8 => k_is); (case c8 => k_is); (case k8 => k_is); (case a9 => k_is); (case l9 => k_is); (case c9 => k_is); (case k9 => k_is); (case a10 => k_is); (case l10 => k_is); (case c10 => k_is); (case k10 => k_is); (case a11 => k_is); (case l11 => k_is); (case c11 => k_is); (case k11 => k_is); (case a12 => k_is); (case l12 => k_is); (case c12 => k_is); (case k12 => k_is); (case a13 => k_is); (case l13 => k_is); (case c13 => k_is); (case k13 => k_is); (case a14 => k_is); (case l14 => k_is); (case c14 => k_is); (case k14 => k_is); (case a15 => k_is); (case l15 => k_is); (case c15 => k_is); (case k15 => k_is); (case a16 => k_is); (case l16 => k_is); (case c16 => k_is); (case k16 => k_is); (case a17 => k_is); (case l17 => k_is); (case c17 => k_is); (case k17 => k_is); (case a18 => k_is); (case l18 => k_is); (case c18 => k_is); (case k18 => k_is); (case a19 => k_is); (case l19 => k_is); (case c19 => k_is); (case k19 => k_is); (case a20 => k_is); (case l20 => k_is); (case c20 => k_is); (case k20 => k_is); (case a21 => k_is); (case l21 => k_is); (case c21 => k_is); (case k21 => k_is); (case a22 => k_is); (case l22 => k_is); (case c22 => k_is); (case k22 => k_is); (case a23 => k_is); (case l23 => k_is); (case c23 => k_is); (case k23 => k_is); (case a24 => k_is); (case l24 => k_is); (case c24 => k_is); (case k24 => k_is); (case a25 => k_is); (case l25 => k_is); (case c25 => k_is); (case k25 => k_is); (case a26 => k_is); (case l26 => k_is); (case c26 => k_is); (case k26 => k_is); (case a27 => k_is); (case l27 => k_is); (case c27 => k_is); (case k27 => k_is); (case a28 => k_is); (case l28 => k_is); (case c28 => k_is); (case k28 => k_is); (case a29 => k_is); (case l29 => k_is); (case c29 => k_is); (case k29 => k_is); (case a30 => k_is); (case l30 => k_is); (case c30 => k_is); (case k30 => k_is); (case a31 => k_is); (case l31 => k_is); (case c31 => k_is); (case k31 => k_is); (case a32 => k_is); (case l32 => k_is); (case c32 => k_is); (case k32 => k_is); (case a33 => k_is); (case l33 => k_is); (case c33 => k_is); (case k33 => k_is); (case a34 => k_is); (case l34 => k_is); (case c34 => k_is); (case k34 => k_is); (case a35 => k_is); (case l35 => k_is); (case c35 => k_is); (case k35 => k_is); (case a36 => k_is); (case l36 => k_is); (case c36 => k_is); (case k36 => k_is); (case z_range => k_is); (case z_int => k_is); (case z_reversed => k_is); (case z_isinstance => k_is); (case z_bool => k_is); (case z_tuple => k_is); (case z_sorted => k_is); (case z_all => k_is); (case z_dict => k_is); (case z_len => k_is); (case z_max => k_is); (case z_NAMES => k_is); (case lk_NAMES => k_is); (case co_NAMES => exact RR.TupO.by_ rfl rfl (by decide) (by repeat (first | exact .nil | refine .cons ⟨_, rfl⟩ ?_)))
