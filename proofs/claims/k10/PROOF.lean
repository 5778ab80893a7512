import PyProof.Rows.All
import PyProof.FString3
import PyProof.Rows.StrIntSpec
import HandS.ForMost
import HandS.FStr
import HandS.Wide
import HandS.WideBits
import HandS.Style
import HandS.Star
import HandS.RevRange
import HandS.EndBits
import HandS.IsInst
import HandS.Deep
import HandS.Gcd
import HandS.Text
import HandS.NoneIn
import HandS.Walk
import HandS.DictComp
import HandS.DictTup
import PyProof.Rows.BitMore
import PySem.Challenge.RW_runroots_k10_digits
set_option Elab.async false
set_option linter.all false
set_option maxRecDepth 100000
set_option maxHeartbeats 16000000
namespace RR
open PySem PySem.Spec PyProof.Rows L2 PySem.Builtin PySem.Builtin.Float
/-- a number's signs to the base two -/
def binL (n : Nat) : List Nat := (Nat.toDigits 2 n).map Char.toNat
def binS (n : Nat) : Str := ⟨(binL n).toArray⟩
def specB : FormatSpec := { align := 62, type := some 98 }
theorem parse_b (k : String) : parseFormatSpec (Str.ofString "b").cps.toList k 62 = .ok specB := rfl
theorem field_b {D : List Nat} (hD : D ≠ []) : intField' specB false [] D [] 4 = ⟨D.toArray⟩ := by
  have e : D.isEmpty = false := by cases D with
    | nil => exact absurd rfl hD
    | cons _ _ => rfl
  have p : ((-1 : Int) - 0 - (D.length : Int)).toNat = 0 := by omega
  simp [intField', specB, e, p]
theorem binL_ne (n : Nat) : binL n ≠ [] := by
  intro h
  have h2 : Nat.toDigits 2 n = [] := List.map_eq_nil_iff.mp h
  have := Nat.length_toDigits_pos (b := 2) (n := n)
  rw [h2] at this
  exact absurd this (by simp)
section
variable {prog : Program} {w : World} {A : Around} {E : Value → Shared → Prop} {s : Shared}
theorem bin_spec {n : Nat} {t : Tok} {Q : Value → Shared → Prop} (hl : (binS n).length ≤ sizeLine)
    (h : Q (.str (binS n) (s.toks + 1)) { s with toks := s.toks + 1 + 1 }) : wpAny (model prog w) A (formatField (.int (n : Int) t) (Str.ofString "b")) Q E s := by
  show wpAny _ _ (holding [Value.int (n : Int) t] (pyFormat (Value.int (n : Int) t) (Str.ofString "b"))) Q E s
  refine wpAny_holding ?_
  unfold pyFormat
  refine wpAny_bind (wpAny_mkStr ?_ (by decide))
  refine wpAny_bind (m := callSpecial? (.int (n : Int) t) (Str.ofString "__format__") [.str (Str.ofString "b") s.toks])
    (wpAny_callSpecial?_slot (name := Str.ofString "__format__") (typeIs_int _ _ t) slot_int_format ?_)
  refine wpAny_call (codeAny_call_builtin slot_int_format.plain entry_int_format
    (slot_int_format.check _ _ _ _ _ _ _ _ (typeIs_int _ _ t) (args_int_format _ _) ?_))
  unfold Builtin.«int.__format__»
  simp only [selfAndOne, noKeywords, Int.intOfSelf, asInt?, asStr?, List.isEmpty_nil, if_true, pure_bind, bind_assoc, Bool.false_eq_true, if_false,
    show ((Str.ofString "b").length == 0) = false by decide,
    show (((Str.ofString "b").cps.toList.drop 1).any (· ≥ 128) || ((Str.ofString "b").cps.getD 0 0 ≥ 128 && !([60, 62, 61, 94] : List Nat).contains ((Str.ofString "b").cps.getD 1 0))) = false by decide,
    show (Value.str (Str.ofString "b") s.toks == Value.none) = false from rfl]
  refine wpAny_bind (wpAny_typeNameOf (T := "str") (typeIs_str _ _ _) (by decide) fun _ => ?_)
  refine wpAny_bind (wpAny_typeNameOfCut_int ?_)
  obtain ⟨f, hf⟩ : ∃ f, f = specB := ⟨_, rfl⟩
  have hty : f.type.getD (if (Str.ofString "b").cps.back? == some 0 then 0 else 100) = 98 := by rw [hf]; rfl
  have hpr : f.precision.isSome = false := by rw [hf]; rfl
  have hz : f.noNeg0 = false := by rw [hf]; rfl
  have hal : f.alt = false := by rw [hf]; rfl
  have hw : f.width.getD 0 = 0 := by rw [hf]; rfl
  simp only [parse_b, ← hf, hty]
  rw [if_pos (by decide)]
  show wpAny _ _ (if _ then _ else _) _ _ _
  rw [if_neg (by simp [hpr])]
  show wpAny _ _ (if _ then _ else _) _ _ _
  rw [if_neg (by simp [hz])]
  show wpAny _ _ (if _ then _ else _) _ _ _
  rw [if_neg (by decide)]
  show wpAny _ _ (if _ then _ else _) _ _ _
  rw [if_neg (by decide)]
  show wpAny _ _ (if _ then _ else _) _ _ _
  rw [if_neg (by simp [hw])]
  show wpAny _ _ (retStr _) _ _ _
  unfold retStr
  have hneg : decide ((n : Int) < 0) = false := decide_eq_false (by omega)
  have key : intField' f (decide ((n : Int) < 0)) (if f.alt = true then [] else []) ((Nat.toDigits 2 (n : Int).natAbs).map fun c => (if (98 : Nat) == 88 then c.toUpper else c).toNat) [] 4 = binS n := by
    rw [hneg, hf]
    exact field_b (binL_ne n)
  have hl2 := key ▸ hl
  have h2 := key ▸ h
  clear h hl
  subst hf
  refine wpAny_bind (wpAny_mkStr (wpAny_pure ?_) hl2)
  exact wpAny_bind (wpAny_isInstance (typeIs_str _ _ _) isSubtype_str_str (wpAny_pure h2))
end
end RR
namespace RR
open PySem PySem.Spec PyProof.Rows L2
section
variable {X : Cx}
/-- f'{x:b}' of an int from 0 on -/
def tFmtB (te : TE) : TE := fun σ H Q => te σ H fun x H1 => ∃ n : Nat, x = .int n ∧ (binS n).length ≤ sizeLine ∧ Q (.str (binS n)) H1
theorem pe_fmtB {e : Expr} {te : TE} {k : Nat} {p1 p2 p3 p4 : Pos} (he : PE X e te) :
    PE X (.JoinedStr [.FormattedValue e (-1) (some (.JoinedStr [.Constant (.str "b") k p1] p2)) p3] p4) (tFmtB te) := by
  refine pe_joined1 ⟨fun pins s σ H Q I h => ?_⟩
  refine wpAny_FormattedValue_spec (thn (he.run pins s σ H _ I h) fun v s1 hv => ?_)
  obtain ⟨x, H1, I1, r1, n, rfl, hl, q⟩ := hv
  obtain ⟨t, rfl⟩ := r1
  refine wpAny_JoinedStr_one (Calls.Constant_str ⟨_, _, rfl, ?_⟩)
  exact bin_spec hl ⟨.str (binS n), H1, (I1.tok _).tok _, ⟨_, rfl⟩, q⟩
end
end RR

namespace RR
open PySem PySem.Spec PyProof.Rows L2
/-- a def of the text, as callers see it -/
structure Cal (P : Program) (w : World) (K : PySem.W.Frag) (mg : Str → Option Value) (base : Heap) (x : Str) (k : Nat) (ps : List Str) (sp : Sp) : Prop where
  ex : ∃ (f : Addr) (fd : FuncData), FnOk P w K mg base L2.CX0 k f fd ps sp ∧ mg x = some (.ref f) ∧ PySem.W.keepIn K (.ref f) = true ∧ Binds K fd ps []
theorem Cal.mk' {P : Program} {w : World} {K : PySem.W.Frag} {mg : Str → Option Value} {base : Heap} {x : Str} {k : Nat} {ps : List Str} {sp : Sp} {f : Addr} {fd : FuncData}
    (F : FnOk P w K mg base L2.CX0 k f fd ps sp) (g : mg x = some (.ref f)) (kp : PySem.W.keepIn K (.ref f) = true) (b : Binds K fd ps []) : Cal P w K mg base x k ps sp := ⟨f, fd, F, g, kp, b⟩
section
variable {X : Cx}
def tCal (sp : Sp) (t : TA) : TE := fun σ H Q => t σ H fun vs H1 => sp vs H1 Q L2.E0
theorem pe_cal {x : Str} {k : Nat} {ps : List Str} {sp : Sp} {p pos : Pos} {e : Expr} {es : List Expr} {t : TA} (C : Cal X.prog X.w X.K X.mg X.base x k ps sp) (hr : Room k X.A) (hg : Gl X x) (ha : PA X (e :: es) t)
    (hdb : (x == ("__debug__" : Str)) = false := by decide) (he : starEach (e :: es) X.env = (false, eval e X.env) :: starEach es X.env := by rfl) (hpl : (backTo pos (starEach es X.env)).any (·.1) = false := by rfl) :
    PE X (.Call (.Name x p) (e :: es) [] pos) (tCal sp t) := by
  obtain ⟨f, fd, F, g, kp, b⟩ := C.ex
  have h := pe_call (p := p) (pos := pos) F hr hg g kp b .nil L2.pass0 ha hdb he hpl
  refine ⟨fun pins s σ H Q I q => h.run pins s σ H Q I ?_⟩
  have e0 : tCall sp [] L2.E0 t σ H Q = tCal sp t σ H Q := by
    unfold tCall tCal
    simp only [List.append_nil]
  rw [e0]
  exact q
end
/-- int(x) of an int -/
theorem call_intI {X : Cx} : CallR X (.type "int") (fun xs H Q => ∃ i, xs = [.int i] ∧ Q (.int i) H) := fun pins s σ H xs us Q I r h => call_int1 pins s σ H xs us Q I r (.inl h)
/-- a loop over a text's signs -/
theorem for_str {x : Str} {g : TG} {tb : TS} {D : Ends} {σ : L2.St} {H : Hp} (Pv : Nat → L2.St → Hp → Prop) (h0 : Pv 0 σ H)
    (hs : ∀ i c σ H, x.cps[i]? = some c → Pv i σ H → g (.str ⟨#[c]⟩) σ H fun σ2 H2 => tb { D with nx := Pv (i + 1), ct := Pv (i + 1), bk := D.nx } σ2 H2) (hd : ∀ σ H, Pv x.cps.size σ H → D.nx σ H) :
    ∃ W : Nat → Nat → L2.St → Hp → Prop, (∃ m, W 0 m σ H) ∧ ∀ i m σ H, W i m σ H →
      ((Its x).stop i H ∧ D.nx σ H) ∨ ((Its x).go i H ∧ ∃ N : L2.St → Hp → Prop, (∀ σ' H', N σ' H' → ∃ m', m' < m ∧ W (i + 1) m' σ' H') ∧ ∀ v H', (Its x).yld i H v H' → g v σ H' fun σ2 H2 => tb { D with nx := N, ct := N, bk := D.nx } σ2 H2) := by
  refine ⟨fun i m σ H => m = x.cps.size - i ∧ i ≤ x.cps.size ∧ Pv i σ H, ⟨x.cps.size, by simp, Nat.zero_le _, h0⟩, ?_⟩
  rintro i m σ H ⟨rfl, hi, p⟩
  by_cases hlt : i < x.cps.size
  · refine .inr ⟨hlt, Pv (i + 1), fun σ' H' p' => ⟨x.cps.size - (i + 1), by omega, rfl, hlt, p'⟩, fun v H' y => ?_⟩
    obtain ⟨e, c, hc, e2⟩ := y
    subst e e2
    exact hs i c σ _ hc p
  · have e : i = x.cps.size := by omega
    subst e
    exact .inl ⟨Nat.le_refl _, hd σ H p⟩
/-- for k in range(n), the turn's number from 0 on -/
theorem for_rng {n : Nat} {g : TG} {tb : TS} {D : Ends} {σ : L2.St} {H : Hp} (Pv : Nat → L2.St → Hp → Prop) (h0 : Pv 0 σ H)
    (hs : ∀ i σ H, i < n → Pv i σ H → g (.int (i : Int)) σ H fun σ2 H2 => tb { D with nx := Pv (i + 1), ct := Pv (i + 1), bk := D.nx } σ2 H2) (hd : ∀ σ H, Pv n σ H → D.nx σ H) :
    ∃ W : Nat → Nat → L2.St → Hp → Prop, (∃ m, W 0 m σ H) ∧ ∀ i m σ H, W i m σ H →
      ((Itr 0 n).stop i H ∧ D.nx σ H) ∨ ((Itr 0 n).go i H ∧ ∃ N : L2.St → Hp → Prop, (∀ σ' H', N σ' H' → ∃ m', m' < m ∧ W (i + 1) m' σ' H') ∧
        ∀ x H', (Itr 0 n).yld i H x H' → g x σ H' fun σ2 H2 => tb { D with nx := N, ct := N, bk := D.nx } σ2 H2) :=
  for_range (lo := 0) (n := n) (g := g) (tb := tb) (D := D) Pv h0 (fun i σ H hi p => by rw [Int.zero_add]; exact hs i σ H hi p) hd
theorem tC_go {v : V} {σ : L2.St} {H : Hp} {Q : VK} (q : Q v H) : tC v σ H Q := q
theorem tNil_go {σ : L2.St} {H : Hp} {Q : List V → Hp → Prop} (q : Q [] H) : tNil σ H Q := q
theorem dV (x y : Int) : decide (V.int x = V.int y) = decide (x = y) := by
  by_cases h : x = y
  · rw [decide_eq_true h, decide_eq_true (by rw [h])]
  · rw [decide_eq_false h, decide_eq_false (fun e => h (V.int.inj e))]
theorem dB (x y : Bool) : decide (V.bl x = V.bl y) = decide (x = y) := by cases x <;> cases y <;> rfl
/-! heaps -/
theorem same_upd {H : Hp} {p : Addr} {o : HO} (h : H p = none) : Same H (upd H p o) := fun b x e => by
  rw [upd_ne (ne_of_none e h)]
  exact e
theorem sq_new {K : PySem.W.Frag} {H : Hp} {p : Addr} {xs : List V} : SqT K (upd H p (.tup xs)) p xs := .inl (.inl upd_same)
theorem sq_of {K : PySem.W.Frag} {H : Hp} {p : Addr} {xs : List V} (h : H p = some (.tup xs)) : SqT K H p xs := .inl (.inl h)
theorem gTup_new {K : PySem.W.Frag} {n : Nat} {t : TGs} {σ : L2.St} {H : Hp} {Q : L2.St → Hp → Prop} {p : Addr} {xs : List V} (h : xs.length = n) (q : t xs σ (upd H p (.tup xs)) Q) :
    gTup K n t (.ref p) σ (upd H p (.tup xs)) Q := ⟨p, xs, rfl, sq_new, h, q⟩
theorem gTup_as {K : PySem.W.Frag} {n : Nat} {t : TGs} {σ : L2.St} {H : Hp} {Q : L2.St → Hp → Prop} {p : Addr} {xs : List V} (hS : SqT K H p xs) (h : xs.length = n) (q : t xs σ H Q) :
    gTup K n t (.ref p) σ H Q := ⟨p, xs, rfl, hS, h, q⟩
theorem ixT_new {K : PySem.W.Frag} {H : Hp} {Q : VK} {p : Addr} {xs : List V} {i : Int} {v : V} (h : atI xs i = some v) (q : Q v (upd H p (.tup xs))) :
    rIxT K (.ref p) (.int i) (upd H p (.tup xs)) Q := ⟨p, xs, i, v, rfl, rfl, sq_new, h, q⟩
theorem ixT_as {K : PySem.W.Frag} {H : Hp} {Q : VK} {p : Addr} {xs : List V} {i : Int} {v : V} (hS : SqT K H p xs) (h : atI xs i = some v) (q : Q v H) :
    rIxT K (.ref p) (.int i) H Q := ⟨p, xs, i, v, rfl, rfl, hS, h, q⟩
theorem ixL_as {K : PySem.W.Frag} {H : Hp} {Q : VK} {p : Addr} {xs : List V} {i : Int} {v : V} (hS : SqL K H p xs) (h : atI xs i = some v) (q : Q v H) :
    rIxL K (.ref p) (.int i) H Q := ⟨p, xs, i, v, rfl, rfl, hS, h, q⟩
/-! sizes -/
/-- below 2 ^ k -/
def Sm (k : Nat) (x : Int) : Prop := x.natAbs < 2 ^ k
theorem Sm.mono {j k : Nat} {x : Int} (h : Sm j x) (l : j ≤ k) : Sm k x := Nat.lt_of_lt_of_le h (Nat.pow_le_pow_right (by omega) l)
theorem Sm.mul {j k : Nat} {x y : Int} (h : Sm j x) (l : Sm k y) : Sm (j + k) (x * y) := wide_lt h l
theorem Sm.add {k : Nat} {x y : Int} (h : Sm k x) (l : Sm k y) : Sm (k + 1) (x + y) := by
  unfold Sm at *
  have : (x + y).natAbs ≤ x.natAbs + y.natAbs := Int.natAbs_add_le x y
  rw [Nat.pow_succ]
  omega
theorem Sm.neg {k : Nat} {x : Int} (h : Sm k x) : Sm k (-x) := by
  unfold Sm at *
  omega
theorem Sm.sub {k : Nat} {x y : Int} (h : Sm k x) (l : Sm k y) : Sm (k + 1) (x - y) := by
  have := h.add l.neg
  rwa [← Int.sub_eq_add_neg] at this
theorem Sm.ad {j k : Nat} {x y : Int} (h : Sm j x) (l : Sm k y) : Sm (j + k + 1) (x + y) := (h.mono (Nat.le_add_right j k)).add (l.mono (Nat.le_add_left k j))
theorem Sm.sb {j k : Nat} {x y : Int} (h : Sm j x) (l : Sm k y) : Sm (j + k + 1) (x - y) := (h.mono (Nat.le_add_right j k)).sub (l.mono (Nat.le_add_left k j))
theorem Sm.lit {k : Nat} {x : Int} (h : x.natAbs < 2 ^ k := by decide) : Sm k x := h
theorem Sm.le {k : Nat} {x y : Int} (h : Sm k y) (h0 : 0 ≤ x) (h1 : x ≤ y) : Sm k x := by
  unfold Sm at *
  omega
theorem Sm.pw {j : Nat} {x : Int} (h : Sm j x) (n : Nat) : Sm (j * n + 1) (x ^ n) := by
  induction n with
  | zero => rw [Int.pow_zero]; exact (Sm.lit (k := 1)).mono (by omega)
  | succ n ih => rw [Int.pow_succ]; exact (ih.mul h).mono (by rw [Nat.mul_succ]; omega)
/-- what * asks -/
theorem Sm.mx {j k : Nat} {x y : Int} (h : Sm j x) (l : Sm k y) (b : j + k ≤ 134217728) : CMulX x y := mulx_ok h l b
end RR

namespace RR
open PySem PySem.Spec PyProof.Rows L2
/-- a tuple of two ints -/
def Tp (K : PySem.W.Frag) (H : Hp) (v : V) (x y : Int) : Prop := ∃ p, v = .ref p ∧ SqT K H p [.int x, .int y]
theorem Tp.of {K : PySem.W.Frag} {H : Hp} {p : Addr} {x y : Int} (h : H p = some (.tup [.int x, .int y])) : Tp K H (.ref p) x y := ⟨p, rfl, sq_of h⟩
theorem dp2 {K : PySem.W.Frag} {H : Hp} {v : V} {x y : Int} (h : Tp K H v x y) : Dp K H v (.tuple [.int x, .int y]) := by
  obtain ⟨p, rfl, h⟩ := h
  exact .tup h (.cons (.int x) (.cons (.int y) .nil))
theorem eqv2 (x y u v : Int) : PyData.eqv (.tuple [.int x, .int y]) (.tuple [.int u, .int v]) = (decide (x = u) && decide (y = v)) := by
  simp only [PyData.eqv, PyData.eqvAll, Bool.and_true]
  rfl
section
variable {X : Cx}
/-- ==, != of two tuples of two ints -/
theorem op_eq2 (hu : X.A.units + 64 < cLine) : OpR X (compareOp .Eq) (fun x y H Q => ∃ a b c d, Tp X.K H x a b ∧ Tp X.K H y c d ∧ Q (.bl (decide (a = c) && decide (b = d))) H) := by
  intro pins s σ H x y v u Q I rx ry h
  obtain ⟨a, b, c, d, h1, h2, q⟩ := h
  exact op_eqD hu pins s σ H x y v u Q I rx ry ⟨_, _, dp2 h1, dp2 h2, rfl, rfl, by rw [eqv2]; exact q⟩
theorem op_ne2 (hu : X.A.units + 64 < cLine) : OpR X (compareOp .NotEq) (fun x y H Q => ∃ a b c d, Tp X.K H x a b ∧ Tp X.K H y c d ∧ Q (.bl (!(decide (a = c) && decide (b = d)))) H) := by
  intro pins s σ H x y v u Q I rx ry h
  obtain ⟨a, b, c, d, h1, h2, q⟩ := h
  exact op_neD hu pins s σ H x y v u Q I rx ry ⟨_, _, dp2 h1, dp2 h2, rfl, rfl, by rw [eqv2]; exact q⟩
/-- a ** b of a great int -/
def CPowW (i j : Int) : Prop := 0 ≤ j ∧ (Builtin.Int.intBits i : Int) * j ≤ 2 ^ 27
theorem op_powW : OpR X (binaryOp .Pow) (rI CPowW fun i j => .int (i ^ j.toNat)) := opI fun i j _ _ _ _ _ hc q => pow_int hc.1 hc.2 q
/-- isinstance of an int -/
theorem isi_int : CallR X (.builtin "isinstance") (fun xs H Q => ∃ i : Int, xs = [.int i, .ty "int"] ∧ Q (.bl true) H) := by
  intro pins s σ H xs us Q I r h
  obtain ⟨i, rfl, q⟩ := h
  exact call_isi pins s σ H _ us Q I r ⟨.int i, .ty "int", .type "int", .type "int", true, rfl, .ty "int", .base (.int i), kit_ty (by decide +kernel), q⟩
theorem isi_bool : CallR X (.builtin "isinstance") (fun xs H Q => ∃ i : Int, xs = [.int i, .ty "bool"] ∧ Q (.bl false) H) := by
  intro pins s σ H xs us Q I r h
  obtain ⟨i, rfl, q⟩ := h
  exact call_isi pins s σ H _ us Q I r ⟨.int i, .ty "bool", .type "int", .type "bool", false, rfl, .ty "bool", .base (.int i), kit_ty (by decide +kernel), q⟩
theorem isi_list : CallR X (.builtin "isinstance") (fun xs H Q => ∃ (a : Addr) (ys : List V), xs = [.ref a, .ty "list"] ∧ H a = some (.lst ys) ∧ Q (.bl true) H) := by
  intro pins s σ H xs us Q I r h
  obtain ⟨a, ys, rfl, e, q⟩ := h
  exact call_isi pins s σ H _ us Q I r ⟨.ref a, .ty "list", .type "list", .type "list", true, rfl, .ty "list", .base (.lst e), kit_ty (by decide +kernel), q⟩
theorem isi_tup : CallR X (.builtin "isinstance") (fun xs H Q => ∃ (a : Addr) (ys : List V), xs = [.ref a, .ty "tuple"] ∧ H a = some (.tup ys) ∧ Q (.bl true) H) := by
  intro pins s σ H xs us Q I r h
  obtain ⟨a, ys, rfl, e, q⟩ := h
  exact call_isi pins s σ H _ us Q I r ⟨.ref a, .ty "tuple", .type "tuple", .type "tuple", true, rfl, .ty "tuple", .base (.tup e), kit_ty (by decide +kernel), q⟩
end
/-- an if and what follows it, once -/
theorem split_if {c : Prop} [Decidable c] {t u : TS} {D : Ends} {σ : L2.St} {H : Hp} (R : L2.St → Hp → Prop) (hR : ∀ σ' H', R σ' H' → D.nx σ' H')
    (h : ∀ D' : Ends, (∀ σ' H', R σ' H' → D'.nx σ' H') → if c then t D' σ H else u D' σ H) : if c then t D σ H else u D σ H := h D hR
theorem sm_bits {z : Int} {k : Nat} (h : Builtin.Int.intBits z ≤ k) : Sm k z := by
  unfold Builtin.Int.intBits at h
  unfold Sm
  split at h
  · rename_i e
    have e0 : z = 0 := by simpa using e
    subst e0
    exact Nat.two_pow_pos k
  · exact Nat.lt_of_lt_of_le Nat.lt_log2_self (Nat.pow_le_pow_right (by decide) h)
theorem getD_bits {ns : List Int} {k : Nat} (h : ∀ z ∈ ns, Builtin.Int.intBits z ≤ k) (i : Nat) : Sm k (ns.getD i 0) := by
  rw [List.getD_eq_getElem?_getD]
  cases e : ns[i]? with
  | none => exact Nat.two_pow_pos k
  | some z => exact sm_bits (h z (List.mem_of_getElem? e))
end RR

namespace RR
/-! the pairs of a base -/
def XY (a : Int) : Nat → Int × Int
  | 0 => (1, 0)
  | n + 1 => (a * (XY a n).1 + (a * a - 1) * (XY a n).2, (XY a n).1 + a * (XY a n).2)
def px (a : Int) (n : Nat) : Int := (XY a n).1
def py (a : Int) (n : Nat) : Int := (XY a n).2
theorem px0 (a : Int) : px a 0 = 1 := rfl
theorem py0 (a : Int) : py a 0 = 0 := rfl
theorem px1 (a : Int) (n : Nat) : px a (n + 1) = a * px a n + (a * a - 1) * py a n := rfl
theorem py1 (a : Int) (n : Nat) : py a (n + 1) = px a n + a * py a n := rfl
theorem pell (a : Int) (n : Nat) : px a n * px a n - (a * a - 1) * (py a n * py a n) = 1 := by
  induction n with
  | zero => rw [px0, py0]; omega
  | succ n ih => rw [px1, py1]; grind
theorem pxy_add (a : Int) (m n : Nat) : px a (m + n) = px a m * px a n + (a * a - 1) * (py a m * py a n) ∧ py a (m + n) = px a m * py a n + py a m * px a n := by
  induction n with
  | zero => rw [px0, py0, Nat.add_zero]; constructor <;> grind
  | succ n ih =>
    obtain ⟨h1, h2⟩ := ih
    rw [← Nat.add_assoc, px1, py1, px1, py1, h1, h2]
    constructor <;> grind
theorem px_dbl (a : Int) (n : Nat) : px a (2 * n) = 2 * px a n * px a n - 1 := by
  rw [Nat.two_mul, (pxy_add a n n).1]
  have := pell a n
  grind
theorem py_dbl (a : Int) (n : Nat) : py a (2 * n) = 2 * px a n * py a n := by
  rw [Nat.two_mul, (pxy_add a n n).2]
  grind
theorem pxy_pos {a : Int} (ha : 2 ≤ a) (n : Nat) : 0 ≤ py a n ∧ py a n < px a n := by
  induction n with
  | zero => rw [px0, py0]; omega
  | succ n ih =>
    obtain ⟨h1, h2⟩ := ih
    rw [px1, py1]
    have e1 : a * a ≥ 2 * a := Int.mul_le_mul_of_nonneg_right ha (by omega)
    have e2 : a * px a n ≥ 2 * px a n := Int.mul_le_mul_of_nonneg_right ha (by omega)
    have e3 : (a * a - 1) * py a n ≥ a * py a n := Int.mul_le_mul_of_nonneg_right (by omega) h1
    have e4 : 0 ≤ a * py a n := Int.mul_nonneg (by omega) h1
    omega
theorem px_mono1 {a : Int} (ha : 2 ≤ a) (n : Nat) : px a n ≤ px a (n + 1) := by
  obtain ⟨h1, h2⟩ := pxy_pos ha n
  rw [px1]
  have e1 : a * a ≥ 2 * a := Int.mul_le_mul_of_nonneg_right ha (by omega)
  have e2 : a * px a n ≥ 2 * px a n := Int.mul_le_mul_of_nonneg_right ha (by omega)
  have e3 : 0 ≤ (a * a - 1) * py a n := Int.mul_nonneg (by omega) h1
  omega
theorem px_mono {a : Int} (ha : 2 ≤ a) {m n : Nat} (h : m ≤ n) : px a m ≤ px a n := by
  induction h with
  | refl => exact Int.le_refl _
  | step _ ih => exact Int.le_trans ih (px_mono1 ha _)
/-! signs to the base two -/
def bval (l : List Nat) : Nat := l.foldl (fun v c => 2 * v + (c - 48)) 0
theorem bval_snoc (l : List Nat) (c : Nat) : bval (l ++ [c]) = 2 * bval l + (c - 48) := by
  unfold bval
  rw [List.foldl_append]
  rfl
theorem dig2 {d : Nat} (h : d < 2) : (Nat.digitChar d).toNat = 48 + d := by
  match d, h with
  | 0, _ => rfl
  | 1, _ => rfl
theorem binL_lt {n : Nat} (h : n < 2) : binL n = [48 + n] := by
  unfold binL
  rw [Nat.toDigits_of_lt_base h, List.map_singleton, dig2 h]
theorem binL_ge {n : Nat} (h : 2 ≤ n) : binL n = binL (n / 2) ++ [48 + n % 2] := by
  unfold binL
  rw [Nat.toDigits_of_base_le (by decide) h, List.map_append, List.map_singleton, dig2 (Nat.mod_lt _ (by decide))]
theorem bval_bin (n : Nat) : bval (binL n) = n := by
  induction n using Nat.strongRecOn with
  | ind n ih =>
    by_cases h : n < 2
    · rw [binL_lt h]
      show 2 * 0 + (48 + n - 48) = n
      omega
    · rw [binL_ge (by omega), bval_snoc, ih (n / 2) (by omega)]
      omega
theorem bin_mem (n : Nat) : ∀ c ∈ binL n, c = 48 ∨ c = 49 := by
  induction n using Nat.strongRecOn with
  | ind n ih =>
    intro c hc
    by_cases h : n < 2
    · rw [binL_lt h, List.mem_singleton] at hc
      omega
    · rw [binL_ge (by omega), List.mem_append, List.mem_singleton] at hc
      rcases hc with hc | hc
      · exact ih (n / 2) (by omega) c hc
      · omega
theorem bval_take {l : List Nat} {i c : Nat} (h : l[i]? = some c) : bval (l.take (i + 1)) = 2 * bval (l.take i) + (c - 48) := by
  rw [List.take_add_one, h]
  exact bval_snoc _ c
theorem fold_ge (m : List Nat) : ∀ v : Nat, v ≤ m.foldl (fun v c => 2 * v + (c - 48)) v := by
  induction m with
  | nil => intro v; exact Nat.le_refl _
  | cons c m ih =>
    intro v
    have := ih (2 * v + (c - 48))
    rw [List.foldl_cons]
    omega
theorem bval_app (l m : List Nat) : bval l ≤ bval (l ++ m) := by
  unfold bval
  rw [List.foldl_append]
  exact fold_ge m _
theorem bval_le (l : List Nat) (i : Nat) : bval (l.take i) ≤ bval l := by
  have := bval_app (l.take i) (l.drop i)
  rwa [List.take_append_drop] at this
theorem bin_len {n k : Nat} (h : n < 2 ^ k) (hk : 0 < k) : (binS n).length ≤ k := by
  show (binL n).toArray.size ≤ k
  rw [List.size_toArray]
  unfold binL
  rw [List.length_map]
  exact (Nat.length_toDigits_le_iff (by decide) hk).mpr h
end RR
namespace RR
theorem rest_dx (a : Int) (v : Nat) (m : Int) : (2 * (px a v % m) * (px a v % m) - 1) % m = (2 * px a v * px a v - 1) % m := by
  rw [Int.sub_emod, Int.mul_emod, Int.mul_emod 2, Int.emod_emod, ← Int.mul_emod 2, ← Int.mul_emod, ← Int.sub_emod]
theorem rest_dy (a : Int) (v : Nat) (m : Int) : (2 * (px a v % m) * (py a v % m)) % m = (2 * px a v * py a v) % m := by
  rw [Int.mul_emod, Int.mul_emod 2, Int.emod_emod, Int.emod_emod, ← Int.mul_emod 2, ← Int.mul_emod]
theorem modeq {m a b : Int} (k : Int) (h : a - b = m * k) : a % m = b % m :=
  Int.emod_eq_emod_iff_emod_sub_eq_zero.mpr (Int.emod_eq_zero_of_dvd ⟨k, h⟩)
theorem rest_nx (a x y m : Int) : (a * x + (a * a - 1) * y) % m = ((a % m) * (x % m) + ((a % m) * (a % m) - 1) * (y % m)) % m := by
  have h1 := Int.mul_ediv_add_emod a m
  have h2 := Int.mul_ediv_add_emod x m
  have h3 := Int.mul_ediv_add_emod y m
  generalize a % m = A at *
  generalize x % m = X at *
  generalize y % m = Y at *
  generalize a / m = q1 at *
  generalize x / m = q2 at *
  generalize y / m = q3 at *
  exact modeq (q1 * x + A * q2 + (a * a - 1) * q3 + q1 * (a + A) * Y) (by grind)
theorem rest_ny (a x y m : Int) : (x + a * y) % m = ((x % m) + (a % m) * (y % m)) % m := by
  have h1 := Int.mul_ediv_add_emod a m
  have h2 := Int.mul_ediv_add_emod x m
  have h3 := Int.mul_ediv_add_emod y m
  generalize a % m = A at *
  generalize x % m = X at *
  generalize y % m = Y at *
  generalize a / m = q1 at *
  generalize x / m = q2 at *
  generalize y / m = q3 at *
  exact modeq (q2 + q1 * y + A * q3) (by grind)
end RR
namespace RR
theorem px_step {a : Int} (ha : 2 ≤ a) (n : Nat) : (a * a - 1) * py a n ≤ a * px a n := by
  induction n with
  | zero => rw [px0, py0]; omega
  | succ n ih =>
    obtain ⟨h1, h2⟩ := pxy_pos ha n
    rw [px1, py1]
    have : a * (a * px a n + (a * a - 1) * py a n) - (a * a - 1) * (px a n + a * py a n) = px a n := by grind
    omega
theorem px_pow {a : Int} (ha : 2 ≤ a) (n : Nat) : px a n ≤ (2 * a) ^ n := by
  induction n with
  | zero => rw [px0, Int.pow_zero]; exact Int.le_refl _
  | succ n ih =>
    have h := px_step ha n
    rw [px1, Int.pow_succ]
    have e := Int.mul_le_mul_of_nonneg_right ih (show 0 ≤ 2 * a by omega)
    have : px a n * (2 * a) = a * px a n + a * px a n := by grind
    omega
theorem px_nat {a : Int} (ha : 2 ≤ a) (n B : Nat) (hB : 2 * a ≤ 2 ^ B) : (px a n).natAbs < 2 ^ (B * n + 1) := by
  have h := px_pow ha n
  have h0 := pxy_pos ha n
  have h2 : (2 * a) ^ n ≤ ((2 : Int) ^ B) ^ n := by
    have hp : ∀ k : Nat, (2 * a) ^ k ≤ ((2 : Int) ^ B) ^ k ∧ 0 ≤ (2 * a) ^ k := by
      intro k
      induction k with
      | zero => exact ⟨by rw [Int.pow_zero, Int.pow_zero]; exact Int.le_refl _, by rw [Int.pow_zero]; decide⟩
      | succ k ih =>
        rw [Int.pow_succ, Int.pow_succ]
        exact ⟨Int.mul_le_mul ih.1 hB (by omega) (Int.le_trans ih.2 ih.1), Int.mul_nonneg ih.2 (by omega)⟩
    exact (hp n).1
  have e : ((2 : Int) ^ B) ^ n = ((2 ^ (B * n) : Nat) : Int) := by
    rw [← Int.pow_mul]
    exact (Int.natCast_pow 2 (B * n)).symm
  rw [e] at h2
  rw [Nat.pow_succ]
  generalize (2 : Nat) ^ (B * n) = P at *
  omega
/-- what a power of x leaves -/
theorem px_power (a x : Int) (n : Nat) : ∃ k, px a n - py a n * (a - x) - x ^ n = (2 * a * x - x * x - 1) * k := by
  induction n with
  | zero => exact ⟨0, by rw [px0, py0, Int.pow_zero]; omega⟩
  | succ n ih =>
    obtain ⟨k, hk⟩ := ih
    refine ⟨x * k + py a n, ?_⟩
    rw [px1, py1, Int.pow_succ]
    grind
theorem px_cong (a b m : Int) (k : Int) (h : a - b = m * k) (n : Nat) : (∃ q, px a n - px b n = m * q) ∧ ∃ q, py a n - py b n = m * q := by
  induction n with
  | zero => exact ⟨⟨0, by rw [px0, px0]; omega⟩, ⟨0, by rw [py0, py0]; omega⟩⟩
  | succ n ih =>
    obtain ⟨⟨q, hq⟩, ⟨r, hr⟩⟩ := ih
    refine ⟨⟨k * px a n + b * q + (a * a - 1) * r + k * (a + b) * py b n, ?_⟩, ⟨q + k * py a n + b * r, ?_⟩⟩
    · rw [px1, px1]; grind
    · rw [py1, py1]; grind
end RR
namespace RR
theorem px_rec (a : Int) (k : Nat) : px a (k + 2) = 2 * a * px a (k + 1) - px a k := by
  rw [px1 a (k + 1), px1, py1]; grind
theorem py_rec (a : Int) (k : Nat) : py a (k + 2) = 2 * a * py a (k + 1) - py a k := by
  rw [py1 a (k + 1), px1, py1]; grind
theorem rest_rec {a m x2 X2 x1 X1 : Int} (h2 : x2 % m = X2 % m) (h1 : x1 % m = X1 % m) : (2 * a * x2 - x1) % m = (2 * a * X2 - X1) % m := by
  have e1 := Int.mul_ediv_add_emod x2 m
  have e2 := Int.mul_ediv_add_emod X2 m
  have e3 := Int.mul_ediv_add_emod x1 m
  have e4 := Int.mul_ediv_add_emod X1 m
  rw [h2] at e1
  rw [h1] at e3
  generalize X2 % m = A at *
  generalize X1 % m = B at *
  exact modeq (2 * a * (x2 / m - X2 / m) - (x1 / m - X1 / m)) (by grind)
theorem rest_dx' {a x : Int} {v : Nat} {m : Int} (h : x % m = px a v % m) : (2 * x * x - 1) % m = px a (2 * v) % m := by
  rw [px_dbl, ← rest_dx a v m, ← h]
  have e1 := Int.mul_ediv_add_emod x m
  generalize x % m = A at *
  exact modeq (2 * (x / m) * (x + A)) (by grind)
theorem rest_dy' {a x y : Int} {v : Nat} {m : Int} (h : x % m = px a v % m) (h' : y % m = py a v % m) : (2 * x * y) % m = py a (2 * v) % m := by
  rw [py_dbl, ← rest_dy a v m, ← h, ← h']
  have e1 := Int.mul_ediv_add_emod x m
  have e2 := Int.mul_ediv_add_emod y m
  generalize x % m = A at *
  generalize y % m = B at *
  exact modeq (2 * (x / m) * y + 2 * A * (y / m)) (by grind)
theorem rest_nx' {a x y : Int} {v : Nat} {m : Int} (h : x % m = px a v % m) (h' : y % m = py a v % m) : (a * x + (a * a - 1) * y) % m = px a (v + 1) % m := by
  rw [px1, rest_nx a x y, rest_nx a (px a v), h, h']
theorem rest_ny' {a x y : Int} {v : Nat} {m : Int} (h : x % m = px a v % m) (h' : y % m = py a v % m) : (x + a * y) % m = py a (v + 1) % m := by
  rw [py1, rest_ny a x y, rest_ny a (px a v), h, h']
/-- the value of signs, the lowest first -/
def lval : List Int → Nat
  | [] => 0
  | d :: r => d.toNat + 2 * lval r
theorem lval_app (l : List Int) (d : Int) : lval (l ++ [d]) = lval l + 2 ^ l.length * d.toNat := by
  induction l with
  | nil => show d.toNat + 2 * 0 = 0 + 2 ^ 0 * d.toNat; omega
  | cons c l ih =>
    show c.toNat + 2 * lval (l ++ [d]) = c.toNat + 2 * lval l + 2 ^ (l.length + 1) * d.toNat
    rw [ih, Nat.pow_succ, Nat.mul_add, Nat.mul_comm (2 ^ l.length) 2, Nat.mul_assoc]
    omega
theorem lval_drop {l : List Int} {i : Nat} {d : Int} (h : l[i]? = some d) : lval (l.drop i) = d.toNat + 2 * lval (l.drop (i + 1)) := by
  obtain ⟨hi, e⟩ := List.getElem?_eq_some_iff.mp h
  rw [List.drop_eq_getElem_cons hi, e]
  rfl
end RR
namespace RR
theorem rest_addx (a m : Int) (i j : Nat) : ((px a i % m) * (px a j % m) + (a * a - 1) * (py a i % m) * (py a j % m)) % m = px a (i + j) % m := by
  rw [(pxy_add a i j).1]
  have e1 := Int.mul_ediv_add_emod (px a i) m
  have e2 := Int.mul_ediv_add_emod (px a j) m
  have e3 := Int.mul_ediv_add_emod (py a i) m
  have e4 := Int.mul_ediv_add_emod (py a j) m
  generalize px a i % m = A at *
  generalize px a j % m = B at *
  generalize py a i % m = C at *
  generalize py a j % m = D at *
  exact (modeq ((px a i / m) * px a j + A * (px a j / m) + (a * a - 1) * ((py a i / m) * py a j + C * (py a j / m))) (by grind)).symm
theorem rest_addy (a m : Int) (i j : Nat) : ((px a i % m) * (py a j % m) + (py a i % m) * (px a j % m)) % m = py a (i + j) % m := by
  rw [(pxy_add a i j).2]
  have e1 := Int.mul_ediv_add_emod (px a i) m
  have e2 := Int.mul_ediv_add_emod (px a j) m
  have e3 := Int.mul_ediv_add_emod (py a i) m
  have e4 := Int.mul_ediv_add_emod (py a j) m
  generalize px a i % m = A at *
  generalize px a j % m = B at *
  generalize py a i % m = C at *
  generalize py a j % m = D at *
  exact (modeq ((px a i / m) * py a j + A * (py a j / m) + (py a i / m) * px a j + C * (px a j / m)) (by grind)).symm
end RR
namespace RR
theorem sq_lt {g k e : Nat} (h : g < 2 ^ e) (hk : k < 4) (he : 3 ≤ e) : g * g + k < 2 ^ (e * 2) := by
  have h8 : 2 ^ 3 ≤ 2 ^ e := Nat.pow_le_pow_right (by decide) he
  rw [Nat.pow_mul, Nat.pow_two]
  generalize 2 ^ e = P at *
  have h1 := Nat.mul_le_mul (show g + 1 ≤ P from h) (show g + 1 ≤ P from h)
  have h2 := Nat.mul_le_mul h8 h8
  have h3 : (g + 1) * (g + 1) = g * g + 2 * g + 1 := by grind
  by_cases hg : g < 2
  · have : g * g ≤ 1 * 1 := Nat.mul_le_mul (by omega) (by omega)
    omega
  · omega
end RR

namespace RR
open PySem PySem.Spec PyProof.Rows L2
section
variable {X : Cx}
/-- f(*y) -/
theorem pe_calS {x : Str} {k : Nat} {ps : List Str} {sp : Sp} {p pos sp_ : Pos} {e : Expr} {te : TE} (C : Cal X.prog X.w X.K X.mg X.base x k ps sp) (hr : Room k X.A) (hg : Gl X x) (he : PE X e te)
    (hd : (x == ("__debug__" : Str)) = false := by decide) (hst : starEach [.Starred e sp_] X.env = [(true, eval e X.env)] := by rfl) :
    PE X (.Call (.Name x p) [.Starred e sp_] [] pos) (fun σ H Q => te σ H fun y H1 => ∃ a xs, y = V.ref a ∧ (SqT X.K H1 a xs ∨ SqL X.K H1 a xs) ∧ sp xs H1 Q L2.E0) := by
  obtain ⟨f, fd, F, g, kp, b⟩ := C.ex
  have h := StX.pe_callS1 (p := p) (pos := pos) (sp_ := sp_) (F.raw b .nil) hr kp hg g L2.pass0 he hd hst
  refine ⟨fun pins s σ H Q I q => h.run pins s σ H Q I ?_⟩
  simp only [List.append_nil]
  exact q
end
/-- for x in reversed(xs) -/
theorem for_rev {K : PySem.W.Frag} {a : Addr} {xs : List V} {g : TG} {tb : TS} {D : Ends} {σ : L2.St} {H : Hp} (Pv : Nat → L2.St → Hp → Prop) (h0 : Pv 0 σ H) (hl : ∀ i σ H, i ≤ xs.length → Pv i σ H → SqL K H a xs)
    (hs : ∀ i x σ H, i < xs.length → xs[xs.length - 1 - i]? = some x → Pv i σ H → g x σ H fun σ2 H2 => tb { D with nx := Pv (i + 1), ct := Pv (i + 1), bk := D.nx } σ2 H2) (hd : ∀ σ H, Pv xs.length σ H → D.nx σ H) :
    ∃ W : Nat → Nat → L2.St → Hp → Prop, (∃ m, W 0 m σ H) ∧ ∀ i m σ H, W i m σ H →
      ((Itv K a xs.length).stop i H ∧ D.nx σ H) ∨ ((Itv K a xs.length).go i H ∧ ∃ N : L2.St → Hp → Prop, (∀ σ' H', N σ' H' → ∃ m', m' < m ∧ W (i + 1) m' σ' H') ∧
        ∀ x H', (Itv K a xs.length).yld i H x H' → g x σ H' fun σ2 H2 => tb { D with nx := N, ct := N, bk := D.nx } σ2 H2) := by
  refine ⟨fun i m σ H => m = xs.length - i ∧ i ≤ xs.length ∧ Pv i σ H, ⟨xs.length, by simp, Nat.zero_le _, h0⟩, ?_⟩
  rintro i m σ H ⟨rfl, hi, p⟩
  have q := hl i σ H hi p
  by_cases hlt : i < xs.length
  · have hix : xs[xs.length - 1 - i]? = some (xs[xs.length - 1 - i]'(by omega)) := List.getElem?_eq_getElem (by omega)
    refine .inr ⟨⟨hlt, xs, _, q, hix⟩, Pv (i + 1), fun σ' H' p' => ⟨xs.length - (i + 1), by omega, rfl, hlt, p'⟩, fun x H' y => ?_⟩
    obtain ⟨e, y⟩ := y
    subst e
    exact hs i x σ _ hlt (y xs q) p
  · have e : i = xs.length := by omega
    subst e
    exact .inl ⟨Nat.le_refl _, hd σ H p⟩
theorem Same.new {H H1 : Hp} {p : Addr} {o : HO} (s : Same H H1) (h : H p = none) : Same H (upd H1 p o) := fun b u e => by
  rw [upd_ne (ne_of_none e h)]
  exact s b u e
theorem px_ge {a : Int} (ha : 2 ≤ a) (n : Nat) : ((2 ^ n : Nat) : Int) ≤ px a n := by
  induction n with
  | zero => rw [px0]; decide
  | succ n ih =>
    obtain ⟨h1, h2⟩ := pxy_pos ha n
    rw [px1]
    have e1 : a * a ≥ 2 * a := Int.mul_le_mul_of_nonneg_right ha (by omega)
    have e2 : a * px a n ≥ 2 * px a n := Int.mul_le_mul_of_nonneg_right ha (by omega)
    have e3 : 0 ≤ (a * a - 1) * py a n := Int.mul_nonneg (by omega) h1
    rw [Nat.pow_succ]
    push_cast at *
    omega
theorem px_ix {a : Int} (ha : 2 ≤ a) {n B : Nat} (h : Sm B (px a n)) : n < B := by
  have h1 := px_ge ha n
  have h2 := pxy_pos ha n
  unfold Sm at h
  by_cases c : n < B
  · exact c
  · have := Nat.pow_le_pow_right (n := 2) (by decide) (show B ≤ n by omega)
    omega
theorem app_go {H : Hp} {Q : VK} {p : Addr} {v : V} {xs : List V} (h : H p = some (.lst xs)) (hl : xs.length < sizeLine) (q : Q .non (upd H p (.lst (xs ++ [v])))) : rAppend (.ref p) [v] H Q :=
  ⟨p, xs, v, rfl, rfl, h, hl, q⟩
theorem atI_neg {α : Type} {xs : List α} {k : Nat} {v : α} (h0 : 0 < k) (hk : k ≤ xs.length) (h : xs[xs.length - k]? = some v) : atI xs (-(k : Int)) = some v := by
  unfold atI ixN
  rw [if_neg (by omega), if_pos (by omega)]
  show xs[(-(k : Int) + xs.length).toNat]? = some v
  rw [show (-(k : Int) + xs.length).toNat = xs.length - k by omega]
  exact h
theorem cut_take (xs : List V) (n : Nat) (h : n ≤ xs.length) : cutV xs none (some (n : Int)) = xs.take n := by
  unfold cutV
  rw [HT.sIx_none, HT.sIx_nat, Nat.min_eq_left h, List.drop_zero, Nat.sub_zero]
theorem cut_mid (xs : List V) (i j : Nat) (hi : i ≤ xs.length) (hj : j ≤ xs.length) : cutV xs (some (i : Int)) (some (j : Int)) = (xs.drop i).take (j - i) := by
  unfold cutV
  rw [HT.sIx_nat, HT.sIx_nat, Nat.min_eq_left hi, Nat.min_eq_left hj]
/-- at L a list of the pairs with the indexes 0, 1, .. -/
def PL (a : Int) (H : Hp) (L : Addr) (n : Nat) : Prop := ∃ ps : List Addr, ps.length = n ∧ H L = some (.lst (ps.map V.ref)) ∧ ∀ (i : Nat) (p : Addr), ps[i]? = some p → H p = some (.tup [.int (px a i), .int (py a i)])
theorem PL.keep {a : Int} {H H' : Hp} {L : Addr} {n : Nat} (h : PL a H L n) (s : Same H H') : PL a H' L n := by
  obtain ⟨ps, e, hL, hp⟩ := h
  exact ⟨ps, e, s _ _ hL, fun i p hi => s _ _ (hp i p hi)⟩
theorem PL.at {K : PySem.W.Frag} {a : Int} {H : Hp} {L : Addr} {n : Nat} (h : PL a H L n) {Q : VK} {i : Nat} (hi : i < n) (q : ∀ p, H p = some (.tup [.int (px a i), .int (py a i)]) → Q (.ref p) H) :
    rIxL K (.ref L) (.int (i : Int)) H Q := by
  obtain ⟨ps, e, hL, hp⟩ := h
  have h1 : ps[i]? = some (ps[i]'(by omega)) := List.getElem?_eq_getElem (by omega)
  exact ixL_as (.inl (.inl hL)) (atI_nat (by rw [List.getElem?_map, h1]; rfl)) (q _ (hp i _ h1))
theorem PL.at' {K : PySem.W.Frag} {a : Int} {H : Hp} {L : Addr} {n : Nat} (h : PL a H L n) {Q : VK} {i : Nat} {z : Int} (e : z = (i : Int)) (hi : i < n) (q : ∀ p, H p = some (.tup [.int (px a i), .int (py a i)]) → Q (.ref p) H) :
    rIxL K (.ref L) (.int z) H Q := by
  subst e
  exact h.at hi q
theorem ne_self {x y : V} (h : x = y) : ¬ (!decide (x = y)) = true := by
  rw [decide_eq_true h]
  decide
theorem ne2_self {a b c d : Int} (h : a = c) (h' : b = d) : ¬ (!(decide (a = c) && decide (b = d))) = true := by
  rw [decide_eq_true h, decide_eq_true h']
  decide
theorem PL.push {a : Int} {H : Hp} {L : Addr} {ps : List Addr} (hL : H L = some (.lst (ps.map V.ref))) (hp : ∀ (i : Nat) (p : Addr), ps[i]? = some p → H p = some (.tup [.int (px a i), .int (py a i)])) {p : Addr}
    (h : H p = some (.tup [.int (px a ps.length), .int (py a ps.length)])) : PL a (upd H L (.lst (ps.map V.ref ++ [V.ref p]))) L (ps.length + 1) := by
  refine ⟨ps ++ [p], by rw [List.length_append]; rfl, by rw [upd_same, List.map_append]; rfl, fun i t hi => ?_⟩
  by_cases hj : i < ps.length
  · rw [List.getElem?_append_left hj] at hi
    have h1 := hp i t hi
    rw [upd_ne (ne_of hL h1 (by intro z; cases z)).symm]
    exact h1
  · rw [List.getElem?_append_right (by omega)] at hi
    have h3 : i - ps.length < 1 := (List.getElem?_eq_some_iff.mp hi).1
    have h4 : i = ps.length := by omega
    rw [h4, Nat.sub_self] at hi
    have h5 : p = t := Option.some.inj hi
    rw [← h5, h4, upd_ne (ne_of hL h (by intro z; cases z)).symm]
    exact h
/-! more on pairs -/
theorem py_lt1 {a : Int} (ha : 2 ≤ a) (n : Nat) : py a n < py a (n + 1) := by
  obtain ⟨h1, h2⟩ := pxy_pos ha n
  rw [py1]
  have : 2 * py a n ≤ a * py a n := Int.mul_le_mul_of_nonneg_right ha h1
  omega
theorem py_lt {a : Int} (ha : 2 ≤ a) {m n : Nat} (h : m < n) : py a m < py a n := by
  induction n with
  | zero => omega
  | succ n ih =>
    by_cases e : m = n
    · rw [e]; exact py_lt1 ha n
    · exact Int.lt_trans (ih (by omega)) (py_lt1 ha n)
theorem py_le_iff {a : Int} (ha : 2 ≤ a) (m n : Nat) : py a m ≤ py a n ↔ m ≤ n := by
  constructor
  · intro h
    by_cases e : m ≤ n
    · exact e
    · exact absurd (py_lt ha (show n < m by omega)) (by omega)
  · intro h
    by_cases e : m = n
    · rw [e]; exact Int.le_refl _
    · exact Int.le_of_lt (py_lt ha (by omega))
theorem pxy_sub (a : Int) (s t : Nat) : px a (t + s) * px a s - (a * a - 1) * py a (t + s) * py a s = px a t ∧ py a (t + s) * px a s - px a (t + s) * py a s = py a t := by
  rw [(pxy_add a t s).1, (pxy_add a t s).2]
  have := pell a s
  constructor <;> grind
/-- every two squares one apart are a pair's -/
theorem pell_all {a : Int} (ha : 2 ≤ a) : ∀ (k : Nat) (x y : Int), y.toNat ≤ k → 0 ≤ x → 0 ≤ y → x * x - (a * a - 1) * y * y = 1 → ∃ n, x = px a n ∧ y = py a n := by
  intro k
  induction k with
  | zero =>
    intro x y hk hx hy h
    have e : y = 0 := by omega
    subst e
    refine ⟨0, ?_, rfl⟩
    rw [px0]
    have h2 : x * x = 1 := by grind
    have h3 : x < 2 := by
      by_cases c : x < 2
      · exact c
      · have := Int.mul_le_mul (a := 2) (b := 2) (c := x) (d := x) (by omega) (by omega) (by omega) hx
        omega
    have h4 : x ≠ 0 := by
      intro z
      rw [z] at h2
      exact absurd h2 (by decide)
    omega
  | succ k ih =>
    intro x y hk hx hy h
    by_cases e : y = 0
    · exact ih x y (by omega) hx hy h
    · have y1 : 1 ≤ y := by omega
      have hyy : 1 ≤ y * y := by
        have := Int.mul_le_mul (a := 1) (b := 1) (c := y) (d := y) y1 y1 (by omega) hy
        omega
      have hxy : x ≤ a * y := by
        by_cases c : x ≤ a * y
        · exact c
        · have c2 : a * y + 1 ≤ x := by omega
          have p0 : 0 ≤ a * y := Int.mul_nonneg (by omega) hy
          have := Int.mul_le_mul (a := a * y + 1) (b := a * y + 1) (c := x) (d := x) c2 c2 (by omega) hx
          have e1 : (a * y + 1) * (a * y + 1) = a * a * y * y + 2 * (a * y) + 1 := by grind
          have e2 : x * x = a * a * y * y - y * y + 1 := by grind
          omega
      have hlt : a * y - x < y := by
        by_cases c : a * y - x < y
        · exact c
        · have c2 : x ≤ (a - 1) * y := by
            have : (a - 1) * y = a * y - y := by grind
            omega
          have p0 : 0 ≤ (a - 1) * y := Int.mul_nonneg (by omega) hy
          have := Int.mul_le_mul c2 c2 hx p0
          have e1 : (a - 1) * y * ((a - 1) * y) = a * a * y * y - y * y - 2 * (a - 1) * (y * y) := by grind
          have e2 : x * x = a * a * y * y - y * y + 1 := by grind
          have e3 : 0 ≤ (a - 1) * (y * y) := Int.mul_nonneg (by omega) (by omega)
          have e4 : 2 * (a - 1) * (y * y) = 2 * ((a - 1) * (y * y)) := by grind
          omega
      have hx0 : 0 ≤ a * x - (a * a - 1) * y := by
        by_cases c : 0 ≤ a * x - (a * a - 1) * y
        · exact c
        · have c2 : a * x ≤ (a * a - 1) * y := by omega
          have p1 : 0 ≤ a * x := Int.mul_nonneg (by omega) hx
          have p2 : 2 * a ≤ a * a := Int.mul_le_mul_of_nonneg_right ha (by omega)
          have p0 : 0 ≤ (a * a - 1) * y := Int.mul_nonneg (by omega) hy
          have := Int.mul_le_mul c2 c2 p1 p0
          have e1 : a * x * (a * x) = a * a * (x * x) := by grind
          have e2 : (a * a - 1) * y * ((a * a - 1) * y) = (a * a - 1) * (x * x - 1) := by
            rw [← h]; grind
          have e3 : (a * a - 1) * (x * x - 1) = a * a * (x * x) - x * x - (a * a - 1) := by grind
          have e4 : 0 ≤ x * x := Int.mul_nonneg hx hx
          omega
      obtain ⟨n, e1, e2⟩ := ih (a * x - (a * a - 1) * y) (a * y - x) (by omega) hx0 (by omega) (by grind)
      refine ⟨n + 1, ?_, ?_⟩
      · rw [px1, ← e1, ← e2]; grind
      · rw [py1, ← e1, ← e2]; grind
theorem pell_only {a x y : Int} (ha : 2 ≤ a) (hx : 0 ≤ x) (hy : 0 ≤ y) (h : x * x - (a * a - 1) * y * y = 1) : ∃ n, x = px a n ∧ y = py a n := pell_all ha _ x y (Nat.le_refl _) hx hy h
theorem py_ge {a : Int} (ha : 2 ≤ a) (n : Nat) : (n : Int) ≤ py a n := by
  induction n with
  | zero => rw [py0]; decide
  | succ n ih =>
    have := py_lt1 ha n
    omega
theorem tNoPart_go {σ : L2.St} {H : Hp} {Q : Option Int → Hp → Prop} (q : Q none H) : tNoPart σ H Q := q
end RR

set_option maxHeartbeats 2000000
namespace RR
open PySem PySem.Calls
theorem entry_comb : entryFor table "math.comb" = some Builtin.«math.comb» := entryFor_of_tree (by kernel_rfl)
theorem kind_comb : builtinKind "math.comb" = none := by kernel_rfl
theorem plain_comb : plainId "math.comb" = true := by decide +kernel
theorem args_comb (a b : Value) : argsOk "math.comb" ⟨[a, b], []⟩ := by
  unfold argsOk
  kernel_rfl
theorem run_comb (a b : Int) (t u : Tok) (h0 : ¬ a < 0) (h1 : ¬ b < 0) (h2 : ¬ b > a) (h3 : ¬ min b (a - b) > Builtin.Math.maxSsize) (h4 : ¬ min b (a - b) > Builtin.Math.manyFactors) (h5 : ¬ min b (a - b) > 9000)
    (hsz : (Builtin.Math.fallingProduct a (min b (a - b)).toNat / Builtin.Math.fallingProduct (min b (a - b)) (min b (a - b)).toNat).natAbs.log2 < bitsLine) :
    Gives (Builtin.«math.comb» ⟨[.int a t, .int b u], []⟩) (.int (Builtin.Math.fallingProduct a (min b (a - b)).toNat / Builtin.Math.fallingProduct (min b (a - b)) (min b (a - b)).toNat)) :=
  .of_wp fun M A E s Q h => by
    obtain ⟨hp, g, d, tk, os⟩ := s
    wp_walk
    exact ⟨_, rfl, h⟩
theorem run_comb0 (a b : Int) (t u : Tok) (h0 : ¬ a < 0) (h1 : ¬ b < 0) (h2 : b > a) : Gives (Builtin.«math.comb» ⟨[.int a t, .int b u], []⟩) (.int 0) :=
  .of_wp fun M A E s Q h => by
    obtain ⟨hp, g, d, tk, os⟩ := s
    wp_walk
    exact ⟨_, rfl, h⟩
/-- Pascal's numbers -/
def ch : Nat → Nat → Nat
  | _, 0 => 1
  | 0, _ + 1 => 0
  | n + 1, k + 1 => ch n k + ch n (k + 1)
def fac : Nat → Nat
  | 0 => 1
  | n + 1 => (n + 1) * fac n
def fall (n : Int) : Nat → Int
  | 0 => 1
  | k + 1 => fall n k * (n - k)
theorem fall_eq (n : Int) (k : Nat) : Builtin.Math.fallingProduct n k = fall n k := by
  unfold Builtin.Math.fallingProduct
  induction k with
  | zero => rfl
  | succ k ih =>
    rw [List.range_succ, List.foldl_append, ih]
    rfl
theorem fall_succ (n : Int) (k : Nat) : fall (n + 1) (k + 1) = (n + 1) * fall n k := by
  induction k with
  | zero =>
    show fall (n + 1) 0 * (n + 1 - ((0 : Nat) : Int)) = (n + 1) * fall n 0
    show 1 * (n + 1 - ((0 : Nat) : Int)) = (n + 1) * 1
    omega
  | succ k ih =>
    show fall (n + 1) (k + 1) * (n + 1 - ((k + 1 : Nat) : Int)) = (n + 1) * (fall n k * (n - k))
    rw [ih]
    push_cast
    grind
theorem fall_ch (n : Nat) : ∀ k : Nat, fall n k = (ch n k : Int) * (fac k : Int) := by
  induction n with
  | zero =>
    intro k
    induction k with
    | zero => rfl
    | succ k ih =>
      show fall ((0 : Nat) : Int) k * (((0 : Nat) : Int) - k) = ((0 : Nat) : Int) * _
      match k with
      | 0 => rfl
      | k + 1 =>
        rw [ih]
        show ((0 : Nat) : Int) * _ * _ = _
        grind
  | succ n ih =>
    intro k
    match k with
    | 0 => rfl
    | k + 1 =>
      have e1 := ih k
      have e2 := ih (k + 1)
      have e3 : fall (n : Int) (k + 1) = fall n k * (n - k) := rfl
      have e4 := fall_succ (n : Int) k
      rw [show ((n + 1 : Nat) : Int) = (n : Int) + 1 by omega, e4]
      show _ = ((ch n k + ch n (k + 1) : Nat) : Int) * (((k + 1) * fac k : Nat) : Int)
      rw [e3, e1] at e2
      have e5 : (fac (k + 1) : Int) = ((k : Int) + 1) * (fac k : Int) := by
        show (((k + 1) * fac k : Nat) : Int) = _
        push_cast
        rfl
      rw [e5] at e2
      rw [e1]
      push_cast
      grind
theorem fac_pos (k : Nat) : 0 < fac k := by
  induction k with
  | zero => decide
  | succ k ih => exact Nat.mul_pos (by omega) ih
theorem ch_gt : ∀ (n k : Nat), n < k → ch n k = 0 := by
  intro n
  induction n with
  | zero => intro k h; match k, h with | k + 1, _ => rfl
  | succ n ih =>
    intro k h
    match k, h with
    | k + 1, h =>
      show ch n k + ch n (k + 1) = 0
      rw [ih k (by omega), ih (k + 1) (by omega)]
theorem ch_self : ∀ n : Nat, ch n n = 1 := by
  intro n
  induction n with
  | zero => rfl
  | succ n ih =>
    show ch n n + ch n (n + 1) = 1
    rw [ih, ch_gt n (n + 1) (by omega)]
theorem fall_self (k : Nat) : fall k k = (fac k : Int) := by
  rw [fall_ch, ch_self]
  omega
theorem ch_symm : ∀ (s i j : Nat), i + j = s → ch (i + j) i = ch (i + j) j := by
  intro s
  induction s with
  | zero => intro i j h; have : i = 0 := by omega
            have : j = 0 := by omega
            subst i j; rfl
  | succ s ih =>
    intro i j h
    match i, j, h with
    | 0, j, _ =>
      rw [Nat.zero_add, ch_self]
      unfold ch
      rfl
    | i + 1, 0, _ =>
      rw [Nat.add_zero, ch_self]
      unfold ch
      rfl
    | i + 1, j + 1, h =>
      have h1 := ih i (j + 1) (by omega)
      have h2 := ih (i + 1) j (by omega)
      rw [show i + 1 + (j + 1) = (i + (j + 1)) + 1 by omega]
      show ch (i + (j + 1)) i + ch (i + (j + 1)) (i + 1) = ch (i + (j + 1)) j + ch (i + (j + 1)) (j + 1)
      rw [show i + 1 + j = i + (j + 1) by omega] at h2
      omega
theorem comb_val {n k : Nat} (h : k ≤ n) : fall n (min (k : Int) ((n : Int) - k)).toNat / fall (min (k : Int) ((n : Int) - k)) (min (k : Int) ((n : Int) - k)).toNat = (ch n k : Int) := by
  obtain ⟨m, hm⟩ : ∃ m : Nat, min (k : Int) ((n : Int) - k) = (m : Int) := ⟨min k (n - k), by omega⟩
  rw [hm, Int.toNat_natCast, fall_self, fall_ch, Int.mul_ediv_cancel _ (by have := fac_pos m; omega)]
  by_cases c : m = k
  · rw [c]
  · have e : m = n - k := by omega
    have := ch_symm n k (n - k) (by omega)
    rw [show k + (n - k) = n by omega] at this
    rw [this, e]
theorem ch_le : ∀ n k : Nat, ch n k ≤ 2 ^ n := by
  intro n
  induction n with
  | zero => intro k; match k with | 0 => decide | k + 1 => (show 0 ≤ 1; decide)
  | succ n ih =>
    intro k
    match k with
    | 0 => exact Nat.one_le_two_pow
    | k + 1 =>
      show ch n k + ch n (k + 1) ≤ 2 ^ (n + 1)
      have h1 := ih k
      have h2 := ih (k + 1)
      rw [Nat.pow_succ]
      omega
end RR
namespace RR
open PySem PySem.Spec PyProof.Rows L2
section
variable {X : Cx}
/-- math.comb of two small numbers -/
theorem cr_comb : CallR X (.builtin "math.comb") (fun vs H Q => ∃ n k : Nat, vs = [.int n, .int k] ∧ n ≤ 9000 ∧ Q (.int (ch n k : Int)) H) := by
  intro pins s σ H vs us Q I r h
  obtain ⟨n, k, rfl, hn, q⟩ := h
  obtain ⟨t, u, rfl⟩ := Vals.int2 r
  by_cases hk : k ≤ n
  · have h5 : ¬ min (k : Int) ((n : Int) - k) > 9000 := by omega
    have v := comb_val hk
    rw [← fall_eq, ← fall_eq] at v
    have g := run_comb n k t u (by omega) (by omega) (by omega) (by have : Builtin.Math.maxSsize = 9223372036854775807 := rfl
                                                                    omega) (by have : Builtin.Math.manyFactors = 20000 := rfl
                                                                               omega) h5 (by
      rw [v, Int.natAbs_natCast]
      have h1 := ch_le n k
      have h2 : (ch n k).log2 < 9001 := by
        by_cases h0 : ch n k = 0
        · rw [h0]; decide
        · exact (Nat.log2_lt h0).mpr (Nat.lt_of_le_of_lt h1 (Nat.pow_lt_pow_right (by decide) (by omega)))
      exact Nat.lt_trans h2 (by decide))
    rw [v] at g
    exact call_function_meets kind_comb plain_comb entry_comb (args_comb _ _) g.meets ⟨.int _, H, I.tok _, ⟨_, rfl⟩, q⟩
  · rw [ch_gt n k (by omega)] at q
    have g := run_comb0 n k t u (by omega) (by omega) (by omega)
    exact call_function_meets kind_comb plain_comb entry_comb (args_comb _ _) g.meets ⟨.int _, H, I.tok _, ⟨_, rfl⟩, q⟩
end
end RR

namespace RR
open PySem PySem.Spec PyProof.Rows L2
/-- bits -/
def bl (n : Nat) : Nat := Builtin.Int.intBits (n : Int)
theorem bl_lt (n : Nat) : n < 2 ^ bl n := by
  have h : Sm (bl n) (n : Int) := sm_bits (Nat.le_refl _)
  unfold Sm at h
  rwa [Int.natAbs_natCast] at h
theorem bl_le {n : Nat} (h : 1 ≤ n) : 2 ^ (bl n - 1) ≤ n := by
  unfold bl Builtin.Int.intBits
  split
  · rename_i e
    have e0 : (n : Int) = 0 := by simpa using e
    omega
  · rw [Nat.add_sub_cancel, Int.natAbs_natCast]
    exact Nat.log2_self_le (by omega)
theorem div_zero {n b p : Nat} (hb : 1 ≤ b) (h : bl n ≤ (bl b - 1) * p) : n / b ^ p = 0 := by
  refine Nat.div_eq_of_lt (Nat.lt_of_lt_of_le (bl_lt n) (Nat.le_trans (Nat.pow_le_pow_right (by omega) h) ?_))
  rw [Nat.pow_mul]
  exact Nat.pow_le_pow_left (bl_le hb) p
theorem half_pow (e L i : Nat) (h : i < L) : e / 2 ^ (L - i) = e / 2 ^ (L - 1 - i) / 2 := by
  rw [Nat.div_div_eq_div_mul, ← Nat.pow_succ]
  congr 2
  omega
theorem ch_rec (b k : Nat) : (ch b (k + 1) : Int) = (ch b k : Int) * ((b : Int) - k) / (k + 1) := by
  have e1 := fall_ch b k
  have e2 := fall_ch b (k + 1)
  have e3 : fall (b : Int) (k + 1) = fall b k * (b - k) := rfl
  have e5 : (fac (k + 1) : Int) = ((k : Int) + 1) * (fac k : Int) := by
    show (((k + 1) * fac k : Nat) : Int) = _
    push_cast
    rfl
  rw [e3, e1, e5] at e2
  have f0 : (fac k : Int) ≠ 0 := by have := fac_pos k; omega
  have e6 : (ch b k : Int) * ((b : Int) - k) = (ch b (k + 1) : Int) * ((k : Int) + 1) := by
    refine Int.eq_of_mul_eq_mul_right f0 ?_
    grind
  rw [e6, Int.mul_ediv_cancel _ (by omega)]
/-- the row by its own rule -/
def pd (b : Nat) : Nat → Nat
  | 0 => 1
  | k + 1 => pd b k * (b - k) / (k + 1)
theorem pd_ch {b : Nat} : ∀ k : Nat, k ≤ b → pd b k = ch b k := by
  intro k
  induction k with
  | zero => intro _; unfold ch pd; rfl
  | succ k ih =>
    intro h
    show pd b k * (b - k) / (k + 1) = _
    rw [ih (by omega)]
    have := ch_rec b k
    have e : (((ch b k * (b - k) / (k + 1) : Nat)) : Int) = (ch b (k + 1) : Int) := by
      rw [this]
      push_cast
      rw [Int.ofNat_sub (by omega)]
    omega
def hp (b u : Nat) : Nat → Nat
  | 0 => 0
  | k + 1 => hp b u k * u + pd b (b - k)
def hz (b u : Nat) : Nat → Nat
  | 0 => 0
  | k + 1 => hz b u k * u + ch b (b - k)
theorem hp_hz (b u : Nat) : ∀ k, hp b u k = hz b u k := by
  intro k
  induction k with
  | zero => rfl
  | succ k ih =>
    show hp b u k * u + pd b (b - k) = hz b u k * u + ch b (b - k)
    rw [ih, pd_ch _ (Nat.sub_le _ _)]
theorem hp_ok : (List.range 25).all (fun b => (List.range 26).all (fun k => decide (hp b (2 ^ (b + 1)) k < 2 ^ 2000)) && hp b (2 ^ (b + 1)) (b + 1) == (2 ^ (b + 1) + 1) ^ b) = true := by decide +kernel
theorem hz_end {b : Nat} (h : b < 25) : hz b (2 ^ (b + 1)) (b + 1) = (2 ^ (b + 1) + 1) ^ b := by
  have := List.all_eq_true.mp hp_ok b (List.mem_range.mpr h)
  rw [Bool.and_eq_true] at this
  rw [← hp_hz]
  exact eq_of_beq this.2
theorem hz_lt {b k : Nat} (h : b < 25) (hk : k < 26) : hz b (2 ^ (b + 1)) k < 2 ^ 2000 := by
  have := List.all_eq_true.mp hp_ok b (List.mem_range.mpr h)
  rw [Bool.and_eq_true] at this
  rw [← hp_hz]
  exact of_decide_eq_true (List.all_eq_true.mp this.1 k (List.mem_range.mpr hk))
/-- the row as the list holds it -/
def rowV (b n : Nat) : List V := (List.range n).map fun k => V.int (ch b k : Int)
theorem rowV_len (b n : Nat) : (rowV b n).length = n := by
  unfold rowV
  rw [List.length_map, List.length_range]
theorem rowV_at {b n k : Nat} (h : k < n) : (rowV b n)[k]? = some (V.int (ch b k : Int)) := by
  unfold rowV
  rw [List.getElem?_map, List.getElem?_range h]
  rfl
theorem rowV_succ (b n : Nat) : rowV b (n + 1) = rowV b n ++ [V.int (ch b n : Int)] := by
  unfold rowV
  rw [List.range_succ, List.map_append]
  rfl
def toV (l : List Nat) : List V := l.map fun (d : Nat) => V.int (d : Int)
theorem toV_len (l : List Nat) : (toV l).length = l.length := by
  unfold toV
  rw [List.length_map]
theorem toV_app (l m : List Nat) : toV (l ++ m) = toV l ++ toV m := by
  unfold toV
  rw [List.map_append]
theorem toV_at {l : List Nat} {j d : Nat} (h : l[j]? = some d) : (toV l)[j]? = some (V.int (d : Int)) := by
  unfold toV
  rw [List.getElem?_map, h]
  rfl
/-- [.. for k in range(n)] -/
theorem lc_rng {n : Nat} {g : TG} {tt : TT} {te : TE} {vs : List Nat} {σ : L2.St} {H1 : Hp} {D : Addr} {Qd : Hp → Prop} (Pv : Nat → Hp → Prop) (h0 : Pv 0 (upd H1 D (.lst [])))
    (hs : ∀ (i : Nat) H, i < n → Pv i H → g (.int (i : Int)) (wipe σ vs) H fun σ2 H2 => wipe σ2 vs = wipe σ vs ∧ tt σ2 H2 fun b H3 =>
      if b = true then te σ2 H3 fun y H4 => ∃ acc, H4 D = some (.lst acc) ∧ acc.length < sizeLine ∧ Pv (i + 1) (upd H4 D (.lst (acc ++ [y]))) else Pv (i + 1) H3) (hd : ∀ H, Pv n H → Qd H) :
    ∃ W : Nat → Nat → Hp → Prop, (∃ m, W 0 m (upd H1 D (.lst []))) ∧ ∀ i m H, W i m H →
      ((Itr 0 n).stop i H ∧ Qd H) ∨ ((Itr 0 n).go i H ∧ ∃ Nx : Hp → Prop, (∀ H', Nx H' → ∃ m', m' < m ∧ W (i + 1) m' H') ∧ ∀ x H', (Itr 0 n).yld i H x H' → g x (wipe σ vs) H' fun σ2 H2 => wipe σ2 vs = wipe σ vs ∧ tt σ2 H2 fun b H3 =>
        if b = true then te σ2 H3 fun y H4 => ∃ acc, H4 D = some (.lst acc) ∧ acc.length < sizeLine ∧ Nx (upd H4 D (.lst (acc ++ [y]))) else Nx H3) :=
  lc_range (lo := 0) (n := n) Pv h0 (fun i H hi p => by rw [Int.zero_add]; exact hs i H hi p) hd
theorem layAll (l : List Nat) : PyData.canLayAll0 (l.map fun (k : Nat) => PyData.int (k : Int)) = true := by
  induction l with
  | nil => rfl
  | cons x l ih => simp only [List.map_cons, PyData.canLayAll0, PyData.canLay0, ih, Bool.and_true]
theorem depthAll (l : List Nat) : PyData.depthAll (l.map fun (k : Nat) => PyData.int (k : Int)) ≤ 1 := by
  induction l with
  | nil => decide
  | cons x l ih =>
    simp only [List.map_cons, PyData.depthAll, PyData.depth]
    omega
theorem ints_shaped (l : List Nat) : SeqAt.shaped (.list (l.map fun (k : Nat) => PyData.int (k : Int))) = true := by
  unfold SeqAt.shaped
  have h1 : PyData.canLay0 (.list (l.map fun (k : Nat) => PyData.int (k : Int))) = true := by
    simp only [PyData.canLay0, layAll]
  have h2 := depthAll l
  rw [h1, Bool.true_and]
  refine decide_eq_true ?_
  simp only [PyData.depth]
  omega
theorem ints_dp {K : PySem.W.Frag} {H : Hp} (l : List Nat) : DpAll K H (toV l) (l.map fun (k : Nat) => PyData.int (k : Int)) := by
  induction l with
  | nil => exact .nil
  | cons x l ih => exact .cons (.int _) ih
/-- a number by its digits -/
def val (b : Nat) : List Nat → Nat
  | [] => 0
  | d :: r => d + b * val b r
theorem val_lt {b : Nat} : ∀ ds : List Nat, (∀ d ∈ ds, d < b) → val b ds < b ^ ds.length := by
  intro ds
  induction ds with
  | nil => intro _; show 0 < 1; omega
  | cons d r ih =>
    intro h
    have h1 := ih fun x hx => h x (List.mem_cons_of_mem _ hx)
    have h2 := h d List.mem_cons_self
    show d + b * val b r < b ^ (r.length + 1)
    rw [Nat.pow_succ]
    have : b * (val b r + 1) ≤ b * b ^ r.length := Nat.mul_le_mul_left b h1
    rw [Nat.mul_add, Nat.mul_one] at this
    rw [Nat.mul_comm (b ^ r.length) b]
    omega
theorem val_drop {b : Nat} {ds : List Nat} {k d : Nat} (h : ds[k]? = some d) : val b (ds.drop k) = d + b * val b (ds.drop (k + 1)) := by
  obtain ⟨hl, e⟩ := List.getElem?_eq_some_iff.mp h
  rw [List.drop_eq_getElem_cons hl, e]
  rfl
theorem val_div {b : Nat} (hb : 0 < b) : ∀ (k : Nat) (ds : List Nat), (∀ d ∈ ds, d < b) → val b ds / b ^ k = val b (ds.drop k) := by
  intro k
  induction k with
  | zero => intro ds _; rw [Nat.pow_zero, Nat.div_one, List.drop_zero]
  | succ k ih =>
    intro ds h
    match ds, h with
    | [], _ => rw [List.drop_nil]; exact Nat.zero_div _
    | d :: r, h =>
      rw [Nat.pow_succ, Nat.mul_comm, ← Nat.div_div_eq_div_mul]
      have h2 := h d List.mem_cons_self
      have e : val b (d :: r) / b = val b r := by
        show (d + b * val b r) / b = _
        rw [Nat.add_mul_div_left _ _ hb, Nat.div_eq_of_lt h2, Nat.zero_add]
      rw [e, ih r fun x hx => h x (List.mem_cons_of_mem _ hx)]
      rfl
theorem val_at {b : Nat} (hb : 0 < b) {ds : List Nat} {k d : Nat} (hd : ∀ x ∈ ds, x < b) (h : ds[k]? = some d) : val b ds / b ^ k % b = d := by
  rw [val_div hb k ds hd, val_drop h, Nat.add_mul_mod_self_left, Nat.mod_eq_of_lt (hd d (List.mem_of_getElem? h))]
theorem val_beyond {b : Nat} (hb : 0 < b) {ds : List Nat} {k : Nat} (hd : ∀ x ∈ ds, x < b) (h : ds.length ≤ k) : val b ds / b ^ k % b = 0 := by
  rw [val_div hb k ds hd, List.drop_eq_nil_of_le h]
  exact Nat.zero_mod _
end RR

namespace RR
open PySem PySem.Spec PyProof.Rows L2
/-- every other item -/
def ev {α : Type} : List α → List α
  | [] => []
  | [x] => [x]
  | x :: _ :: r => x :: ev r
theorem ev_pick {α : Type} : ∀ (m : Nat) (l : List α), l.length ≤ m → (List.range ((l.length + 1) / 2)).filterMap (fun k => l[2 * k]?) = ev l := by
  intro m
  induction m with
  | zero =>
    intro l h
    match l, h with
    | [], _ => simp [ev]
  | succ m ih =>
    intro l h
    match l, h with
    | [], _ => simp [ev]
    | [x], _ => simp [ev]
    | x :: y :: r, h =>
      have hr : r.length ≤ m := by
        simp at h
        omega
      rw [show ((x :: y :: r).length + 1) / 2 = (r.length + 1) / 2 + 1 by simp; omega, List.range_succ_eq_map, List.filterMap_cons_some (b := x) (by rfl), List.filterMap_map]
      rw [show ev (x :: y :: r) = x :: ev r by simp [ev], ← ih r hr]
      congr 1
theorem ev_len {α : Type} : ∀ (m : Nat) (l : List α), l.length ≤ m → (ev l).length = (l.length + 1) / 2 := by
  intro m
  induction m with
  | zero =>
    intro l h
    match l, h with
    | [], _ => simp [ev]
  | succ m ih =>
    intro l h
    match l, h with
    | [], _ => simp [ev]
    | [x], _ => simp [ev]
    | x :: y :: r, h =>
      have hr : r.length ≤ m := by
        simp at h
        omega
      rw [show ev (x :: y :: r) = x :: ev r by simp [ev], List.length_cons, ih r hr]
      simp
      omega
theorem ev_at {α : Type} : ∀ (k : Nat) (l : List α), (ev l)[k]? = l[2 * k]? := by
  intro k
  induction k with
  | zero =>
    intro l
    match l with
    | [] => simp [ev]
    | [x] => simp [ev]
    | x :: y :: r => simp [ev]
  | succ k ih =>
    intro l
    match l with
    | [] => simp [ev]
    | [x] => simp [ev]
    | x :: y :: r =>
      rw [show ev (x :: y :: r) = x :: ev r by simp [ev], List.getElem?_cons_succ, ih r]
      rfl
theorem ev_vals : ∀ (m : Nat) (l : List V) (us : List Value), l.length ≤ m → Vals l us → Vals (ev l) (ev us) := by
  intro m
  induction m with
  | zero =>
    intro l us h r
    cases r with
    | nil => simp only [ev]; exact .nil
    | cons a b => simp at h
  | succ m ih =>
    intro l us h r
    cases r with
    | nil => simp only [ev]; exact .nil
    | cons a b =>
      cases b with
      | nil => simp only [ev]; exact .cons a .nil
      | cons c d => simp only [ev]; exact .cons a (ih _ _ (by simp at h; omega) d)
theorem step_bounds (lo : Option Int) (n : Nat) : sliceBounds lo none (some 2) n = (((HT.sIx n 0 lo : Nat) : Int), (n : Int), 2) := by
  obtain ⟨h1, _, _⟩ := slice_bounds lo none n
  rw [← h1]
  cases lo <;> rfl
theorem step_range (n i : Nat) (h : i ≤ n) : sliceRange (i : Int) (n : Int) 2 = (List.range ((n - i + 1) / 2)).map fun k => i + 2 * k := by
  unfold sliceRange
  rw [if_pos (by decide)]
  have e : (if (i : Int) < (n : Int) then ((n : Int) - i + 2 - 1) / 2 else 0).toNat = (n - i + 1) / 2 := by
    split
    · omega
    · omega
  show (List.range (if (i : Int) < (n : Int) then ((n : Int) - i + 2 - 1) / 2 else 0).toNat).map (fun k : Nat => ((i : Int) + 2 * (k : Int)).toNat) = _
  rw [e]
  apply List.map_congr_left
  intro k _
  omega
theorem step_pick (its : List Value) (lo : Option Int) : slicePick its.toArray lo none (some 2) = (ev (its.drop (HT.sIx its.length 0 lo))).toArray := by
  unfold slicePick
  rw [step_bounds, List.size_toArray]
  have hi : HT.sIx its.length 0 lo ≤ its.length := HT.sIx_le _ _ (Nat.zero_le _) lo
  rw [step_range _ _ hi]
  congr 1
  rw [List.filterMap_map, ← ev_pick _ _ (Nat.le_refl _), List.length_drop]
  congr 1
  funext k
  show its.toArray[_]? = _
  rw [List.getElem?_drop]
  simp
section
variable {X : Cx}
/-- xs[lo::2] of a list: a new list -/
def tStep2 (K : PySem.W.Frag) (te : TE) (tl : TO) : TE := fun σ H Q => te σ H fun x H1 => tl σ H1 fun lo H2 => ∃ a xs, x = .ref a ∧ SqL K H2 a xs ∧ ∀ p, H2 p = none → Q (.ref p) (upd H2 p (.lst (ev (xs.drop (HT.sIx xs.length 0 lo)))))
theorem pe_step2 {e : Expr} {lo : Option Expr} {te : TE} {tl : TO} {k : Nat} {p2 p3 pos : Pos} (he : PE X e te) (hl : PO X lo tl) : PE X (.Subscript e (.Slice lo none (some (.Constant (.int 2) k p2)) p3) pos) (tStep2 X.K te tl) := by
  refine ⟨fun pins s σ H Q I h => ?_⟩
  refine Subscript_ (thn (he.run pins s σ H _ I h) fun v s1 ⟨x, H1, I1, r1, q1⟩ => ?_)
  have hst : PO X (some (.Constant (.int 2) k p2)) (tPart (tC (.int 2))) := po_some pe_int
  refine wpAny_Slice (thn (hl.run pins s1 σ H1 _ I1 q1) fun vl s2 ⟨l, H2, I2, pl, q2⟩ => ?_)
  obtain ⟨a, xs, ex, hx, q⟩ := q2
  subst ex
  cases r1
  refine thn (po_none.run pins s2 σ H2 (fun o H3 => o = none ∧ H3 = H2) I2 ⟨rfl, rfl⟩) fun vu s3 ⟨u, H3, I3, pu, eu, e3⟩ => ?_
  subst eu e3
  refine thn (hst.run pins s3 σ H3 (fun o H4 => o = some 2 ∧ H4 = H3) I3 ⟨2, rfl, rfl, rfl⟩) fun vs s4 ⟨o, H4, I4, ps, eo, e4⟩ => ?_
  subst eo e4
  have I5 : Inv X pins σ H4 { s4 with heap := s4.heap.push { cls := .type "slice", data := .fields #[vl, vu, vs] } } := I4.kept (t' := s4.toks) fun b ob q => Heap.get?_push_of_some _ q
  obtain ⟨its, r, ht, hz⟩ := I5.list hx
  have hlen := r.length
  show wpAny (model X.prog X.w) X.A (subscriptTail e (.Slice lo none (some (.Constant (.int 2) k p2)) p3) (.ref a) (.ref s4.heap.objs.size)) (EP X pins σ Q) X.xe { s4 with heap := s4.heap.push { cls := .type "slice", data := .fields #[vl, vu, vs] } }
  refine tail_any (ops := [.ref a, .ref s4.heap.objs.size]) ht.isList.typeIs (PySem.slot_list_getitem.lookup) ?_ (by with_unfolding_all rfl)
  refine wpAny_getItem_list_slice ht.isList (Heap.IsSliceOf.new _ vl vu vs) pl pu ps (by decide) ?_ (by rw [List.size_toArray]; omega)
  rw [step_pick, ← hlen]
  refine ⟨.ref _, _, I5.laid (t' := s4.toks) (o := .lst (ev (xs.drop (HT.sIx xs.length 0 l)))) (fun b ob q => Heap.get?_push_of_some _ q) (Nat.le_refl _) ?_, rfl, q _ (I5.hok.fresh (Nat.le_refl _))⟩
  exact ⟨by rw [ev_len _ _ (Nat.le_refl _), List.length_drop]; omega, _, 0, ev_vals _ _ _ (Nat.le_refl _) (r.drop (HT.sIx xs.length 0 l)), Heap.get?_push_size _ rfl⟩
end
end RR

namespace RR
open PySem PySem.Spec PyProof.Rows L2
theorem ev_cons {α : Type} (y : α) (l : List α) : ev (y :: l) = y :: ev (l.drop 1) := by
  cases l <;> simp [ev]
/-- two neighbours become one -/
def pairUp (s : Nat) : List Nat → List Nat
  | [] => []
  | [x] => [x]
  | x :: y :: r => (x + y * 2 ^ s) :: pairUp s r
theorem pairUp_val (s : Nat) : ∀ (m : Nat) (l : List Nat), l.length ≤ m → val (2 ^ (2 * s)) (pairUp s l) = val (2 ^ s) l := by
  intro m
  induction m with
  | zero =>
    intro l h
    match l, h with
    | [], _ => simp [pairUp, val]
  | succ m ih =>
    intro l h
    match l, h with
    | [], _ => simp [pairUp, val]
    | [x], _ => simp [pairUp, val]
    | x :: y :: r, h =>
      have hr : r.length ≤ m := by
        simp at h
        omega
      simp only [pairUp, val, ih r hr]
      rw [show 2 * s = s + s by omega, Nat.pow_add]
      grind
theorem pairUp_len (s : Nat) : ∀ (m : Nat) (l : List Nat), l.length ≤ m → (pairUp s l).length = (l.length + 1) / 2 := by
  intro m
  induction m with
  | zero =>
    intro l h
    match l, h with
    | [], _ => simp [pairUp]
  | succ m ih =>
    intro l h
    match l, h with
    | [], _ => simp [pairUp]
    | [x], _ => simp [pairUp]
    | x :: y :: r, h =>
      have hr : r.length ≤ m := by
        simp at h
        omega
      simp only [pairUp, List.length_cons, ih r hr]
      omega
theorem pairUp_zip (s : Nat) : ∀ (m : Nat) (l : List Nat), l.length ≤ m → List.zipWith (fun x y => x + y * 2 ^ s) (ev (l ++ [0])) (ev ((l ++ [0]).drop 1)) = pairUp s l := by
  intro m
  induction m with
  | zero =>
    intro l h
    match l, h with
    | [], _ => simp [pairUp, ev]
  | succ m ih =>
    intro l h
    match l, h with
    | [], _ => simp [pairUp, ev]
    | [x], _ => simp [pairUp, ev]
    | x :: y :: r, h =>
      have hr : r.length ≤ m := by
        simp at h
        omega
      have := ih r hr
      rw [show x :: y :: r ++ [0] = x :: y :: (r ++ [0]) from rfl, show List.drop 1 (x :: y :: (r ++ [0])) = y :: (r ++ [0]) from rfl, ev_cons y, show ev (x :: y :: (r ++ [0])) = x :: ev (r ++ [0]) by simp [ev]]
      simp only [List.zipWith_cons_cons, pairUp]
      rw [this]
theorem val_mem {b : Nat} (hb : 1 ≤ b) : ∀ (l : List Nat) (x : Nat), x ∈ l → x ≤ val b l := by
  intro l
  induction l with
  | nil => intro x h; cases h
  | cons y r ih =>
    intro x h
    show x ≤ y + b * val b r
    rcases List.mem_cons.mp h with rfl | h
    · omega
    · have := ih x h
      have h2 : 1 * val b r ≤ b * val b r := Nat.mul_le_mul_right _ hb
      omega
theorem ev_map {α β : Type} (f : α → β) : ∀ (m : Nat) (l : List α), l.length ≤ m → ev (l.map f) = (ev l).map f := by
  intro m
  induction m with
  | zero =>
    intro l h
    match l, h with
    | [], _ => simp [ev]
  | succ m ih =>
    intro l h
    match l, h with
    | [], _ => simp [ev]
    | [x], _ => simp [ev]
    | x :: y :: r, h =>
      have hr : r.length ≤ m := by
        simp at h
        omega
      simp only [List.map_cons, ev, ih r hr]
/-- one part becomes two -/
theorem half_low (n a i : Nat) : n / 2 ^ (2 * a * i) % 2 ^ (2 * a) % 2 ^ a = n / 2 ^ (a * (2 * i)) % 2 ^ a := by
  rw [show 2 * a = a + a by omega, Nat.pow_add, Nat.mod_mul_left_mod, show (a + a) * i = a * (2 * i) by grind]
theorem half_high (n a i : Nat) : n / 2 ^ (2 * a * i) % 2 ^ (2 * a) / 2 ^ a = n / 2 ^ (a * (2 * i + 1)) % 2 ^ a := by
  rw [show 2 * a = a + a by omega, Nat.pow_add, Nat.mod_mul_right_div_self, Nat.div_div_eq_div_mul, ← Nat.pow_add, show (a + a) * i + a = a * (2 * i + 1) by grind]
def parts (n c w m : Nat) : List Nat := (List.range m).map fun i => n / 2 ^ (c * w * i) % 2 ^ (c * w)
theorem parts_succ (n c w m : Nat) : parts n c w (m + 1) = parts n c w m ++ [n / 2 ^ (c * w * m) % 2 ^ (c * w)] := by
  unfold parts
  rw [List.range_succ, List.map_append]
  rfl
theorem parts_len (n c w m : Nat) : (parts n c w m).length = m := by
  unfold parts
  rw [List.length_map, List.length_range]
theorem parts_two (n c w i : Nat) : parts n c w (2 * i) ++ [n / 2 ^ (c * (2 * w) * i) % 2 ^ (c * (2 * w)) % 2 ^ (c * w), n / 2 ^ (c * (2 * w) * i) % 2 ^ (c * (2 * w)) / 2 ^ (c * w)] = parts n c w (2 * (i + 1)) := by
  rw [show 2 * (i + 1) = 2 * i + 1 + 1 by omega, parts_succ, parts_succ, List.append_assoc]
  congr 1
  rw [show c * (2 * w) = 2 * (c * w) by grind, half_low, half_high]
  rfl
end RR
namespace RR
open PySem PySem.Spec PyProof.Rows L2
section
variable {J : It} {n : Nat} {G : Hp → Prop} {Y : Nat → Hp → V → Hp → Prop}
/-- a comprehension with two fors, the outer walk -/
theorem lc2_it (w : Walk J n G Y) {g : TG} {tt : TT} {wi1 : TI} {g1 : TG} {tt1 : TT} {te : TE} {vs vs1 : List Nat} {σ : L2.St} {H1 : Hp} {D : Addr} {Qd : Hp → Prop} (Pv : Nat → Hp → Prop) (h0 : Pv 0 (upd H1 D (.lst []))) (hG : ∀ i H, i ≤ n → Pv i H → G H)
    (hs : ∀ i x H H', i < n → Pv i H → Y i H x H' → g x (wipe σ vs) H' fun σ2 H2 => wipe σ2 vs = wipe σ vs ∧ tt σ2 H2 fun b H3 =>
      if b = true then wi1 σ2 H3 fun J1 H4 => ∃ W1 : Nat → Nat → Hp → Prop, (∃ m, W1 0 m H4) ∧ ∀ j k H, W1 j k H →
        (J1.stop j H ∧ Pv (i + 1) H) ∨ (J1.go j H ∧ ∃ Nx1 : Hp → Prop, (∀ H', Nx1 H' → ∃ k', k' < k ∧ W1 (j + 1) k' H') ∧ ∀ x H', J1.yld j H x H' → g1 x (wipe σ2 vs1) H' fun σ3 H5 => wipe σ3 vs1 = wipe σ2 vs1 ∧ tt1 σ3 H5 fun b H6 =>
          if b = true then te σ3 H6 fun y H7 => ∃ acc, H7 D = some (.lst acc) ∧ acc.length < sizeLine ∧ Nx1 (upd H7 D (.lst (acc ++ [y]))) else Nx1 H6)
      else Pv (i + 1) H3) (hd : ∀ H, Pv n H → Qd H) :
    ∃ W : Nat → Nat → Hp → Prop, (∃ m, W 0 m (upd H1 D (.lst []))) ∧ ∀ i m H, W i m H →
      (J.stop i H ∧ Qd H) ∨ (J.go i H ∧ ∃ Nx : Hp → Prop, (∀ H', Nx H' → ∃ m', m' < m ∧ W (i + 1) m' H') ∧ ∀ x H', J.yld i H x H' → g x (wipe σ vs) H' fun σ2 H2 => wipe σ2 vs = wipe σ vs ∧ tt σ2 H2 fun b H3 =>
        if b = true then wi1 σ2 H3 fun J1 H4 => ∃ W1 : Nat → Nat → Hp → Prop, (∃ m, W1 0 m H4) ∧ ∀ j k H, W1 j k H →
          (J1.stop j H ∧ Nx H) ∨ (J1.go j H ∧ ∃ Nx1 : Hp → Prop, (∀ H', Nx1 H' → ∃ k', k' < k ∧ W1 (j + 1) k' H') ∧ ∀ x H', J1.yld j H x H' → g1 x (wipe σ2 vs1) H' fun σ3 H5 => wipe σ3 vs1 = wipe σ2 vs1 ∧ tt1 σ3 H5 fun b H6 =>
            if b = true then te σ3 H6 fun y H7 => ∃ acc, H7 D = some (.lst acc) ∧ acc.length < sizeLine ∧ Nx1 (upd H7 D (.lst (acc ++ [y]))) else Nx1 H6)
        else Nx H3) := by
  refine ⟨fun i m H => m = n - i ∧ i ≤ n ∧ Pv i H, ⟨n, by simp, Nat.zero_le _, h0⟩, ?_⟩
  rintro i m H ⟨rfl, hi, p⟩
  have q := hG i H hi p
  by_cases hlt : i < n
  · exact .inr ⟨w.goes i H hlt q, Pv (i + 1), fun H' p' => ⟨n - (i + 1), by omega, rfl, hlt, p'⟩, fun x H' y => hs i x H H' hlt p (w.yields i H x H' hlt q y)⟩
  · have e : i = n := by omega
    subst e
    exact .inl ⟨w.stops H q, hd H p⟩
/-- .. and the inner one -/
theorem in_it (w : Walk J n G Y) {g1 : TG} {tt1 : TT} {te : TE} {vs1 : List Nat} {σ2 : L2.St} {H4 : Hp} {D : Addr} {N : Hp → Prop} (Pv : Nat → Hp → Prop) (h0 : Pv 0 H4) (hG : ∀ i H, i ≤ n → Pv i H → G H)
    (hs : ∀ j x H H', j < n → Pv j H → Y j H x H' → g1 x (wipe σ2 vs1) H' fun σ3 H5 => wipe σ3 vs1 = wipe σ2 vs1 ∧ tt1 σ3 H5 fun b H6 =>
      if b = true then te σ3 H6 fun y H7 => ∃ acc, H7 D = some (.lst acc) ∧ acc.length < sizeLine ∧ Pv (j + 1) (upd H7 D (.lst (acc ++ [y]))) else Pv (j + 1) H6) (hd : ∀ H, Pv n H → N H) :
    ∃ W1 : Nat → Nat → Hp → Prop, (∃ m, W1 0 m H4) ∧ ∀ j k H, W1 j k H →
      (J.stop j H ∧ N H) ∨ (J.go j H ∧ ∃ Nx1 : Hp → Prop, (∀ H', Nx1 H' → ∃ k', k' < k ∧ W1 (j + 1) k' H') ∧ ∀ x H', J.yld j H x H' → g1 x (wipe σ2 vs1) H' fun σ3 H5 => wipe σ3 vs1 = wipe σ2 vs1 ∧ tt1 σ3 H5 fun b H6 =>
        if b = true then te σ3 H6 fun y H7 => ∃ acc, H7 D = some (.lst acc) ∧ acc.length < sizeLine ∧ Nx1 (upd H7 D (.lst (acc ++ [y]))) else Nx1 H6) := by
  refine ⟨fun i m H => m = n - i ∧ i ≤ n ∧ Pv i H, ⟨n, by simp, Nat.zero_le _, h0⟩, ?_⟩
  rintro i m H ⟨rfl, hi, p⟩
  have q := hG i H hi p
  by_cases hlt : i < n
  · exact .inr ⟨w.goes i H hlt q, Pv (i + 1), fun H' p' => ⟨n - (i + 1), by omega, rfl, hlt, p'⟩, fun x H' y => hs i x H H' hlt p (w.yields i H x H' hlt q y)⟩
  · have e : i = n := by omega
    subst e
    exact .inl ⟨w.stops H q, hd H p⟩
end
theorem getV {l : List Nat} {i : Nat} {v : V} (h : (toV l)[i]? = some v) : ∃ d : Nat, l[i]? = some d ∧ v = .int (d : Int) := by
  unfold toV at h
  rw [List.getElem?_map] at h
  obtain ⟨d, hd, rfl⟩ := Option.map_eq_some_iff.mp h
  exact ⟨d, hd, rfl⟩
theorem shl_nat (a s : Nat) : (a : Int) * 2 ^ s = ((a * 2 ^ s : Nat) : Int) := by push_cast; rfl
end RR
namespace RR
open PySem PySem.Spec PyProof.Rows L2
theorem and_ones (n k : Nat) : Builtin.bitAnd (n : Int) ((2 ^ k - 1 : Nat) : Int) = ((n % 2 ^ k : Nat) : Int) := by
  rw [bitAnd_pp (by omega) (by omega), Int.toNat_natCast, Int.toNat_natCast, Nat.and_two_pow_sub_one_eq_mod]
theorem shr_nat (n k : Nat) : (n : Int) / 2 ^ (k : Int).toNat = ((n / 2 ^ k : Nat) : Int) := by
  rw [Int.toNat_natCast]
  push_cast
  rfl
theorem parts_one (n c w : Nat) : parts n c w 1 = [n % 2 ^ (c * w)] := by
  show [n / 2 ^ (c * w * 0) % 2 ^ (c * w)] = _
  rw [Nat.mul_zero, Nat.pow_zero, Nat.div_one]
theorem parts_at (n c w m i : Nat) (h : i < m) : (parts n c w m)[i]? = some (n / 2 ^ (c * w * i) % 2 ^ (c * w)) := by
  unfold parts
  rw [List.getElem?_map, List.getElem?_range h]
  rfl
theorem parts_take (n c m k : Nat) (h : m ≤ k) : (parts n c 1 k).take m = (List.range m).map fun i => n / 2 ^ (c * i) % 2 ^ c := by
  unfold parts
  rw [← List.map_take, List.take_range, Nat.min_eq_left h]
  simp only [Nat.mul_one]
theorem toV_take (l : List Nat) (k : Nat) : (toV l).take k = toV (l.take k) := by
  unfold toV
  rw [List.map_take]
end RR
namespace RR
open PySem PySem.Spec PyProof.Rows L2
/-- the lowest digits of a number -/
def dgs (n c m : Nat) : List Nat := (List.range m).map fun k => n / 2 ^ (c * k) % 2 ^ c
theorem dgs_len (n c m : Nat) : (dgs n c m).length = m := by
  unfold dgs
  rw [List.length_map, List.length_range]
theorem dgs_succ (n c m : Nat) : dgs n c (m + 1) = dgs n c m ++ [n / 2 ^ (c * m) % 2 ^ c] := by
  unfold dgs
  rw [List.range_succ, List.map_append]
  rfl
theorem val_append (b : Nat) : ∀ l r : List Nat, val b (l ++ r) = val b l + b ^ l.length * val b r := by
  intro l
  induction l with
  | nil => intro r; show val b r = 0 + 1 * val b r; omega
  | cons x l ih =>
    intro r
    show x + b * val b (l ++ r) = x + b * val b l + b ^ (l.length + 1) * val b r
    rw [ih r, Nat.pow_succ, Nat.mul_add, Nat.add_assoc]
    congr 2
    rw [← Nat.mul_assoc, Nat.mul_comm b]
theorem val_dgs (n c m : Nat) : val (2 ^ c) (dgs n c m) + n / 2 ^ (c * m) * 2 ^ (c * m) = n := by
  induction m with
  | zero =>
    show 0 + n / 2 ^ (c * 0) * 2 ^ (c * 0) = n
    rw [Nat.mul_zero, Nat.pow_zero, Nat.div_one, Nat.mul_one, Nat.zero_add]
  | succ m ih =>
    rw [dgs_succ, val_append, dgs_len, ← Nat.pow_mul]
    show val (2 ^ c) (dgs n c m) + 2 ^ (c * m) * (n / 2 ^ (c * m) % 2 ^ c + 2 ^ c * 0) + _ = n
    rw [Nat.mul_zero, Nat.add_zero, show c * (m + 1) = c * m + c by rw [Nat.mul_add, Nat.mul_one], Nat.pow_add, ← Nat.div_div_eq_div_mul]
    generalize n / 2 ^ (c * m) = q at *
    have h := Nat.div_add_mod q (2 ^ c)
    have e : 2 ^ (c * m) * (q % 2 ^ c) + q / 2 ^ c * (2 ^ (c * m) * 2 ^ c) = q * 2 ^ (c * m) := by
      generalize 2 ^ (c * m) = Z at *
      generalize 2 ^ c = B at *
      calc Z * (q % B) + q / B * (Z * B) = Z * (B * (q / B) + q % B) := by grind
        _ = q * Z := by rw [h, Nat.mul_comm]
    omega
theorem val_zeros (b : Nat) : ∀ m : Nat, val b (List.replicate m 0 ++ [1]) = b ^ m := by
  intro m
  induction m with
  | zero => show 1 + b * 0 = 1; omega
  | succ m ih =>
    show 0 + b * val b (List.replicate m 0 ++ [1]) = _
    rw [ih, Nat.pow_succ, Nat.zero_add, Nat.mul_comm]
theorem dgs_val {c : Nat} {ds : List Nat} (hd : ∀ x ∈ ds, x < 2 ^ c) : dgs (val (2 ^ c) ds) c ds.length = ds := by
  refine List.ext_getElem? fun k => ?_
  unfold dgs
  rw [List.getElem?_map]
  by_cases h : k < ds.length
  · have e : ds[k]? = some ds[k] := List.getElem?_eq_getElem h
    rw [List.getElem?_range h, e]
    show some _ = _
    dsimp only
    rw [Nat.pow_mul, val_at (Nat.two_pow_pos c) hd e]
  · rw [List.getElem?_eq_none (by rw [List.length_range]; omega), List.getElem?_eq_none (by omega)]
    rfl
theorem val_take (b : Nat) {ds : List Nat} {k d : Nat} (h : ds[k]? = some d) : val b (ds.take (k + 1)) = val b (ds.take k) + d * b ^ k := by
  have hl : k < ds.length := (List.getElem?_eq_some_iff.mp h).1
  rw [List.take_succ, h, val_append, List.length_take, Nat.min_eq_left (by omega)]
  show _ + b ^ k * (d + b * 0) = _
  rw [Nat.mul_zero, Nat.add_zero, Nat.mul_comm (b ^ k)]
theorem list_ne_self {K : PySem.W.Frag} {H : Hp} {a b : Addr} {l : List Nat} {Q : VK} (ha : SqL K H a (toV l)) (hb : SqL K H b (toV l)) (q : Q (.bl false) H) : rNeD K (.ref a) (.ref b) H Q :=
  ⟨_, _, .lst ha (ints_dp l), .lst hb (ints_dp l), ints_shaped l, ints_shaped l, by rw [SeqAt.eqv_refl _ (SeqAt.canLay_of_shaped (ints_shaped _))]; exact q⟩
theorem list_eq_self {K : PySem.W.Frag} {H : Hp} {a b : Addr} {l : List Nat} {Q : VK} (ha : SqL K H a (toV l)) (hb : SqL K H b (toV l)) (q : Q (.bl true) H) : rEqD K (.ref a) (.ref b) H Q :=
  ⟨_, _, .lst ha (ints_dp l), .lst hb (ints_dp l), ints_shaped l, ints_shaped l, by rw [SeqAt.eqv_refl _ (SeqAt.canLay_of_shaped (ints_shaped _))]; exact q⟩
end RR
namespace RR
open PySem PySem.Spec PyProof.Rows L2
theorem rep_zero (m : Nat) : (List.replicate m [V.int 0]).flatten = toV (List.replicate m 0) := by
  induction m with
  | zero => rfl
  | succ m ih =>
    rw [List.replicate_succ, List.replicate_succ, List.flatten_cons, ih]
    rfl
theorem one_app (m : Nat) : toV (List.replicate m 0) ++ [V.int 1] = toV (List.replicate m 0 ++ [1]) := by
  rw [toV_app]
  rfl
end RR

namespace RR
open PySem PySem.Spec PyProof.Rows L2
namespace WK
variable {σ : L2.St} {H : Hp} {Q : VK}
theorem tV0 {v : V} {t : L2.St} (q : Q v H) : tVar 0 (some v :: t) H Q := ⟨v, rfl, q⟩
theorem tV1 {a0 : Option V} {v : V} {t : L2.St} (q : Q v H) : tVar 1 (a0 :: some v :: t) H Q := ⟨v, rfl, q⟩
theorem tV2 {a0 a1 : Option V} {v : V} {t : L2.St} (q : Q v H) : tVar 2 (a0 :: a1 :: some v :: t) H Q := ⟨v, rfl, q⟩
theorem tV3 {a0 a1 a2 : Option V} {v : V} {t : L2.St} (q : Q v H) : tVar 3 (a0 :: a1 :: a2 :: some v :: t) H Q := ⟨v, rfl, q⟩
theorem tV4 {a0 a1 a2 a3 : Option V} {v : V} {t : L2.St} (q : Q v H) : tVar 4 (a0 :: a1 :: a2 :: a3 :: some v :: t) H Q := ⟨v, rfl, q⟩
theorem tV5 {a0 a1 a2 a3 a4 : Option V} {v : V} {t : L2.St} (q : Q v H) : tVar 5 (a0 :: a1 :: a2 :: a3 :: a4 :: some v :: t) H Q := ⟨v, rfl, q⟩
theorem tV6 {a0 a1 a2 a3 a4 a5 : Option V} {v : V} {t : L2.St} (q : Q v H) : tVar 6 (a0 :: a1 :: a2 :: a3 :: a4 :: a5 :: some v :: t) H Q := ⟨v, rfl, q⟩
theorem tV7 {a0 a1 a2 a3 a4 a5 a6 : Option V} {v : V} {t : L2.St} (q : Q v H) : tVar 7 (a0 :: a1 :: a2 :: a3 :: a4 :: a5 :: a6 :: some v :: t) H Q := ⟨v, rfl, q⟩
theorem tV8 {a0 a1 a2 a3 a4 a5 a6 a7 : Option V} {v : V} {t : L2.St} (q : Q v H) : tVar 8 (a0 :: a1 :: a2 :: a3 :: a4 :: a5 :: a6 :: a7 :: some v :: t) H Q := ⟨v, rfl, q⟩
theorem tV9 {a0 a1 a2 a3 a4 a5 a6 a7 a8 : Option V} {v : V} {t : L2.St} (q : Q v H) : tVar 9 (a0 :: a1 :: a2 :: a3 :: a4 :: a5 :: a6 :: a7 :: a8 :: some v :: t) H Q := ⟨v, rfl, q⟩
theorem tV10 {a0 a1 a2 a3 a4 a5 a6 a7 a8 a9 : Option V} {v : V} {t : L2.St} (q : Q v H) : tVar 10 (a0 :: a1 :: a2 :: a3 :: a4 :: a5 :: a6 :: a7 :: a8 :: a9 :: some v :: t) H Q := ⟨v, rfl, q⟩
theorem tV11 {a0 a1 a2 a3 a4 a5 a6 a7 a8 a9 a10 : Option V} {v : V} {t : L2.St} (q : Q v H) : tVar 11 (a0 :: a1 :: a2 :: a3 :: a4 :: a5 :: a6 :: a7 :: a8 :: a9 :: a10 :: some v :: t) H Q := ⟨v, rfl, q⟩
theorem tV12 {a0 a1 a2 a3 a4 a5 a6 a7 a8 a9 a10 a11 : Option V} {v : V} {t : L2.St} (q : Q v H) : tVar 12 (a0 :: a1 :: a2 :: a3 :: a4 :: a5 :: a6 :: a7 :: a8 :: a9 :: a10 :: a11 :: some v :: t) H Q := ⟨v, rfl, q⟩
theorem tV13 {a0 a1 a2 a3 a4 a5 a6 a7 a8 a9 a10 a11 a12 : Option V} {v : V} {t : L2.St} (q : Q v H) : tVar 13 (a0 :: a1 :: a2 :: a3 :: a4 :: a5 :: a6 :: a7 :: a8 :: a9 :: a10 :: a11 :: a12 :: some v :: t) H Q := ⟨v, rfl, q⟩
theorem tV14 {a0 a1 a2 a3 a4 a5 a6 a7 a8 a9 a10 a11 a12 a13 : Option V} {v : V} {t : L2.St} (q : Q v H) : tVar 14 (a0 :: a1 :: a2 :: a3 :: a4 :: a5 :: a6 :: a7 :: a8 :: a9 :: a10 :: a11 :: a12 :: a13 :: some v :: t) H Q := ⟨v, rfl, q⟩
theorem tV15 {a0 a1 a2 a3 a4 a5 a6 a7 a8 a9 a10 a11 a12 a13 a14 : Option V} {v : V} {t : L2.St} (q : Q v H) : tVar 15 (a0 :: a1 :: a2 :: a3 :: a4 :: a5 :: a6 :: a7 :: a8 :: a9 :: a10 :: a11 :: a12 :: a13 :: a14 :: some v :: t) H Q := ⟨v, rfl, q⟩
theorem tV16 {a0 a1 a2 a3 a4 a5 a6 a7 a8 a9 a10 a11 a12 a13 a14 a15 : Option V} {v : V} {t : L2.St} (q : Q v H) : tVar 16 (a0 :: a1 :: a2 :: a3 :: a4 :: a5 :: a6 :: a7 :: a8 :: a9 :: a10 :: a11 :: a12 :: a13 :: a14 :: a15 :: some v :: t) H Q := ⟨v, rfl, q⟩
theorem tV17 {a0 a1 a2 a3 a4 a5 a6 a7 a8 a9 a10 a11 a12 a13 a14 a15 a16 : Option V} {v : V} {t : L2.St} (q : Q v H) : tVar 17 (a0 :: a1 :: a2 :: a3 :: a4 :: a5 :: a6 :: a7 :: a8 :: a9 :: a10 :: a11 :: a12 :: a13 :: a14 :: a15 :: a16 :: some v :: t) H Q := ⟨v, rfl, q⟩
theorem tV18 {a0 a1 a2 a3 a4 a5 a6 a7 a8 a9 a10 a11 a12 a13 a14 a15 a16 a17 : Option V} {v : V} {t : L2.St} (q : Q v H) : tVar 18 (a0 :: a1 :: a2 :: a3 :: a4 :: a5 :: a6 :: a7 :: a8 :: a9 :: a10 :: a11 :: a12 :: a13 :: a14 :: a15 :: a16 :: a17 :: some v :: t) H Q := ⟨v, rfl, q⟩
theorem tV19 {a0 a1 a2 a3 a4 a5 a6 a7 a8 a9 a10 a11 a12 a13 a14 a15 a16 a17 a18 : Option V} {v : V} {t : L2.St} (q : Q v H) : tVar 19 (a0 :: a1 :: a2 :: a3 :: a4 :: a5 :: a6 :: a7 :: a8 :: a9 :: a10 :: a11 :: a12 :: a13 :: a14 :: a15 :: a16 :: a17 :: a18 :: some v :: t) H Q := ⟨v, rfl, q⟩
theorem tV20 {a0 a1 a2 a3 a4 a5 a6 a7 a8 a9 a10 a11 a12 a13 a14 a15 a16 a17 a18 a19 : Option V} {v : V} {t : L2.St} (q : Q v H) : tVar 20 (a0 :: a1 :: a2 :: a3 :: a4 :: a5 :: a6 :: a7 :: a8 :: a9 :: a10 :: a11 :: a12 :: a13 :: a14 :: a15 :: a16 :: a17 :: a18 :: a19 :: some v :: t) H Q := ⟨v, rfl, q⟩
theorem tV21 {a0 a1 a2 a3 a4 a5 a6 a7 a8 a9 a10 a11 a12 a13 a14 a15 a16 a17 a18 a19 a20 : Option V} {v : V} {t : L2.St} (q : Q v H) : tVar 21 (a0 :: a1 :: a2 :: a3 :: a4 :: a5 :: a6 :: a7 :: a8 :: a9 :: a10 :: a11 :: a12 :: a13 :: a14 :: a15 :: a16 :: a17 :: a18 :: a19 :: a20 :: some v :: t) H Q := ⟨v, rfl, q⟩
theorem tV22 {a0 a1 a2 a3 a4 a5 a6 a7 a8 a9 a10 a11 a12 a13 a14 a15 a16 a17 a18 a19 a20 a21 : Option V} {v : V} {t : L2.St} (q : Q v H) : tVar 22 (a0 :: a1 :: a2 :: a3 :: a4 :: a5 :: a6 :: a7 :: a8 :: a9 :: a10 :: a11 :: a12 :: a13 :: a14 :: a15 :: a16 :: a17 :: a18 :: a19 :: a20 :: a21 :: some v :: t) H Q := ⟨v, rfl, q⟩
theorem tV23 {a0 a1 a2 a3 a4 a5 a6 a7 a8 a9 a10 a11 a12 a13 a14 a15 a16 a17 a18 a19 a20 a21 a22 : Option V} {v : V} {t : L2.St} (q : Q v H) : tVar 23 (a0 :: a1 :: a2 :: a3 :: a4 :: a5 :: a6 :: a7 :: a8 :: a9 :: a10 :: a11 :: a12 :: a13 :: a14 :: a15 :: a16 :: a17 :: a18 :: a19 :: a20 :: a21 :: a22 :: some v :: t) H Q := ⟨v, rfl, q⟩
theorem tV24 {a0 a1 a2 a3 a4 a5 a6 a7 a8 a9 a10 a11 a12 a13 a14 a15 a16 a17 a18 a19 a20 a21 a22 a23 : Option V} {v : V} {t : L2.St} (q : Q v H) : tVar 24 (a0 :: a1 :: a2 :: a3 :: a4 :: a5 :: a6 :: a7 :: a8 :: a9 :: a10 :: a11 :: a12 :: a13 :: a14 :: a15 :: a16 :: a17 :: a18 :: a19 :: a20 :: a21 :: a22 :: a23 :: some v :: t) H Q := ⟨v, rfl, q⟩
theorem tV25 {a0 a1 a2 a3 a4 a5 a6 a7 a8 a9 a10 a11 a12 a13 a14 a15 a16 a17 a18 a19 a20 a21 a22 a23 a24 : Option V} {v : V} {t : L2.St} (q : Q v H) : tVar 25 (a0 :: a1 :: a2 :: a3 :: a4 :: a5 :: a6 :: a7 :: a8 :: a9 :: a10 :: a11 :: a12 :: a13 :: a14 :: a15 :: a16 :: a17 :: a18 :: a19 :: a20 :: a21 :: a22 :: a23 :: a24 :: some v :: t) H Q := ⟨v, rfl, q⟩
theorem tV26 {a0 a1 a2 a3 a4 a5 a6 a7 a8 a9 a10 a11 a12 a13 a14 a15 a16 a17 a18 a19 a20 a21 a22 a23 a24 a25 : Option V} {v : V} {t : L2.St} (q : Q v H) : tVar 26 (a0 :: a1 :: a2 :: a3 :: a4 :: a5 :: a6 :: a7 :: a8 :: a9 :: a10 :: a11 :: a12 :: a13 :: a14 :: a15 :: a16 :: a17 :: a18 :: a19 :: a20 :: a21 :: a22 :: a23 :: a24 :: a25 :: some v :: t) H Q := ⟨v, rfl, q⟩
theorem tV27 {a0 a1 a2 a3 a4 a5 a6 a7 a8 a9 a10 a11 a12 a13 a14 a15 a16 a17 a18 a19 a20 a21 a22 a23 a24 a25 a26 : Option V} {v : V} {t : L2.St} (q : Q v H) : tVar 27 (a0 :: a1 :: a2 :: a3 :: a4 :: a5 :: a6 :: a7 :: a8 :: a9 :: a10 :: a11 :: a12 :: a13 :: a14 :: a15 :: a16 :: a17 :: a18 :: a19 :: a20 :: a21 :: a22 :: a23 :: a24 :: a25 :: a26 :: some v :: t) H Q := ⟨v, rfl, q⟩
theorem tV28 {a0 a1 a2 a3 a4 a5 a6 a7 a8 a9 a10 a11 a12 a13 a14 a15 a16 a17 a18 a19 a20 a21 a22 a23 a24 a25 a26 a27 : Option V} {v : V} {t : L2.St} (q : Q v H) : tVar 28 (a0 :: a1 :: a2 :: a3 :: a4 :: a5 :: a6 :: a7 :: a8 :: a9 :: a10 :: a11 :: a12 :: a13 :: a14 :: a15 :: a16 :: a17 :: a18 :: a19 :: a20 :: a21 :: a22 :: a23 :: a24 :: a25 :: a26 :: a27 :: some v :: t) H Q := ⟨v, rfl, q⟩
theorem tV29 {a0 a1 a2 a3 a4 a5 a6 a7 a8 a9 a10 a11 a12 a13 a14 a15 a16 a17 a18 a19 a20 a21 a22 a23 a24 a25 a26 a27 a28 : Option V} {v : V} {t : L2.St} (q : Q v H) : tVar 29 (a0 :: a1 :: a2 :: a3 :: a4 :: a5 :: a6 :: a7 :: a8 :: a9 :: a10 :: a11 :: a12 :: a13 :: a14 :: a15 :: a16 :: a17 :: a18 :: a19 :: a20 :: a21 :: a22 :: a23 :: a24 :: a25 :: a26 :: a27 :: a28 :: some v :: t) H Q := ⟨v, rfl, q⟩
theorem gN0 {R : L2.St → Hp → Prop} {v : V} {b : Option V} {t : L2.St} (q : R (some v :: t) H) : gName 0 v (b :: t) H R := q
theorem gN1 {R : L2.St → Hp → Prop} {a0 b : Option V} {v : V} {t : L2.St} (q : R (a0 :: some v :: t) H) : gName 1 v (a0 :: b :: t) H R := q
theorem gN2 {R : L2.St → Hp → Prop} {a0 a1 b : Option V} {v : V} {t : L2.St} (q : R (a0 :: a1 :: some v :: t) H) : gName 2 v (a0 :: a1 :: b :: t) H R := q
theorem gN3 {R : L2.St → Hp → Prop} {a0 a1 a2 b : Option V} {v : V} {t : L2.St} (q : R (a0 :: a1 :: a2 :: some v :: t) H) : gName 3 v (a0 :: a1 :: a2 :: b :: t) H R := q
theorem gN4 {R : L2.St → Hp → Prop} {a0 a1 a2 a3 b : Option V} {v : V} {t : L2.St} (q : R (a0 :: a1 :: a2 :: a3 :: some v :: t) H) : gName 4 v (a0 :: a1 :: a2 :: a3 :: b :: t) H R := q
theorem gN5 {R : L2.St → Hp → Prop} {a0 a1 a2 a3 a4 b : Option V} {v : V} {t : L2.St} (q : R (a0 :: a1 :: a2 :: a3 :: a4 :: some v :: t) H) : gName 5 v (a0 :: a1 :: a2 :: a3 :: a4 :: b :: t) H R := q
theorem gN6 {R : L2.St → Hp → Prop} {a0 a1 a2 a3 a4 a5 b : Option V} {v : V} {t : L2.St} (q : R (a0 :: a1 :: a2 :: a3 :: a4 :: a5 :: some v :: t) H) : gName 6 v (a0 :: a1 :: a2 :: a3 :: a4 :: a5 :: b :: t) H R := q
theorem gN7 {R : L2.St → Hp → Prop} {a0 a1 a2 a3 a4 a5 a6 b : Option V} {v : V} {t : L2.St} (q : R (a0 :: a1 :: a2 :: a3 :: a4 :: a5 :: a6 :: some v :: t) H) : gName 7 v (a0 :: a1 :: a2 :: a3 :: a4 :: a5 :: a6 :: b :: t) H R := q
theorem gN8 {R : L2.St → Hp → Prop} {a0 a1 a2 a3 a4 a5 a6 a7 b : Option V} {v : V} {t : L2.St} (q : R (a0 :: a1 :: a2 :: a3 :: a4 :: a5 :: a6 :: a7 :: some v :: t) H) : gName 8 v (a0 :: a1 :: a2 :: a3 :: a4 :: a5 :: a6 :: a7 :: b :: t) H R := q
theorem gN9 {R : L2.St → Hp → Prop} {a0 a1 a2 a3 a4 a5 a6 a7 a8 b : Option V} {v : V} {t : L2.St} (q : R (a0 :: a1 :: a2 :: a3 :: a4 :: a5 :: a6 :: a7 :: a8 :: some v :: t) H) : gName 9 v (a0 :: a1 :: a2 :: a3 :: a4 :: a5 :: a6 :: a7 :: a8 :: b :: t) H R := q
theorem gN10 {R : L2.St → Hp → Prop} {a0 a1 a2 a3 a4 a5 a6 a7 a8 a9 b : Option V} {v : V} {t : L2.St} (q : R (a0 :: a1 :: a2 :: a3 :: a4 :: a5 :: a6 :: a7 :: a8 :: a9 :: some v :: t) H) : gName 10 v (a0 :: a1 :: a2 :: a3 :: a4 :: a5 :: a6 :: a7 :: a8 :: a9 :: b :: t) H R := q
theorem gN11 {R : L2.St → Hp → Prop} {a0 a1 a2 a3 a4 a5 a6 a7 a8 a9 a10 b : Option V} {v : V} {t : L2.St} (q : R (a0 :: a1 :: a2 :: a3 :: a4 :: a5 :: a6 :: a7 :: a8 :: a9 :: a10 :: some v :: t) H) : gName 11 v (a0 :: a1 :: a2 :: a3 :: a4 :: a5 :: a6 :: a7 :: a8 :: a9 :: a10 :: b :: t) H R := q
theorem gN12 {R : L2.St → Hp → Prop} {a0 a1 a2 a3 a4 a5 a6 a7 a8 a9 a10 a11 b : Option V} {v : V} {t : L2.St} (q : R (a0 :: a1 :: a2 :: a3 :: a4 :: a5 :: a6 :: a7 :: a8 :: a9 :: a10 :: a11 :: some v :: t) H) : gName 12 v (a0 :: a1 :: a2 :: a3 :: a4 :: a5 :: a6 :: a7 :: a8 :: a9 :: a10 :: a11 :: b :: t) H R := q
theorem gN13 {R : L2.St → Hp → Prop} {a0 a1 a2 a3 a4 a5 a6 a7 a8 a9 a10 a11 a12 b : Option V} {v : V} {t : L2.St} (q : R (a0 :: a1 :: a2 :: a3 :: a4 :: a5 :: a6 :: a7 :: a8 :: a9 :: a10 :: a11 :: a12 :: some v :: t) H) : gName 13 v (a0 :: a1 :: a2 :: a3 :: a4 :: a5 :: a6 :: a7 :: a8 :: a9 :: a10 :: a11 :: a12 :: b :: t) H R := q
theorem gN14 {R : L2.St → Hp → Prop} {a0 a1 a2 a3 a4 a5 a6 a7 a8 a9 a10 a11 a12 a13 b : Option V} {v : V} {t : L2.St} (q : R (a0 :: a1 :: a2 :: a3 :: a4 :: a5 :: a6 :: a7 :: a8 :: a9 :: a10 :: a11 :: a12 :: a13 :: some v :: t) H) : gName 14 v (a0 :: a1 :: a2 :: a3 :: a4 :: a5 :: a6 :: a7 :: a8 :: a9 :: a10 :: a11 :: a12 :: a13 :: b :: t) H R := q
theorem gN15 {R : L2.St → Hp → Prop} {a0 a1 a2 a3 a4 a5 a6 a7 a8 a9 a10 a11 a12 a13 a14 b : Option V} {v : V} {t : L2.St} (q : R (a0 :: a1 :: a2 :: a3 :: a4 :: a5 :: a6 :: a7 :: a8 :: a9 :: a10 :: a11 :: a12 :: a13 :: a14 :: some v :: t) H) : gName 15 v (a0 :: a1 :: a2 :: a3 :: a4 :: a5 :: a6 :: a7 :: a8 :: a9 :: a10 :: a11 :: a12 :: a13 :: a14 :: b :: t) H R := q
theorem gN16 {R : L2.St → Hp → Prop} {a0 a1 a2 a3 a4 a5 a6 a7 a8 a9 a10 a11 a12 a13 a14 a15 b : Option V} {v : V} {t : L2.St} (q : R (a0 :: a1 :: a2 :: a3 :: a4 :: a5 :: a6 :: a7 :: a8 :: a9 :: a10 :: a11 :: a12 :: a13 :: a14 :: a15 :: some v :: t) H) : gName 16 v (a0 :: a1 :: a2 :: a3 :: a4 :: a5 :: a6 :: a7 :: a8 :: a9 :: a10 :: a11 :: a12 :: a13 :: a14 :: a15 :: b :: t) H R := q
theorem gN17 {R : L2.St → Hp → Prop} {a0 a1 a2 a3 a4 a5 a6 a7 a8 a9 a10 a11 a12 a13 a14 a15 a16 b : Option V} {v : V} {t : L2.St} (q : R (a0 :: a1 :: a2 :: a3 :: a4 :: a5 :: a6 :: a7 :: a8 :: a9 :: a10 :: a11 :: a12 :: a13 :: a14 :: a15 :: a16 :: some v :: t) H) : gName 17 v (a0 :: a1 :: a2 :: a3 :: a4 :: a5 :: a6 :: a7 :: a8 :: a9 :: a10 :: a11 :: a12 :: a13 :: a14 :: a15 :: a16 :: b :: t) H R := q
theorem gN18 {R : L2.St → Hp → Prop} {a0 a1 a2 a3 a4 a5 a6 a7 a8 a9 a10 a11 a12 a13 a14 a15 a16 a17 b : Option V} {v : V} {t : L2.St} (q : R (a0 :: a1 :: a2 :: a3 :: a4 :: a5 :: a6 :: a7 :: a8 :: a9 :: a10 :: a11 :: a12 :: a13 :: a14 :: a15 :: a16 :: a17 :: some v :: t) H) : gName 18 v (a0 :: a1 :: a2 :: a3 :: a4 :: a5 :: a6 :: a7 :: a8 :: a9 :: a10 :: a11 :: a12 :: a13 :: a14 :: a15 :: a16 :: a17 :: b :: t) H R := q
theorem gN19 {R : L2.St → Hp → Prop} {a0 a1 a2 a3 a4 a5 a6 a7 a8 a9 a10 a11 a12 a13 a14 a15 a16 a17 a18 b : Option V} {v : V} {t : L2.St} (q : R (a0 :: a1 :: a2 :: a3 :: a4 :: a5 :: a6 :: a7 :: a8 :: a9 :: a10 :: a11 :: a12 :: a13 :: a14 :: a15 :: a16 :: a17 :: a18 :: some v :: t) H) : gName 19 v (a0 :: a1 :: a2 :: a3 :: a4 :: a5 :: a6 :: a7 :: a8 :: a9 :: a10 :: a11 :: a12 :: a13 :: a14 :: a15 :: a16 :: a17 :: a18 :: b :: t) H R := q
theorem gN20 {R : L2.St → Hp → Prop} {a0 a1 a2 a3 a4 a5 a6 a7 a8 a9 a10 a11 a12 a13 a14 a15 a16 a17 a18 a19 b : Option V} {v : V} {t : L2.St} (q : R (a0 :: a1 :: a2 :: a3 :: a4 :: a5 :: a6 :: a7 :: a8 :: a9 :: a10 :: a11 :: a12 :: a13 :: a14 :: a15 :: a16 :: a17 :: a18 :: a19 :: some v :: t) H) : gName 20 v (a0 :: a1 :: a2 :: a3 :: a4 :: a5 :: a6 :: a7 :: a8 :: a9 :: a10 :: a11 :: a12 :: a13 :: a14 :: a15 :: a16 :: a17 :: a18 :: a19 :: b :: t) H R := q
theorem gN21 {R : L2.St → Hp → Prop} {a0 a1 a2 a3 a4 a5 a6 a7 a8 a9 a10 a11 a12 a13 a14 a15 a16 a17 a18 a19 a20 b : Option V} {v : V} {t : L2.St} (q : R (a0 :: a1 :: a2 :: a3 :: a4 :: a5 :: a6 :: a7 :: a8 :: a9 :: a10 :: a11 :: a12 :: a13 :: a14 :: a15 :: a16 :: a17 :: a18 :: a19 :: a20 :: some v :: t) H) : gName 21 v (a0 :: a1 :: a2 :: a3 :: a4 :: a5 :: a6 :: a7 :: a8 :: a9 :: a10 :: a11 :: a12 :: a13 :: a14 :: a15 :: a16 :: a17 :: a18 :: a19 :: a20 :: b :: t) H R := q
theorem gN22 {R : L2.St → Hp → Prop} {a0 a1 a2 a3 a4 a5 a6 a7 a8 a9 a10 a11 a12 a13 a14 a15 a16 a17 a18 a19 a20 a21 b : Option V} {v : V} {t : L2.St} (q : R (a0 :: a1 :: a2 :: a3 :: a4 :: a5 :: a6 :: a7 :: a8 :: a9 :: a10 :: a11 :: a12 :: a13 :: a14 :: a15 :: a16 :: a17 :: a18 :: a19 :: a20 :: a21 :: some v :: t) H) : gName 22 v (a0 :: a1 :: a2 :: a3 :: a4 :: a5 :: a6 :: a7 :: a8 :: a9 :: a10 :: a11 :: a12 :: a13 :: a14 :: a15 :: a16 :: a17 :: a18 :: a19 :: a20 :: a21 :: b :: t) H R := q
theorem gN23 {R : L2.St → Hp → Prop} {a0 a1 a2 a3 a4 a5 a6 a7 a8 a9 a10 a11 a12 a13 a14 a15 a16 a17 a18 a19 a20 a21 a22 b : Option V} {v : V} {t : L2.St} (q : R (a0 :: a1 :: a2 :: a3 :: a4 :: a5 :: a6 :: a7 :: a8 :: a9 :: a10 :: a11 :: a12 :: a13 :: a14 :: a15 :: a16 :: a17 :: a18 :: a19 :: a20 :: a21 :: a22 :: some v :: t) H) : gName 23 v (a0 :: a1 :: a2 :: a3 :: a4 :: a5 :: a6 :: a7 :: a8 :: a9 :: a10 :: a11 :: a12 :: a13 :: a14 :: a15 :: a16 :: a17 :: a18 :: a19 :: a20 :: a21 :: a22 :: b :: t) H R := q
theorem gN24 {R : L2.St → Hp → Prop} {a0 a1 a2 a3 a4 a5 a6 a7 a8 a9 a10 a11 a12 a13 a14 a15 a16 a17 a18 a19 a20 a21 a22 a23 b : Option V} {v : V} {t : L2.St} (q : R (a0 :: a1 :: a2 :: a3 :: a4 :: a5 :: a6 :: a7 :: a8 :: a9 :: a10 :: a11 :: a12 :: a13 :: a14 :: a15 :: a16 :: a17 :: a18 :: a19 :: a20 :: a21 :: a22 :: a23 :: some v :: t) H) : gName 24 v (a0 :: a1 :: a2 :: a3 :: a4 :: a5 :: a6 :: a7 :: a8 :: a9 :: a10 :: a11 :: a12 :: a13 :: a14 :: a15 :: a16 :: a17 :: a18 :: a19 :: a20 :: a21 :: a22 :: a23 :: b :: t) H R := q
theorem gN25 {R : L2.St → Hp → Prop} {a0 a1 a2 a3 a4 a5 a6 a7 a8 a9 a10 a11 a12 a13 a14 a15 a16 a17 a18 a19 a20 a21 a22 a23 a24 b : Option V} {v : V} {t : L2.St} (q : R (a0 :: a1 :: a2 :: a3 :: a4 :: a5 :: a6 :: a7 :: a8 :: a9 :: a10 :: a11 :: a12 :: a13 :: a14 :: a15 :: a16 :: a17 :: a18 :: a19 :: a20 :: a21 :: a22 :: a23 :: a24 :: some v :: t) H) : gName 25 v (a0 :: a1 :: a2 :: a3 :: a4 :: a5 :: a6 :: a7 :: a8 :: a9 :: a10 :: a11 :: a12 :: a13 :: a14 :: a15 :: a16 :: a17 :: a18 :: a19 :: a20 :: a21 :: a22 :: a23 :: a24 :: b :: t) H R := q
theorem gN26 {R : L2.St → Hp → Prop} {a0 a1 a2 a3 a4 a5 a6 a7 a8 a9 a10 a11 a12 a13 a14 a15 a16 a17 a18 a19 a20 a21 a22 a23 a24 a25 b : Option V} {v : V} {t : L2.St} (q : R (a0 :: a1 :: a2 :: a3 :: a4 :: a5 :: a6 :: a7 :: a8 :: a9 :: a10 :: a11 :: a12 :: a13 :: a14 :: a15 :: a16 :: a17 :: a18 :: a19 :: a20 :: a21 :: a22 :: a23 :: a24 :: a25 :: some v :: t) H) : gName 26 v (a0 :: a1 :: a2 :: a3 :: a4 :: a5 :: a6 :: a7 :: a8 :: a9 :: a10 :: a11 :: a12 :: a13 :: a14 :: a15 :: a16 :: a17 :: a18 :: a19 :: a20 :: a21 :: a22 :: a23 :: a24 :: a25 :: b :: t) H R := q
theorem gN27 {R : L2.St → Hp → Prop} {a0 a1 a2 a3 a4 a5 a6 a7 a8 a9 a10 a11 a12 a13 a14 a15 a16 a17 a18 a19 a20 a21 a22 a23 a24 a25 a26 b : Option V} {v : V} {t : L2.St} (q : R (a0 :: a1 :: a2 :: a3 :: a4 :: a5 :: a6 :: a7 :: a8 :: a9 :: a10 :: a11 :: a12 :: a13 :: a14 :: a15 :: a16 :: a17 :: a18 :: a19 :: a20 :: a21 :: a22 :: a23 :: a24 :: a25 :: a26 :: some v :: t) H) : gName 27 v (a0 :: a1 :: a2 :: a3 :: a4 :: a5 :: a6 :: a7 :: a8 :: a9 :: a10 :: a11 :: a12 :: a13 :: a14 :: a15 :: a16 :: a17 :: a18 :: a19 :: a20 :: a21 :: a22 :: a23 :: a24 :: a25 :: a26 :: b :: t) H R := q
theorem gN28 {R : L2.St → Hp → Prop} {a0 a1 a2 a3 a4 a5 a6 a7 a8 a9 a10 a11 a12 a13 a14 a15 a16 a17 a18 a19 a20 a21 a22 a23 a24 a25 a26 a27 b : Option V} {v : V} {t : L2.St} (q : R (a0 :: a1 :: a2 :: a3 :: a4 :: a5 :: a6 :: a7 :: a8 :: a9 :: a10 :: a11 :: a12 :: a13 :: a14 :: a15 :: a16 :: a17 :: a18 :: a19 :: a20 :: a21 :: a22 :: a23 :: a24 :: a25 :: a26 :: a27 :: some v :: t) H) : gName 28 v (a0 :: a1 :: a2 :: a3 :: a4 :: a5 :: a6 :: a7 :: a8 :: a9 :: a10 :: a11 :: a12 :: a13 :: a14 :: a15 :: a16 :: a17 :: a18 :: a19 :: a20 :: a21 :: a22 :: a23 :: a24 :: a25 :: a26 :: a27 :: b :: t) H R := q
theorem gN29 {R : L2.St → Hp → Prop} {a0 a1 a2 a3 a4 a5 a6 a7 a8 a9 a10 a11 a12 a13 a14 a15 a16 a17 a18 a19 a20 a21 a22 a23 a24 a25 a26 a27 a28 b : Option V} {v : V} {t : L2.St} (q : R (a0 :: a1 :: a2 :: a3 :: a4 :: a5 :: a6 :: a7 :: a8 :: a9 :: a10 :: a11 :: a12 :: a13 :: a14 :: a15 :: a16 :: a17 :: a18 :: a19 :: a20 :: a21 :: a22 :: a23 :: a24 :: a25 :: a26 :: a27 :: a28 :: some v :: t) H) : gName 29 v (a0 :: a1 :: a2 :: a3 :: a4 :: a5 :: a6 :: a7 :: a8 :: a9 :: a10 :: a11 :: a12 :: a13 :: a14 :: a15 :: a16 :: a17 :: a18 :: a19 :: a20 :: a21 :: a22 :: a23 :: a24 :: a25 :: a26 :: a27 :: a28 :: b :: t) H R := q
theorem op {r : R2} {ta tb : TE} (q : ta σ H fun x H1 => tb σ H1 fun y H2 => r x y H2 Q) : tOp r ta tb σ H Q := q
theorem un {r : V → Hp → VK → Prop} {ta : TE} (q : ta σ H fun x H1 => r x H1 Q) : tUn r ta σ H Q := q
theorem rU_ {g : Int → V} {i : Int} (q : Q (g i) H) : rU g (.int i) H Q := ⟨i, rfl, q⟩
theorem i0 {g : Int → Int → V} {i j : Int} (q : Q (g i j) H) : rI0 g (.int i) (.int j) H Q := ⟨i, j, rfl, rfl, q⟩
theorem nil {Q : List V → Hp → Prop} (q : Q [] H) : tNil σ H Q := q
theorem cons {ta : TE} {tr : TA} {Q : List V → Hp → Prop} (q : ta σ H fun x H1 => tr σ H1 fun xs H2 => Q (x :: xs) H2) : tCons ta tr σ H Q := q
theorem cst {v : V} (q : Q v H) : tC v σ H Q := q
theorem nopart {Q : Option Int → Hp → Prop} (q : Q none H) : tNoPart σ H Q := q
theorem part {t : TE} {Q : Option Int → Hp → Prop} (q : t σ H fun x H1 => ∃ i, x = .int i ∧ Q (some i) H1) : tPart t σ H Q := q
theorem part2 {i : Int} {Q : Option Int → Hp → Prop} (q : Q (some i) H) : ∃ j, V.int i = .int j ∧ Q (some j) H := ⟨i, rfl, q⟩
theorem nxt {D : Ends} (q : D.nx σ H) : tNext D σ H := q
theorem seq {D : Ends} {t u : TS} (q : t { D with nx := u D } σ H) : tSeq t u D σ H := q
theorem drop {D : Ends} {te : TE} (q : te σ H fun _ H1 => D.nx σ H1) : tDrop te D σ H := q
theorem ret {D : Ends} {te : TE} (q : te σ H D.rt) : tRet te D σ H := q
theorem retN {D : Ends} (q : D.rt .non H) : tRetN D σ H := q
theorem brk {D : Ends} (q : D.bk σ H) : tBreak D σ H := q
theorem cnt {D : Ends} (q : D.ct σ H) : tCont D σ H := q
theorem ifs {D : Ends} {c : TT} {t u : TS} (q : c σ H fun b H1 => if b = true then t D σ H1 else u D σ H1) : tIfS c t u D σ H := q
theorem asg {D : Ends} {te : TE} {g : TG} (q : te σ H fun x H1 => g x σ H1 D.nx) : tAsg te g D σ H := q
theorem test {t : TE} {Q : Bool → Hp → Prop} (q : t σ H fun x H1 => ∃ k, x = .bl k ∧ Q k H1) : tTest t σ H Q := q
theorem tb {t : TE} {Q : Bool → Hp → Prop} (q : t σ H fun x H1 => ∃ k, x = .bl k ∧ Q k H1) : tB t σ H Q := q
theorem bl {k : Bool} {Q : Bool → Hp → Prop} (q : Q k H) : ∃ c, V.bl k = .bl c ∧ Q c H := ⟨k, rfl, q⟩
theorem blif {k : Bool} {Q R : Prop} (q : if k = true then Q else R) : ∃ c, V.bl k = .bl c ∧ if c = true then Q else R := ⟨k, rfl, q⟩
theorem ift {Q R : Prop} (q : Q) : if true = true then Q else R := q
theorem iff {Q R : Prop} (q : R) : if false = true then Q else R := q
theorem and_ {t u : TT} {Q : Bool → Hp → Prop} (q : t σ H fun c H1 => if c = true then u σ H1 Q else Q false H1) : tAnd t u σ H Q := q
theorem or_ {t u : TT} {Q : Bool → Hp → Prop} (q : t σ H fun c H1 => if c = true then Q true H1 else u σ H1 Q) : tOr t u σ H Q := q
theorem not_ {t : TT} {Q : Bool → Hp → Prop} (q : t σ H fun c H1 => Q (!c) H1) : tNot t σ H Q := q
theorem andv {ta tb : TE} (q : ta σ H fun x H1 => ∃ c, x = .bl c ∧ if c = true then tb σ H1 Q else Q (.bl false) H1) : tAndV ta tb σ H Q := q
theorem orv {ta tb : TE} (q : ta σ H fun x H1 => ∃ c, x = .bl c ∧ if c = true then Q (.bl true) H1 else tb σ H1 Q) : tOrV ta tb σ H Q := q
theorem notv {ta : TE} (q : ta σ H fun x H1 => ∃ c, x = .bl c ∧ Q (.bl (!c)) H1) : tNotV ta σ H Q := q
theorem notv2 {k : Bool} (q : Q (.bl (!k)) H) : ∃ c, V.bl k = .bl c ∧ Q (.bl (!c)) H := ⟨k, rfl, q⟩
theorem if_ {t : TT} {ta tb : TE} (q : t σ H fun c H1 => if c = true then ta σ H1 Q else tb σ H1 Q) : tIf t ta tb σ H Q := q
theorem yes {Q : Bool → Hp → Prop} (q : Q true H) : tYes σ H Q := q
theorem bm0 {K : PySem.W.Frag} {T : String} {r : V → List V → Hp → VK → Prop} {to : TE} (q : to σ H fun x H1 => tyV K T x H1 ∧ r x [] H1 Q) : tBM0 K T r to σ H Q := q
theorem bm {K : PySem.W.Frag} {T : String} {r : V → List V → Hp → VK → Prop} {to : TE} {t : TA} (q : to σ H fun x H1 => tyV K T x H1 ∧ t σ H1 fun xs H2 => r x xs H2 Q) : tBM K T r to t σ H Q := q
theorem sl {r : V → Option Int → Option Int → Hp → VK → Prop} {te : TE} {tl th : TO} (q : te σ H fun x H1 => tl σ H1 fun l H2 => th σ H2 fun u H3 => r x l u H3 Q) : tSl r te tl th σ H Q := q
theorem cal {sp : Sp} {t : TA} (q : t σ H fun vs H1 => sp vs H1 Q L2.E0) : tCal sp t σ H Q := q
theorem cb {r : List V → Hp → VK → Prop} {t : TA} (q : t σ H fun vs H1 => r vs H1 Q) : tCB r t σ H Q := q
theorem gnil {R : L2.St → Hp → Prop} (q : R σ H) : gNil [] σ H R := ⟨rfl, q⟩
theorem gcons {t : TG} {u : TGs} {v : V} {r : List V} {R : L2.St → Hp → Prop} (q : t v σ H fun σ2 H2 => u r σ2 H2 R) : gCons t u (v :: r) σ H R := ⟨v, r, rfl, q⟩
theorem gsub {to ti : TE} {t : TSet} {v : V} {R : L2.St → Hp → Prop} (q : to σ H fun o H1 => ti σ H1 fun i H2 => t o i v H2 fun H3 => R σ H3) : gSub to ti t v σ H R := q
theorem rng1 {ta : TA} {R : It → Hp → Prop} (q : ta σ H fun vs H1 => ∃ j : Int, vs = [.int j] ∧ -(2 ^ 62) ≤ j ∧ j < 2 ^ 62 ∧ R (Itr 0 j.toNat) H1) : iRng1 ta σ H R := q
theorem rng1b {j : Int} {R : It → Hp → Prop} (q : -(2 ^ 62) ≤ j ∧ j < 2 ^ 62 ∧ R (Itr 0 j.toNat) H) : ∃ i : Int, [V.int j] = [.int i] ∧ -(2 ^ 62) ≤ i ∧ i < 2 ^ 62 ∧ R (Itr 0 i.toNat) H := ⟨j, rfl, q⟩
theorem zip_ {K : PySem.W.Frag} {ta : TA} {R : It → Hp → Prop} (q : ta σ H fun vs H1 => ∃ a b xs ys, vs = [.ref a, .ref b] ∧ SqL K H1 a xs ∧ SqL K H1 b ys ∧ R (Itz K a b) H1) : iZip K ta σ H R := q
theorem ilist {K : PySem.W.Frag} {tl : TE} {R : It → Hp → Prop} (q : tl σ H fun x H1 => ∃ a, x = .ref a ∧ (∃ xs, SqL K H1 a xs) ∧ R (Itl K a) H1) : iList K tl σ H R := q
theorem itup {K : PySem.W.Frag} {tl : TE} {R : It → Hp → Prop} (q : tl σ H fun x H1 => ∃ a, x = .ref a ∧ (∃ xs, SqT K H1 a xs) ∧ R (Itt K a) H1) : iTup K tl σ H R := q
theorem lc {wi : TI} {g : TG} {tt : TT} {te : TE} {vs : List Nat} (q : wi σ H fun J H1 => ∀ D, H1 D = none → ∃ W : Nat → Nat → Hp → Prop, (∃ m, W 0 m (upd H1 D (.lst []))) ∧ ∀ i m H, W i m H → (J.stop i H ∧ Q (.ref D) H) ∨ (J.go i H ∧ ∃ Nx : Hp → Prop, (∀ H', Nx H' → ∃ m', m' < m ∧ W (i + 1) m' H') ∧ ∀ x H', J.yld i H x H' → g x (wipe σ vs) H' fun σ2 H2 => wipe σ2 vs = wipe σ vs ∧ tt σ2 H2 fun b H3 => if b = true then te σ2 H3 fun y H4 => ∃ acc, H4 D = some (.lst acc) ∧ acc.length < sizeLine ∧ Nx (upd H4 D (.lst (acc ++ [y]))) else Nx H3)) : tLc wi g tt te vs σ H Q := q
theorem eq_i {i j : Int} (q : Q (.bl (decide (V.int i = V.int j))) H) : rEq (.int i) (.int j) H Q := ⟨rfl, q⟩
theorem ne_i {i j : Int} (q : Q (.bl (!decide (V.int i = V.int j))) H) : rNe (.int i) (.int j) H Q := ⟨rfl, q⟩
theorem i1 {C : Int → Int → Prop} {g : Int → Int → V} {i j : Int} (hc : C i j) (q : Q (g i j) H) : rI C g (.int i) (.int j) H Q := ⟨i, j, rfl, rfl, hc, q⟩
theorem tup {t : TA} (q : t σ H fun xs H1 => xs.length ≤ sizeLine ∧ ∀ p, H1 p = none → Q (.ref p) (upd H1 p (.tup xs))) : tTup t σ H Q := q
theorem lst {t : TA} (q : t σ H fun xs H1 => xs.length ≤ sizeLine ∧ ∀ p, H1 p = none → Q (.ref p) (upd H1 p (.lst xs))) : tLst t σ H Q := q
theorem par {D : Ends} {i j : Nat} {ta : TA} (q : ta σ H fun vs H1 => ∃ v w, vs = [v, w] ∧ gName i v σ H1 fun σ1 H2 => gName j w σ1 H2 D.nx) : tPar i j ta D σ H := q
theorem ex1 {i : Int} {R : Int → Prop} (q : R i) : ∃ j, [V.int i] = [V.int j] ∧ R j := ⟨i, rfl, q⟩
theorem exI {i : Int} {R : Int → Prop} (q : R i) : ∃ j, V.int i = V.int j ∧ R j := ⟨i, rfl, q⟩
theorem exB {k : Bool} {R : Bool → Prop} (q : R k) : ∃ c, V.bl k = V.bl c ∧ R c := ⟨k, rfl, q⟩
theorem par2 {v w : V} {R : V → V → Prop} (q : R v w) : ∃ v2 w2, [v, w] = [v2, w2] ∧ R v2 w2 := ⟨v, w, rfl, q⟩
theorem aug {D : Ends} {i : Nat} {te : TE} {ti : TIp} (q : ∃ x, σ[i]? = some (some x) ∧ te σ H fun y H1 => ti x y H1 fun z H2 => gName i z σ H2 D.nx) : tAug i te ti D σ H := q
theorem for_ {D : Ends} {wi : TI} {g : TG} {tb : TS} (q : wi σ H fun J H1 => ∃ W : Nat → Nat → L2.St → Hp → Prop, (∃ m, W 0 m σ H1) ∧ ∀ i m σ H, W i m σ H →   (J.stop i H ∧ D.nx σ H) ∨ (J.go i H ∧ ∃ N : L2.St → Hp → Prop, (∀ σ' H', N σ' H' → ∃ m', m' < m ∧ W (i + 1) m' σ' H') ∧ ∀ x H', J.yld i H x H' → g x σ H' fun σ2 H2 => tb { D with nx := N, ct := N, bk := D.nx } σ2 H2)) : tFor wi g tb D σ H := q
theorem nift {Q R : Prop} (q : R) : if (!true) = true then Q else R := q
theorem niff {Q R : Prop} (q : Q) : if (!false) = true then Q else R := q
end WK
end RR

namespace RR
open PySem PySem.Spec PyProof.Rows L2
def topS (i : Nat) : Stmt := PySem.Challenge.pw_runroots_k10_digits.main.body.getD i (.Pass ⟨0, 0, 0, 0⟩)
abbrev s__law_draws : Stmt := topS 5
theorem st__law_draws {v0 v1 : V} : L2.start ["script", "many", "draws", "seed", "cell", "number", "k"] [v0, v1] = [some v0, some v1, none, none, none, none, none] := rfl
theorem sc__law_draws : FnScope ["script", "many", "draws", "seed", "cell", "number", "k"] ["script", "many"] (defScope s__law_draws) := ⟨rfl, rfl, rfl, by decide +kernel, rfl, by decide +kernel, by decide +kernel⟩
abbrev s__ones : Stmt := topS 2
theorem st__ones {v0 : V} : L2.start ["length"] [v0] = [some v0] := rfl
theorem sc__ones : FnScope ["length"] ["length"] (defScope s__ones) := ⟨rfl, rfl, rfl, by decide +kernel, rfl, by decide +kernel, by decide +kernel⟩
abbrev s_digits_of : Stmt := topS 1
theorem st_digits_of {v0 v1 v2 : V} : L2.start ["number", "c", "count", "width", "parts", "low", "shift", "part", "half"] [v0, v1, v2] = [some v0, some v1, some v2, none, none, none, none, none, none] := rfl
theorem sc_digits_of : FnScope ["number", "c", "count", "width", "parts", "low", "shift", "part", "half"] ["number", "c", "count"] (defScope s_digits_of) := ⟨rfl, rfl, rfl, by decide +kernel, rfl, by decide +kernel, by decide +kernel⟩
abbrev s_number_of : Stmt := topS 3
theorem st_number_of {v0 v1 : V} : L2.start ["digits", "c", "parts", "shift", "low", "high"] [v0, v1] = [some v0, some v1, none, none, none, none] := rfl
theorem sc_number_of : FnScope ["digits", "c", "parts", "shift", "low", "high"] ["digits", "c"] (defScope s_number_of) := ⟨rfl, rfl, rfl, by decide +kernel, rfl, by decide +kernel, by decide +kernel⟩
abbrev s_law : Stmt := topS 6
theorem st_law {v0 : V} : L2.start ["script", "draws", "c", "count", "base", "number", "k", "found", "rest", "due", "digits", "total", "power", "digit"] [v0] = [some v0, none, none, none, none, none, none, none, none, none, none, none, none, none] := rfl
theorem sc_law : FnScope ["script", "draws", "c", "count", "base", "number", "k", "found", "rest", "due", "digits", "total", "power", "digit"] ["script"] (defScope s_law) := ⟨rfl, rfl, rfl, by decide +kernel, rfl, by decide +kernel, by decide +kernel⟩
local macro_rules | `(tactic| walk_at "sm") => `(tactic| first
  | assumption
  | exact Sm.lit (k := 64)
  | (refine' Sm.mul ?h1 ?h2; (case h1 => walk_at "sm"); (case h2 => walk_at "sm"))
  | (refine' Sm.ad ?h1 ?h2; (case h1 => walk_at "sm"); (case h2 => walk_at "sm"))
  | (refine' Sm.sb ?h1 ?h2; (case h1 => walk_at "sm"); (case h2 => walk_at "sm"))
  | (refine' Sm.neg ?h1; (case h1 => walk_at "sm"))
  | fail "sm")
local macro_rules | `(tactic| walk_at "rd") => `(tactic| repeat' first
  | (refine ⟨_, rfl, ?_⟩)
  | (refine ⟨_, _, rfl, rfl, ?_⟩)
  | (with_reducible refine tC_go ?_)
  | (with_reducible refine tNil_go ?_)
  | (with_reducible refine tNoPart_go ?_)
  | (with_reducible refine gTup_new (by with_unfolding_all rfl) ?_)
  | (with_reducible refine gTup_as (by first | exact sq_of (by assumption) | with_unfolding_all assumption) (by with_unfolding_all rfl) ?_)
  | (with_reducible refine ixT_new (by with_unfolding_all rfl) ?_)
  | (with_reducible refine ixT_as (by first | exact sq_of (by assumption) | with_unfolding_all assumption) (by with_unfolding_all rfl) ?_)
  | (refine ⟨_, _, (rfl : _ :: _ = _ :: _), ?_⟩)
  | (refine ⟨_, _, _, (rfl : _ :: _ = _ :: _), ?_⟩)
  | (refine ⟨rfl, ?_⟩)
  | (show _ ∧ _; refine And.intro (by omega) ?_)
  | ((with_reducible show CMulX _ _ ∧ _); refine And.intro (Sm.mx (by walk_at "sm") (by walk_at "sm") (by omega)) ?_)
  | ((with_reducible show CPow _ _ ∧ _); refine And.intro ⟨by decide, by decide, by decide⟩ ?_)
  | ((with_reducible show CDivW _ _ ∧ _); refine And.intro ⟨by first | omega | decide, by decide⟩ ?_)
  | (show _ ∧ _; refine And.intro (by assumption) ?_)
  | (show _ ∧ _; refine And.intro (Nat.le_of_ble_eq_true rfl) ?_)
  | ((with_reducible show tyV _ "list" _ _ ∧ _); refine And.intro (.inl ⟨rfl, _, .inl (.inl (by assumption))⟩) ?_)
  | fail "rd")
local macro_rules | `(tactic| walk_at "wk") => `(tactic| repeat' first
  | (with_reducible refine WK.op ?_)
  | (with_reducible refine WK.un ?_)
  | (with_reducible refine WK.rU_ ?_)
  | (with_reducible refine WK.i0 ?_)
  | (with_reducible refine WK.nil ?_)
  | (with_reducible refine WK.cons ?_)
  | (with_reducible refine WK.cst ?_)
  | (with_reducible refine WK.nopart ?_)
  | (with_reducible refine WK.part ?_)
  | (with_reducible refine WK.part2 ?_)
  | (with_reducible refine WK.nxt ?_)
  | (with_reducible refine WK.seq ?_)
  | (with_reducible refine WK.drop ?_)
  | (with_reducible refine WK.ret ?_)
  | (with_reducible refine WK.retN ?_)
  | (with_reducible refine WK.brk ?_)
  | (with_reducible refine WK.cnt ?_)
  | (with_reducible refine WK.ifs ?_)
  | (with_reducible refine WK.asg ?_)
  | (with_reducible refine WK.test ?_)
  | (with_reducible refine WK.tb ?_)
  | (with_reducible refine WK.bl ?_)
  | (with_reducible refine WK.blif ?_)
  | (with_reducible refine WK.ift ?_)
  | (with_reducible refine WK.iff ?_)
  | (with_reducible refine WK.nift ?_)
  | (with_reducible refine WK.niff ?_)
  | (with_reducible refine WK.and_ ?_)
  | (with_reducible refine WK.or_ ?_)
  | (with_reducible refine WK.not_ ?_)
  | (with_reducible refine WK.andv ?_)
  | (with_reducible refine WK.orv ?_)
  | (with_reducible refine WK.notv ?_)
  | (with_reducible refine WK.notv2 ?_)
  | (with_reducible refine WK.if_ ?_)
  | (with_reducible refine WK.yes ?_)
  | (with_reducible refine WK.bm0 ?_)
  | (with_reducible refine WK.bm ?_)
  | (with_reducible refine WK.sl ?_)
  | (with_reducible refine WK.cal ?_)
  | (with_reducible refine WK.cb ?_)
  | (with_reducible refine WK.gnil ?_)
  | (with_reducible refine WK.gcons ?_)
  | (with_reducible refine WK.gsub ?_)
  | (with_reducible refine WK.rng1 ?_)
  | (with_reducible refine WK.rng1b ?_)
  | (with_reducible refine WK.zip_ ?_)
  | (with_reducible refine WK.ilist ?_)
  | (with_reducible refine WK.itup ?_)
  | (with_reducible refine WK.lc ?_)
  | (with_reducible refine WK.eq_i ?_)
  | (with_reducible refine WK.ne_i ?_)
  | (with_reducible refine WK.tup ?_)
  | (with_reducible refine WK.lst ?_)
  | (with_reducible refine WK.par ?_)
  | (with_reducible refine WK.par2 ?_)
  | (with_reducible refine WK.for_ ?_)
  | (with_reducible refine WK.aug ?_)
  | (with_reducible refine WK.ex1 ?_)
  | (with_reducible refine WK.exI ?_)
  | (with_reducible refine WK.exB ?_)
  | (with_reducible show CMulX _ _); exact Sm.mx (by walk_at "sm") (by walk_at "sm") (by omega)
  | (with_reducible refine WK.tV0 ?_)
  | (with_reducible refine WK.tV1 ?_)
  | (with_reducible refine WK.tV2 ?_)
  | (with_reducible refine WK.tV3 ?_)
  | (with_reducible refine WK.tV4 ?_)
  | (with_reducible refine WK.tV5 ?_)
  | (with_reducible refine WK.tV6 ?_)
  | (with_reducible refine WK.tV7 ?_)
  | (with_reducible refine WK.tV8 ?_)
  | (with_reducible refine WK.tV9 ?_)
  | (with_reducible refine WK.tV10 ?_)
  | (with_reducible refine WK.tV11 ?_)
  | (with_reducible refine WK.tV12 ?_)
  | (with_reducible refine WK.tV13 ?_)
  | (with_reducible refine WK.tV14 ?_)
  | (with_reducible refine WK.tV15 ?_)
  | (with_reducible refine WK.tV16 ?_)
  | (with_reducible refine WK.tV17 ?_)
  | (with_reducible refine WK.tV18 ?_)
  | (with_reducible refine WK.tV19 ?_)
  | (with_reducible refine WK.tV20 ?_)
  | (with_reducible refine WK.tV21 ?_)
  | (with_reducible refine WK.tV22 ?_)
  | (with_reducible refine WK.tV23 ?_)
  | (with_reducible refine WK.tV24 ?_)
  | (with_reducible refine WK.tV25 ?_)
  | (with_reducible refine WK.tV26 ?_)
  | (with_reducible refine WK.tV27 ?_)
  | (with_reducible refine WK.tV28 ?_)
  | (with_reducible refine WK.tV29 ?_)
  | (with_reducible refine WK.gN0 ?_)
  | (with_reducible refine WK.gN1 ?_)
  | (with_reducible refine WK.gN2 ?_)
  | (with_reducible refine WK.gN3 ?_)
  | (with_reducible refine WK.gN4 ?_)
  | (with_reducible refine WK.gN5 ?_)
  | (with_reducible refine WK.gN6 ?_)
  | (with_reducible refine WK.gN7 ?_)
  | (with_reducible refine WK.gN8 ?_)
  | (with_reducible refine WK.gN9 ?_)
  | (with_reducible refine WK.gN10 ?_)
  | (with_reducible refine WK.gN11 ?_)
  | (with_reducible refine WK.gN12 ?_)
  | (with_reducible refine WK.gN13 ?_)
  | (with_reducible refine WK.gN14 ?_)
  | (with_reducible refine WK.gN15 ?_)
  | (with_reducible refine WK.gN16 ?_)
  | (with_reducible refine WK.gN17 ?_)
  | (with_reducible refine WK.gN18 ?_)
  | (with_reducible refine WK.gN19 ?_)
  | (with_reducible refine WK.gN20 ?_)
  | (with_reducible refine WK.gN21 ?_)
  | (with_reducible refine WK.gN22 ?_)
  | (with_reducible refine WK.gN23 ?_)
  | (with_reducible refine WK.gN24 ?_)
  | (with_reducible refine WK.gN25 ?_)
  | (with_reducible refine WK.gN26 ?_)
  | (with_reducible refine WK.gN27 ?_)
  | (with_reducible refine WK.gN28 ?_)
  | (with_reducible refine WK.gN29 ?_)
  | (with_reducible refine gTup_new (by with_unfolding_all rfl) ?_)
  | (with_reducible refine gTup_as (by first | exact sq_of (by assumption) | with_unfolding_all assumption) (by with_unfolding_all rfl) ?_)
  | (with_reducible refine ixT_new (by with_unfolding_all rfl) ?_)
  | (with_reducible refine ixT_as (by first | exact sq_of (by assumption) | with_unfolding_all assumption) (by with_unfolding_all rfl) ?_)
  | ((with_reducible refine WK.i1 ?hc ?_); (case hc => (with_reducible show CMulX _ _); exact Sm.mx (by walk_at "sm") (by walk_at "sm") (by omega)))
  | ((with_reducible refine WK.i1 ?hc ?_); (case hc => omega))
  | ((with_reducible refine WK.i1 ?hc ?_); (case hc => (with_reducible show CPow _ _); exact ⟨by decide, by decide, by decide⟩))
  | ((with_reducible refine WK.i1 ?hc ?_); (case hc => (with_reducible show CDivW _ _); exact ⟨by first | omega | decide, by decide⟩))
  | ((with_reducible show List.length _ ≤ sizeLine ∧ _); refine And.intro (Nat.le_of_ble_eq_true rfl) ?_)
  | ((with_reducible show tyV _ "list" _ _ ∧ _); refine And.intro (.inl ⟨rfl, _, .inl (.inl (by assumption))⟩) ?_)
  | ((with_reducible show _ ∧ _); refine And.intro (by omega) ?_)
  | fail "wk")

section
variable {P : Program} {w : World} {K : PySem.W.Frag} {mg : Str → Option Value} {base : Heap}
def sp__law_draws (K : PySem.W.Frag) : Sp := fun vs H Q _ => ∃ (a : Addr) (ns : List Int) (many : Nat), vs = [.ref a, .int many] ∧ SqL K H a (ns.map V.int) ∧ many ≤ 100 ∧
  ∀ H' D (ds : List Int), Same H H' → H D = none → H' D = some (.lst (ds.map V.int)) → ds.length = many → (∀ d ∈ ds, 0 ≤ d ∧ d < 65537) → Q (.ref D) H'
theorem ok__law_draws {f : Addr} {fd : FuncData} (F : Fun K "_law_draws" "_law_draws" s__law_draws f fd) (m_range : mg "range" = none) (m_abs : mg "abs" = none) (m_int : mg "int" = none) (m_len : mg "len" = none) : FnOk P w K mg base CX0 1 f fd ["script", "many"] (sp__law_draws K) := by
  refine F.ok sc__law_draws (fun vs H Q E h => ?_) (fun cdv A outer s H vs Q E hr h => ?_)
  · obtain ⟨a, ns, many, rfl, _⟩ := h
    rfl
  · obtain ⟨a, ns, many, rfl, hS, hm, q⟩ := h
    refine ⟨_, (pss_cons (ps_set (i := 2) sc__law_draws.nd rfl (.inl rfl) (pe_lst pa_nil))
      (pss_cons (ps_set (i := 3) sc__law_draws.nd rfl (.inl rfl) pe_int)
      (pss_cons (ps_for PassesOwn.never rfl (pi_list (pe_slice sl_list (pv 0) po_none (po_some pe_int))) (pg_name (i := 4) sc__law_draws.nd rfl (.inl rfl)) (pss_cons (ps_set (i := 5) sc__law_draws.nd rfl (.inl rfl) (pe_callB call_abs (by rfl) m_abs (by decide +kernel) (pa_cons (pv 4) pa_nil)))
      (pss_cons (ps_set (i := 3) sc__law_draws.nd rfl (.inl rfl) (pe_op op_mod (pe_callTy call_intI (by rfl) m_int (by decide +kernel) (pa_cons (pe_op op_add (pe_op op_add (pe_op op_mulX (pv 3) pe_int) (pv 5)) pe_int) pa_nil)) pe_int))
      (pss_one (ps_if (pt_cmpR op_ge (pv 5) (pe_op op_pow pe_int pe_int) (nomark _)) (pss_one (ps_for PassesOwn.never rfl (pi_range1 (by rfl) m_range (pa_cons pe_int pa_nil)) (pg_name (i := 6) sc__law_draws.nd rfl (.inl rfl)) (pss_one (ps_if (pt_cmpR op_gt (pv 5) pe_int (nomark _)) (pss_cons (ps_expr (pe_bm PySem.F.plainAttrs_list PySem.F.slot_list_append PySem.F.type_list_append mt_append (pv 2) (pa_cons (pe_op op_mod (pe_callTy call_intI (by rfl) m_int (by decide +kernel) (pa_cons (pv 5) pa_nil)) pe_int) pa_nil)))
      (pss_one (ps_set (i := 5) sc__law_draws.nd rfl (.inl rfl) (pe_op op_fdivW (pv 5) pe_int)))) pss_nil)))) (pss_one (ps_expr (pe_bm PySem.F.plainAttrs_list PySem.F.slot_list_append PySem.F.type_list_append mt_append (pv 2) (pa_cons (pe_op op_mod (pe_op op_fdivW (pe_callTy call_intI (by rfl) m_int (by decide +kernel) (pa_cons (pe_op op_add (pe_op op_mulX (pv 3) pe_int) pe_int) pa_nil)) pe_int) pe_int) pa_nil)))))))))
      (pss_cons (ps_for PassesOwn.never rfl (pi_range1 (by rfl) m_range (pa_cons (pv 1) pa_nil)) (pg_name (i := 6) sc__law_draws.nd rfl (.inl rfl)) (pss_one (ps_if (pt_cmpR op_lt (pe_callB call_len_seq (by rfl) m_len (by decide +kernel) (pa_cons (pv 2) pa_nil)) (pv 1) (nomark _)) (pss_cons (ps_set (i := 3) sc__law_draws.nd rfl (.inl rfl) (pe_op op_mod (pe_callTy call_intI (by rfl) m_int (by decide +kernel) (pa_cons (pe_op op_add (pe_op op_add (pe_op op_mulX (pv 3) pe_int) (pv 6)) pe_int) pa_nil)) pe_int))
      (pss_one (ps_expr (pe_bm PySem.F.plainAttrs_list PySem.F.slot_list_append PySem.F.type_list_append mt_append (pv 2) (pa_cons (pe_op op_mod (pe_op op_fdivW (pe_callTy call_intI (by rfl) m_int (by decide +kernel) (pa_cons (pv 3) pa_nil)) pe_int) pe_int) pa_nil))))) pss_nil)))
      (pss_one (ps_ret (pe_slice sl_list (pv 2) po_none (po_some (pv 1))))))))), ?_⟩
    walk_at "rd"
    intro D nD
    walk_at "rd"
    refine ⟨a, _, rfl, (same_upd nD).seq hS, fun c nc => ?_⟩
    have hcut : cutV (ns.map V.int) none (some 63) = (ns.take 63).map V.int := by
      unfold cutV
      rw [HT.sIx_none, show (some (63 : Int)) = some ((63 : Nat) : Int) from rfl, HT.sIx_nat, List.drop_zero, Nat.sub_zero, List.map_take]
      by_cases h : (ns.map V.int).length ≤ 63
      · rw [Nat.min_eq_right h, List.take_length, List.take_of_length_le h]
      · rw [Nat.min_eq_left (by omega)]
    rw [hcut]
    have hD0 : (upd (upd H D (.lst [])) c (.lst ((ns.take 63).map V.int))) D = some (.lst (([] : List Int).map V.int)) := same_upd nc _ _ upd_same
    have h18 : (10 : Int) ^ (18 : Int).toNat = 1000000000000000000 := by decide +kernel
    refine ⟨c, rfl, ⟨_, .inl (.inl upd_same)⟩, ?_⟩
    refine for_list (K := K) (a := c) (xs := (ns.take 63).map V.int) (fun i σ H' => ∃ (ds : List Int) (sd : Int) (c4 c5 c6 : Option V), σ = [some (.ref a), some (.int many), some (.ref D), some (.int sd), c4, c5, c6] ∧ 0 ≤ sd ∧ sd < 2147483647 ∧
      H' D = some (.lst (ds.map V.int)) ∧ ds.length ≤ 60 * i ∧ (∀ d ∈ ds, 0 ≤ d ∧ d < 65537) ∧ H' c = some (.lst ((ns.take 63).map V.int)) ∧ Same H H') ?_ ?_ ?_ ?_
    · exact ⟨[], 7, none, none, none, rfl, by decide, by decide, hD0, by simp, (fun d hd => by cases hd), upd_same, (same_upd nD).trans (same_upd nc)⟩
    · intro i σ H1 _ hP
      obtain ⟨ds, sd, c4, c5, c6, rfl, _, _, _, _, _, hc, _⟩ := hP
      exact .inl (.inl hc)
    · intro i v σ H1 hv hP
      obtain ⟨ds, sd, c4, c5, c6, rfl, hs0, hs1, hD, hl, hd, hc, sH⟩ := hP
      have hi : i < 63 := by
        have := (List.getElem?_eq_some_iff.mp hv).1
        rw [List.length_map, List.length_take] at this
        omega
      obtain ⟨z, rfl⟩ : ∃ z : Int, v = .int z := by
        rw [List.getElem?_map] at hv
        cases e : (ns.take 63)[i]? with
        | none => rw [e] at hv; cases hv
        | some z => rw [e] at hv; exact ⟨z, (Option.some.inj hv).symm⟩
      have hcD : c ≠ D := fun e => by
        rw [e, upd_same] at nc
        cases nc
      have ssd : Sm 64 sd := Sm.le (y := 2147483647) (Sm.lit (k := 64)) (by omega) (by omega)
      walk_at "rd"
      obtain ⟨nu, enu⟩ : ∃ nu : Int, nu = (if z < 0 then -z else z) := ⟨_, rfl⟩
      have hnu : 0 ≤ nu := by rw [enu]; split <;> omega
      rw [← enu]
      obtain ⟨sd2, esd⟩ : ∃ x : Int, x = (sd * 48271 + nu + 11) % 2147483647 := ⟨_, rfl⟩
      have h20 : 0 ≤ sd2 := by rw [esd]; omega
      have h21 : sd2 < 2147483647 := by rw [esd]; omega
      have ssd2 : Sm 64 sd2 := Sm.le (y := 2147483647) (Sm.lit (k := 64)) (by omega) (by omega)
      try dsimp only
      rw [← esd]
      refine split_if (fun σ' H' => ∃ (ds : List Int) (c4 c5 c6 : Option V), σ' = [some (.ref a), some (.int many), some (.ref D), some (.int sd2), c4, c5, c6] ∧
        H' D = some (.lst (ds.map V.int)) ∧ ds.length ≤ 60 * (i + 1) ∧ (∀ d ∈ ds, 0 ≤ d ∧ d < 65537) ∧ H' c = some (.lst ((ns.take 63).map V.int)) ∧ Same H H') ?_ ?_
      · intro σ H2 hP
        obtain ⟨ds, c4, c5, c6, rfl, hD, hl, hd, hc, sH⟩ := hP
        walk_at "rd"
        exact ⟨ds, sd2, c4, c5, c6, rfl, h20, h21, hD, hl, hd, hc, sH⟩
      · intro D' hD'
        refine ite2 (fun e => ?_) (fun e => ?_)
        · walk_at "rd"
          refine for_rng (n := 60) (fun k σ' H' => ∃ (ds : List Int) (w : Int) (c4 c6 : Option V), σ' = [some (.ref a), some (.int many), some (.ref D), some (.int sd2), c4, some (.int w), c6] ∧ 0 ≤ w ∧
            H' D = some (.lst (ds.map V.int)) ∧ ds.length ≤ 60 * i + k ∧ (∀ d ∈ ds, 0 ≤ d ∧ d < 65537) ∧ H' c = some (.lst ((ns.take 63).map V.int)) ∧ Same H H') ?_ ?_ ?_
          · exact ⟨ds, nu, _, _, rfl, hnu, hD, hl, hd, hc, sH⟩
          · intro k σ H2 hk hP
            obtain ⟨ds, w', c4, c6, rfl, hw, hD, hl, hd, hc, sH⟩ := hP
            walk_at "rd"
            refine ite2 (fun e2 => ?_) (fun e2 => ?_)
            · walk_at "rd"
              refine app_go hD (by rw [List.length_map]; exact Nat.lt_of_le_of_lt (show ds.length ≤ 4000 by omega) (by decide)) ?_
              walk_at "rd"
              refine ⟨ds ++ [w' % 1009], w' / 1009, _, _, rfl, by omega, by rw [upd_same, List.map_append]; rfl, by rw [List.length_append]; show ds.length + 1 ≤ _; omega, ?_, ?_, ?_⟩
              · intro d hx
                rcases List.mem_append.mp hx with hx | hx
                · exact hd d hx
                · rw [List.mem_singleton] at hx
                  omega
              · rw [upd_ne hcD]
                exact hc
              · exact fun b o hb => by
                  rw [upd_ne (ne_of_none hb nD)]
                  exact sH b o hb
            · exact ⟨ds, w', _, _, rfl, hw, hD, by omega, hd, hc, sH⟩
          · intro σ H2 hP
            obtain ⟨ds, w', c4, c6, rfl, hw, hD, hl, hd, hc, sH⟩ := hP
            exact hD' _ _ ⟨ds, _, _, _, rfl, hD, by omega, hd, hc, sH⟩
        · walk_at "rd"
          refine app_go hD (by rw [List.length_map]; exact Nat.lt_of_le_of_lt (show ds.length ≤ 4000 by omega) (by decide)) ?_
          refine hD' _ _ ⟨ds ++ [(sd2 * 16807 + 5) / 3 % 65521], _, _, _, rfl, ?_, ?_, ?_, ?_, ?_⟩
          · simp only [upd_same, List.map_append]
            rfl
          · rw [List.length_append]
            show ds.length + 1 ≤ _
            omega
          · intro d hx
            rcases List.mem_append.mp hx with hx | hx
            · exact hd d hx
            · rw [List.mem_singleton] at hx
              omega
          · rw [upd_ne hcD]
            exact hc
          · exact fun b o hb => by
              rw [upd_ne (ne_of_none hb nD)]
              exact sH b o hb
    · intro σ H1 hP
      obtain ⟨ds, sd, c4, c5, c6, rfl, hs0, hs1, hD, hl, hd, hc, sH⟩ := hP
      rw [List.length_map] at hl
      have hl63 : (ns.take 63).length ≤ 63 := by rw [List.length_take]; omega
      walk_at "rd"
      refine for_rng (n := many) (fun k σ' H' => ∃ (ds : List Int) (sd : Int) (c4 c5 c6 : Option V), σ' = [some (.ref a), some (.int many), some (.ref D), some (.int sd), c4, c5, c6] ∧ 0 ≤ sd ∧ sd < 2147483647 ∧
        H' D = some (.lst (ds.map V.int)) ∧ k ≤ ds.length ∧ ds.length ≤ 4000 ∧ (∀ d ∈ ds, 0 ≤ d ∧ d < 65537) ∧ Same H H') ?_ ?_ ?_
      · exact ⟨ds, sd, _, _, _, rfl, hs0, hs1, hD, Nat.zero_le _, by omega, hd, sH⟩
      · intro k σ H2 hk hP
        obtain ⟨ds, sd, c4, c5, c6, rfl, hs0, hs1, hD, hk1, hl, hd, sH⟩ := hP
        have sk : Sm 64 (k : Int) := Sm.le (y := 1000) (Sm.lit (k := 64)) (by omega) (by omega)
        have ssd : Sm 64 sd := Sm.le (y := 2147483647) (Sm.lit (k := 64)) (by omega) (by omega)
        walk_at "rd"
        refine ⟨D, _, rfl, .inl (.inl (.inl hD)), ?_⟩
        walk_at "rd"
        refine ite2 (fun e => ?_) (fun e => ?_)
        · have hlm : ds.length < many := by
            have := of_decide_eq_true e
            rw [List.length_map] at this
            omega
          walk_at "rd"
          refine app_go hD (by rw [List.length_map]; exact Nat.lt_of_le_of_lt (show ds.length ≤ 4000 by omega) (by decide)) ?_
          refine ⟨ds ++ [(sd * 69621 + k + 1) % 2147483647 / 7 % 65521], (sd * 69621 + k + 1) % 2147483647, _, _, _, rfl, by omega, by omega, by rw [upd_same, List.map_append]; rfl, by rw [List.length_append]; show _ ≤ ds.length + 1; omega, by rw [List.length_append]; show ds.length + 1 ≤ _; omega, ?_, ?_⟩
          · intro d hx
            rcases List.mem_append.mp hx with hx | hx
            · exact hd d hx
            · rw [List.mem_singleton] at hx
              omega
          · exact fun b o hb => by
              rw [upd_ne (ne_of_none hb nD)]
              exact sH b o hb
        · have hlm : many ≤ ds.length := by
            have : ¬ ((ds.map V.int).length : Int) < (many : Int) := fun l => e (decide_eq_true l)
            rw [List.length_map] at this
            omega
          exact ⟨ds, sd, _, _, _, rfl, hs0, hs1, hD, by omega, hl, hd, sH⟩
      · intro σ H2 hP
        obtain ⟨ds, sd, c4, c5, c6, rfl, hs0, hs1, hD, hk1, hl, hd, sH⟩ := hP
        walk_at "rd"
        refine ⟨D, _, rfl, .inl (.inl hD), fun p np => ?_⟩
        rw [cut_take _ _ (by rw [List.length_map]; exact hk1), ← List.map_take]
        exact q _ p (ds.take many) (sH.trans (same_upd np)) (sH.free np) upd_same (by rw [List.length_take]; omega) (fun d hx => hd d (List.mem_of_mem_take hx))

def sp__ones (K : PySem.W.Frag) : Sp := fun vs H Q _ => ∃ (n : Nat), vs = [.int n] ∧ n ≤ 2000 ∧ Q (.int ((2 ^ n - 1 : Nat) : Int)) H
theorem ok__ones {f : Addr} {fd : FuncData} (F : Fun K "_ones" "_ones" s__ones f fd)  : FnOk P w K mg base CX0 1 f fd ["length"] (sp__ones K) := by
  refine F.ok sc__ones (fun vs H Q E h => ?_) (fun cdv A outer s H vs Q E hr h => ?_)
  · obtain ⟨n, rfl, _⟩ := h
    rfl
  · obtain ⟨n, rfl, hn, q⟩ := h
    refine ⟨_, (pss_one (ps_ret (pe_op op_sub (pe_op op_shlW pe_int (pv 0)) pe_int))), ?_⟩
    walk_at "rd"
    refine ⟨shl_ok (n := 1) (by decide) (by omega), ?_⟩
    walk_at "rd"
    have e1 : (1 : Int) * 2 ^ n - 1 = ((2 ^ n - 1 : Nat) : Int) := by
      have := Nat.two_pow_pos n
      rw [Int.one_mul, Int.ofNat_sub this]
      push_cast
      rfl
    rw [← e1] at q
    exact q

def sp_digits_of (K : PySem.W.Frag) : Sp := fun vs H Q _ => ∃ (n c m : Nat), vs = [.int n, .int c, .int m] ∧ n < 2 ^ 700 ∧ c ≤ 20 ∧ m ≤ 30 ∧ ∀ H' D, Same H H' → H D = none → H' D = some (.lst (toV (dgs n c m))) → Q (.ref D) H'
theorem ok_digits_of {f : Addr} {fd : FuncData} (F : Fun K "digits_of" "digits_of" s_digits_of f fd) (C__ones : Cal P w K mg base "_ones" 1 ["length"] (sp__ones K)) : FnOk P w K mg base CX0 2 f fd ["number", "c", "count"] (sp_digits_of K) := by
  refine F.ok sc_digits_of (fun vs H Q E h => ?_) (fun cdv A outer s H vs Q E hr h => ?_)
  · obtain ⟨n, c, m, rfl, _⟩ := h
    rfl
  · obtain ⟨n, c, m, rfl, hn, hc, hm, q⟩ := h
    refine ⟨_, (pss_cons (ps_set (i := 3) sc_digits_of.nd rfl (.inl rfl) pe_int)
      (pss_cons (ps_while PassesOwn.never (pt_cmpR op_lt (pv 3) (pv 2) (nomark _)) (pss_one (ps_set (i := 3) sc_digits_of.nd rfl (.inl rfl) (pe_op op_mulX pe_int (pv 3)))))
      (pss_cons (ps_set (i := 4) sc_digits_of.nd rfl (.inl rfl) (pe_lst (pa_cons (pe_op op_and (pv 0) (pe_cal C__ones hr (by rfl) (pa_cons (pe_op op_mulX (pv 1) (pv 3)) pa_nil))) pa_nil)))
      (pss_cons (ps_while PassesOwn.never (pt_cmpR op_gt (pv 3) pe_int (nomark _)) (pss_cons (ps_set (i := 3) sc_digits_of.nd rfl (.inl rfl) (pe_op op_fdivW (pv 3) pe_int))
      (pss_cons (ps_asg (pe_tup (pa_cons (pe_cal C__ones hr (by rfl) (pa_cons (pe_op op_mulX (pv 1) (pv 3)) pa_nil)) (pa_cons (pe_op op_mulX (pv 1) (pv 3)) pa_nil))) (pg_tup (by rfl) (pgs_cons (pg_name (i := 5) sc_digits_of.nd rfl (.inr rfl)) (pgs_cons (pg_name (i := 6) sc_digits_of.nd rfl (.inr rfl)) pgs_nil))))
      (pss_one (ps_setLc2 (i := 4) (own := [("part", 7), ("half", 8)]) (vs1 := [8]) (g := gName 7) (g1 := gName 8) (by rfl) sc_digits_of.nd rfl rfl (sw_true rfl rfl rfl (by decide +kernel)) (pi_list (pv 4)) (blkOk_by (own := [("part", 7), ("half", 8)]) (N := ["number", "c", "count", "width", "parts", "low", "shift", "part", "half"]) (sc := defScope s_digits_of) (by decide +kernel)) (by decide) (fun _ _ _ _ _ => pg_name (i := 7) sc_digits_of.nd rfl (Or.inl rfl)) (fun _ _ _ _ _ => pts_nil) (fun _ _ _ _ _ => (show PI _ _ _ (iTup K _) from pi_tup (pe_tup (pa_cons (pe_op op_and (pv 7) (pv 5)) (pa_cons (pe_op op_shr (pv 7) (pv 6)) pa_nil))))) (fun _ _ _ _ _ => pg_name (i := 8) sc_digits_of.nd rfl (Or.inl rfl)) (fun _ _ _ _ _ => pts_nil) (fun _ _ _ _ _ => (pv 8)))))))
      (pss_one (ps_ret (pe_slice sl_list (pv 4) po_none (po_some (pv 2))))))))), ?_⟩
    walk_at "rd"
    refine ⟨fun k σ H' => ∃ (i : Nat) (c4 c5 c6 c7 c8 : Option V), σ = [some (.int n), some (.int c), some (.int m), some (.int ((2 ^ i : Nat) : Int)), c4, c5, c6, c7, c8] ∧ (i = 0 ∨ 2 ^ (i - 1) < m) ∧ k = 30 - i ∧ H' = H, ⟨30, 0, none, none, none, none, none, rfl, .inl rfl, rfl, rfl⟩, ?_⟩
    rintro k σ H1 ⟨i, c4, c5, c6, c7, c8, rfl, hi, hk, rfl⟩
    have hi5 : i ≤ 5 := by
      rcases hi with h | h
      · omega
      · by_cases h6 : i ≤ 5
        · exact h6
        · have := Nat.pow_le_pow_right (n := 2) (by decide) (show 5 ≤ i - 1 by omega)
          omega
    have h2i : 2 ^ i ≤ 32 := Nat.pow_le_pow_right (by decide) hi5
    have sw : Sm 10 ((2 ^ i : Nat) : Int) := by
      unfold Sm
      rw [Int.natAbs_natCast]
      omega
    have sc : Sm 10 (c : Int) := Sm.le (y := 20) (Sm.lit (k := 10)) (by omega) (by omega)
    walk_at "rd"
    refine ite2 (fun e => ?_) (fun e => ?_)
    · have hlt : 2 ^ i < m := by
        have := of_decide_eq_true e
        omega
      have hi4 : i ≤ 4 := by
        by_cases h6 : i ≤ 4
        · exact h6
        · have := Nat.pow_le_pow_right (n := 2) (by decide) (show 5 ≤ i by omega)
          omega
      refine ⟨fun σ' H' => σ' = [some (.int n), some (.int c), some (.int m), some (.int ((2 ^ (i + 1) : Nat) : Int)), c4, c5, c6, c7, c8] ∧ H' = H1, ?_, ?_⟩
      · rintro σ' H' ⟨rfl, rfl⟩
        exact ⟨30 - (i + 1), by omega, i + 1, c4, c5, c6, c7, c8, rfl, .inr hlt, rfl, rfl⟩
      walk_at "rd"
      refine ⟨?_, rfl⟩
      rw [show ((2 ^ (i + 1) : Nat) : Int) = 2 * ((2 ^ i : Nat) : Int) by rw [Nat.pow_succ, Nat.mul_comm]; exact Int.natCast_mul 2 _]
      rfl
    · have hge : m ≤ 2 ^ i := by
        have : ¬ ((2 ^ i : Nat) : Int) < (m : Int) := fun l => e (decide_eq_true l)
        omega
      walk_at "rd"
      refine ⟨Nat.le_trans (Nat.mul_le_mul hc h2i) (by decide), ?_⟩
      walk_at "rd"
      intro L nL
      walk_at "rd"
      dsimp only
      rw [and_ones]
      refine ⟨fun k σ H' => ∃ (P : Addr) (j : Nat) (c5 c6 c7 c8 : Option V), σ = [some (.int n), some (.int c), some (.int m), some (.int ((2 ^ j : Nat) : Int)), some (.ref P), c5, c6, c7, c8] ∧ j ≤ i ∧ k = j ∧ H1 P = none ∧ H' P = some (.lst (toV (parts n c (2 ^ j) (2 ^ (i - j))))) ∧ Same H1 H', ⟨i, L, i, c5, c6, c7, c8, rfl, Nat.le_refl _, rfl, nL, ?_, same_upd nL⟩, ?_⟩
      · rw [upd_same, Nat.sub_self, Nat.pow_zero, parts_one]
        rfl
      rintro k σ H2 ⟨P, j, c5, c6, c7, c8, rfl, hj, rfl, nP, hP, sH⟩
      have h2j : 2 ^ k ≤ 32 := Nat.le_trans (Nat.pow_le_pow_right (by decide) hj) h2i
      walk_at "rd"
      refine ite2 (fun e => ?_) (fun e => ?_)
      · have hk1 : 1 ≤ k := by
          have : (1 : Int) < ((2 ^ k : Nat) : Int) := of_decide_eq_true e
          rcases Nat.eq_zero_or_pos k with h | h
          · rw [h] at this
            exact absurd this (by decide)
          · exact h
        obtain ⟨j, rfl⟩ : ∃ j, k = j + 1 := ⟨k - 1, by omega⟩
        have e2 : ((2 ^ (j + 1) : Nat) : Int) / 2 = ((2 ^ j : Nat) : Int) := by
          rw [Nat.pow_succ]
          omega
        have hsw : 2 ^ j ≤ 16 := by rw [Nat.pow_succ] at h2j; omega
        have sw2 : Sm 10 ((2 ^ j : Nat) : Int) := by
          unfold Sm
          rw [Int.natAbs_natCast]
          omega
        refine ⟨fun σ' H' => ∃ (P' : Addr) (c5 c6 c7 c8 : Option V), σ' = [some (.int n), some (.int c), some (.int m), some (.int ((2 ^ j : Nat) : Int)), some (.ref P'), c5, c6, c7, c8] ∧ H1 P' = none ∧ H' P' = some (.lst (toV (parts n c (2 ^ j) (2 ^ (i - j))))) ∧ Same H1 H', ?_, ?_⟩
        · rintro σ' H' ⟨P', c5, c6, c7, c8, rfl, nP', hP', sH'⟩
          exact ⟨j, by omega, P', j, c5, c6, c7, c8, rfl, by omega, rfl, nP', hP', sH'⟩
        walk_at "rd"
        dsimp only
        rw [e2]
        walk_at "rd"
        refine ⟨Nat.le_trans (Nat.mul_le_mul hc hsw) (by decide), ?_⟩
        dsimp only [List.set]
        walk_at "rd"
        intro t nt
        walk_at "rd"
        dsimp only [List.set]
        refine ⟨⟨_, .inl (.inl (same_upd nt _ _ hP))⟩, ?_⟩
        intro D nD
        have hP3 := same_upd (o := .tup [.int ((2 ^ (c * 2 ^ j) - 1 : Nat) : Int), .int ((c : Int) * ((2 ^ j : Nat) : Int))]) nt _ _ hP
        have sH3 := sH.trans (same_upd (o := .tup [.int ((2 ^ (c * 2 ^ j) - 1 : Nat) : Int), .int ((c : Int) * ((2 ^ j : Nat) : Int))]) nt)
        have neD : ∀ {b : Addr} {o : HO}, (upd H2 t (.tup [.int ((2 ^ (c * 2 ^ j) - 1 : Nat) : Int), .int ((c : Int) * ((2 ^ j : Nat) : Int))])) b = some o → b ≠ D := fun hb => ne_of_none hb nD
        generalize upd H2 t (.tup [.int ((2 ^ (c * 2 ^ j) - 1 : Nat) : Int), .int ((c : Int) * ((2 ^ j : Nat) : Int))]) = H3 at hP3 sH3 nD neD ⊢
        rw [show (c : Int) * ((2 ^ j : Nat) : Int) = ((c * 2 ^ j : Nat) : Int) from (Int.natCast_mul c (2 ^ j)).symm]
        obtain ⟨M, eM⟩ : ∃ M, M = 2 ^ (i - (j + 1)) := ⟨_, rfl⟩
        have eM2 : 2 ^ (i - j) = 2 * M := by
          rw [eM, show i - j = i - (j + 1) + 1 by omega, Nat.pow_succ, Nat.mul_comm]
        have hM : M ≤ 32 := by
          rw [eM]
          exact Nat.le_trans (Nat.pow_le_pow_right (by decide) (by omega)) h2i
        rw [eM2]
        rw [← eM] at hP3
        have ew : 2 ^ (j + 1) = 2 * 2 ^ j := by rw [Nat.pow_succ, Nat.mul_comm]
        have lp : (toV (parts n c (2 ^ (j + 1)) M)).length = M := by rw [toV_len, parts_len]
        refine lc2_it (walk_list (K := K) (a := P) (xs := toV (parts n c (2 ^ (j + 1)) M))) (fun k H' => H' D = some (.lst (toV (parts n c (2 ^ j) (2 * k)))) ∧ Same H3 H') ?_ ?_ ?_ ?_
        · exact ⟨upd_same, same_upd nD⟩
        · intro k H' _ hQ
          exact .inl (.inl (hQ.2 _ _ hP3))
        · rintro k x H4 H5 hk ⟨hD, s4⟩ ⟨rfl, hx⟩
          obtain ⟨d, hd, rfl⟩ := getV hx
          have hd2 : d = n / 2 ^ (c * (2 * 2 ^ j) * k) % 2 ^ (c * (2 * 2 ^ j)) := by
            rw [parts_at _ _ _ _ _ (by omega), ew] at hd
            exact (Option.some.inj hd).symm
          walk_at "rd"
          intro T nT
          dsimp only
          rw [and_ones, shr_nat]
          refine ⟨T, rfl, ⟨_, sq_new⟩, ?_⟩
          have hD6 := same_upd (o := .tup [.int ((d % 2 ^ (c * 2 ^ j) : Nat) : Int), .int ((d / 2 ^ (c * 2 ^ j) : Nat) : Int)]) nT _ _ hD
          have s6 := s4.trans (same_upd (o := .tup [.int ((d % 2 ^ (c * 2 ^ j) : Nat) : Int), .int ((d / 2 ^ (c * 2 ^ j) : Nat) : Int)]) nT)
          have hT : (upd H5 T (.tup [.int ((d % 2 ^ (c * 2 ^ j) : Nat) : Int), .int ((d / 2 ^ (c * 2 ^ j) : Nat) : Int)])) T = some (.tup (toV [d % 2 ^ (c * 2 ^ j), d / 2 ^ (c * 2 ^ j)])) := upd_same
          generalize upd H5 T (.tup [.int ((d % 2 ^ (c * 2 ^ j) : Nat) : Int), .int ((d / 2 ^ (c * 2 ^ j) : Nat) : Int)]) = H6 at hD6 s6 hT ⊢
          have hTD : T ≠ D := fun e => by
            rw [e, hD] at nT
            cases nT
          refine in_it (walk_tup (K := K) (a := T) (xs := toV [d % 2 ^ (c * 2 ^ j), d / 2 ^ (c * 2 ^ j)])) (fun z H' => H' D = some (.lst (toV (parts n c (2 ^ j) (2 * k) ++ [d % 2 ^ (c * 2 ^ j), d / 2 ^ (c * 2 ^ j)].take z))) ∧ H' T = some (.tup (toV [d % 2 ^ (c * 2 ^ j), d / 2 ^ (c * 2 ^ j)])) ∧ Same H3 H') ?_ ?_ ?_ ?_
          · refine ⟨?_, hT, s6⟩
            rw [List.take_zero, List.append_nil]
            exact hD6
          · intro z H' _ hQ
            exact sq_of hQ.2.1
          · rintro z x H7 H8 hz ⟨gD, gT, g⟩ ⟨rfl, hx⟩
            obtain ⟨u, hu, rfl⟩ := getV hx
            have hz2 : z < 2 := hz
            walk_at "rd"
            refine ⟨_, gD, Nat.lt_of_le_of_lt (show _ ≤ 100 by rw [toV_len, List.length_append, parts_len, List.length_take]; rw [lp] at hk; omega) (by decide), ?_, by rw [upd_ne hTD]; exact gT, fun b o hb => by rw [upd_ne (neD hb)]; exact g _ _ hb⟩
            rw [upd_same, List.take_succ, hu, ← List.append_assoc, toV_app _ (Option.toList _)]
            rfl
          · rintro H7 ⟨gD, _, g⟩
            refine ⟨?_, g⟩
            rw [gD, ← parts_two, ← hd2]
            rfl
        · rintro H4 ⟨hD, s4⟩
          rw [lp] at hD
          walk_at "rd"
          exact ⟨D, _, _, c7, c8, rfl, sH3.free nD, hD, sH3.trans s4⟩
      · have hk0 : k = 0 := by
          rcases Nat.eq_zero_or_pos k with h | h
          · exact h
          · refine absurd (decide_eq_true ?_) e
            have := Nat.pow_le_pow_right (n := 2) (by decide) h
            show (1 : Int) < ((2 ^ k : Nat) : Int)
            omega
        subst hk0
        walk_at "rd"
        refine ⟨P, _, rfl, .inl (.inl hP), fun D nD => ?_⟩
        rw [Nat.pow_zero, Nat.sub_zero, cut_take _ _ (by rw [toV_len, parts_len]; exact hge), toV_take, parts_take _ _ _ _ hge]
        exact q _ D (sH.trans (same_upd nD)) (sH.free nD) upd_same

def sp_number_of (K : PySem.W.Frag) : Sp := fun vs H Q _ => ∃ (a : Addr) (ds : List Nat) (c : Nat), vs = [.ref a, .int c] ∧ SqL K H a (toV ds) ∧ ds.length ≤ 40 ∧ c ≤ 20 ∧ val (2 ^ c) ds < 2 ^ 1000 ∧ ∀ H', Same H H' → Q (.int (val (2 ^ c) ds : Nat)) H'
theorem ok_number_of {f : Addr} {fd : FuncData} (F : Fun K "number_of" "number_of" s_number_of f fd) (m_list : mg "list" = none) (m_len : mg "len" = none) (m_zip : mg "zip" = none) : FnOk P w K mg base CX0 1 f fd ["digits", "c"] (sp_number_of K) := by
  refine F.ok sc_number_of (fun vs H Q E h => ?_) (fun cdv A outer s H vs Q E hr h => ?_)
  · obtain ⟨a, ds, c, rfl, _⟩ := h
    rfl
  · obtain ⟨a, ds, c, rfl, hS, hl, hc, hV, q⟩ := h
    refine ⟨_, (pss_cons (ps_asg (pe_tup (pa_cons (pe_callTy call_list_of (by rfl) m_list (by decide +kernel) (pa_cons (pv 0) pa_nil)) (pa_cons (pv 1) pa_nil))) (pg_tup (by rfl) (pgs_cons (pg_name (i := 2) sc_number_of.nd rfl (.inl rfl)) (pgs_cons (pg_name (i := 3) sc_number_of.nd rfl (.inr rfl)) pgs_nil))))
      (pss_cons (ps_while PassesOwn.never (pt_cmpR op_gt (pe_callB call_len_seq (by rfl) m_len (by decide +kernel) (pa_cons (pv 2) pa_nil)) pe_int (nomark _)) (pss_cons (ps_expr (pe_bm PySem.F.plainAttrs_list PySem.F.slot_list_append PySem.F.type_list_append mt_append (pv 2) (pa_cons pe_int pa_nil)))
      (pss_cons (ps_setLc (i := 2) (own := [("low", 4), ("high", 5)]) (g := gTup K 2 (gCons (gName 4) (gCons (gName 5) gNil))) (by rfl) sc_number_of.nd rfl rfl (sw_true rfl rfl rfl (by decide +kernel)) (pi_zip (by rfl) m_zip (pa_cons (pe_step2 (pv 2) po_none) (pa_cons (pe_step2 (pv 2) (po_some pe_int)) pa_nil))) (blkOk_by (own := [("low", 4), ("high", 5)]) (N := ["digits", "c", "parts", "shift", "low", "high"]) (sc := defScope s_number_of) (by decide +kernel)) (fun _ _ _ _ _ => (pg_tup (by rfl) (pgs_cons (pg_name (i := 4) sc_number_of.nd rfl (Or.inl rfl)) (pgs_cons (pg_name (i := 5) sc_number_of.nd rfl (Or.inl rfl)) pgs_nil)))) (fun _ _ _ _ _ => pts_nil) (fun _ _ _ _ _ => (pe_op op_add (pv 4) (pe_op op_shlW (pv 5) (pv 3)))))
      (pss_one (ps_set (i := 3) sc_number_of.nd rfl (.inr rfl) (pe_op op_mulX pe_int (pv 3)))))))
      (pss_one (ps_ret (pe_ifExp (pt_truth (pv 2) (by intro _; rfl)) (pe_ix ix_list (pv 2) pe_int (fun _ _ => rfl)) pe_int))))), ?_⟩
    rw [st_number_of]
    walk_at "wk"
    refine ⟨a, _, rfl, .inl hS, fun L nL => ?_⟩
    walk_at "rd"
    intro p np
    walk_at "wk"
    refine ⟨fun m σ H' => ∃ (P : Addr) (ps : List Nat) (s : Nat) (c4 c5 : Option V), σ = [some (.ref a), some (.int c), some (.ref P), some (.int s), c4, c5] ∧ ps.length = m ∧ m ≤ 40 ∧ H P = none ∧ H' P = some (.lst (toV ps)) ∧ val (2 ^ s) ps = val (2 ^ c) ds ∧ s * (m - 1) ≤ 800 ∧ Same H H', ⟨ds.length, L, ds, c, _, _, rfl, rfl, hl, nL, ?_, rfl, ?_, ?_⟩, ?_⟩
    · rw [upd_ne (ne_of_none upd_same np)]
      exact upd_same
    · exact Nat.le_trans (Nat.mul_le_mul hc (show ds.length - 1 ≤ 40 by omega)) (by decide)
    · exact (same_upd nL).trans (same_upd np)
    rintro m σ H1 ⟨P, ps, s, c4, c5, rfl, hm, hm40, nP, hP, hv, hs, sH⟩
    walk_at "rd"
    refine ⟨P, _, rfl, .inl (.inl (.inl hP)), ?_⟩
    rw [toV_len, hm]
    walk_at "rd"
    refine ite2 (fun e => ?_) (fun e => ?_)
    · have hm2 : 2 ≤ m := by
        have := of_decide_eq_true e
        omega
      have hs2 : s ≤ 800 := by
        have : s * 1 ≤ s * (m - 1) := Nat.mul_le_mul_left s (by omega)
        omega
      refine ⟨fun σ' H' => ∃ (P' : Addr) (c4 c5 : Option V), σ' = [some (.ref a), some (.int c), some (.ref P'), some (.int ((2 * s : Nat) : Int)), c4, c5] ∧ H P' = none ∧ H' P' = some (.lst (toV (pairUp s ps))) ∧ Same H H', ?_, ?_⟩
      · rintro σ' H' ⟨P', c4, c5, rfl, nP', hP', sH'⟩
        refine ⟨(m + 1) / 2, by omega, P', pairUp s ps, 2 * s, c4, c5, rfl, ?_, by omega, nP', hP', ?_, ?_, sH'⟩
        · rw [pairUp_len s _ ps (Nat.le_refl _), hm]
        · rw [pairUp_val s _ ps (Nat.le_refl _), hv]
        · have h1 : 2 * ((m + 1) / 2 - 1) ≤ m - 1 := by omega
          have h2 := Nat.mul_le_mul_left s h1
          rw [← Nat.mul_assoc, Nat.mul_comm s 2] at h2
          omega
      walk_at "rd"
      walk_at "wk"
      refine app_go hP (by rw [toV_len, hm]; exact Nat.lt_of_le_of_lt hm40 (by decide)) ?_
      have hP2 : (upd H1 P (.lst (toV ps ++ [.int 0]))) P = some (.lst (toV (ps ++ [0]))) := by
        rw [upd_same, toV_app]
        rfl
      have sH2 : Same H (upd H1 P (.lst (toV ps ++ [.int 0]))) := Same.new sH nP
      generalize upd H1 P (.lst (toV ps ++ [.int 0])) = H2 at hP2 sH2 ⊢
      walk_at "rd"
      have szv : ∀ x ∈ ps, x < 2 ^ 1000 := fun x hx => Nat.lt_of_le_of_lt (Nat.le_trans (val_mem (Nat.one_le_two_pow) ps x hx) (Nat.le_of_eq hv)) hV
      refine ⟨P, _, rfl, .inl (.inl hP2), fun e1 ne1 => ?_⟩
      walk_at "rd"
      refine ⟨P, _, rfl, .inl (.inl (same_upd ne1 _ _ hP2)), fun e2 ne2 => ?_⟩
      walk_at "rd"
      have eA : ev (List.drop (HT.sIx (toV (ps ++ [0])).length 0 none) (toV (ps ++ [0]))) = toV (ev (ps ++ [0])) := by
        rw [HT.sIx_none, List.drop_zero]
        exact ev_map _ _ _ (Nat.le_refl _)
      have eB : ev (List.drop (HT.sIx (toV (ps ++ [0])).length 0 (some 1)) (toV (ps ++ [0]))) = toV (ev ((ps ++ [0]).drop 1)) := by
        rw [show (some (1 : Int)) = some ((1 : Nat) : Int) from rfl, HT.sIx_nat, Nat.min_eq_left (by rw [toV_len, List.length_append]; show 1 ≤ ps.length + 1; omega)]
        unfold toV
        rw [← List.map_drop]
        exact ev_map _ _ _ (Nat.le_refl _)
      rw [eA] at ne2 ⊢
      rw [eB]
      have h2 : (upd (upd H2 e1 (.lst (toV (ev (ps ++ [0]))))) e2 (.lst (toV (ev ((ps ++ [0]).drop 1))))) e2 = some (.lst (toV (ev ((ps ++ [0]).drop 1)))) := upd_same
      have h1 : (upd (upd H2 e1 (.lst (toV (ev (ps ++ [0]))))) e2 (.lst (toV (ev ((ps ++ [0]).drop 1))))) e1 = some (.lst (toV (ev (ps ++ [0])))) := same_upd ne2 _ _ upd_same
      have sH3 : Same H (upd (upd H2 e1 (.lst (toV (ev (ps ++ [0]))))) e2 (.lst (toV (ev ((ps ++ [0]).drop 1))))) := (sH2.trans (same_upd ne1)).trans (same_upd ne2)
      generalize upd (upd H2 e1 (.lst (toV (ev (ps ++ [0]))))) e2 (.lst (toV (ev ((ps ++ [0]).drop 1)))) = H3 at h1 h2 sH3 ⊢
      refine ⟨e1, e2, _, _, rfl, .inl (.inl h1), .inl (.inl h2), fun D nD => ?_⟩
      have lA : (toV (ev (ps ++ [0]))).length = (m + 2) / 2 := by
        rw [toV_len, ev_len _ _ (Nat.le_refl _), List.length_append, hm]
        rfl
      have lB : (toV (ev ((ps ++ [0]).drop 1))).length = (m + 1) / 2 := by
        rw [toV_len, ev_len _ _ (Nat.le_refl _), List.length_drop, List.length_append, hm]
        rfl
      have lP : (pairUp s ps).length = (m + 1) / 2 := by rw [pairUp_len s _ ps (Nat.le_refl _), hm]
      refine lc_it (walk_zip (K := K) (a := e1) (b := e2) (xs := toV (ev (ps ++ [0]))) (ys := toV (ev ((ps ++ [0]).drop 1))) (n := (m + 1) / 2) (by rw [lA, lB]; omega)) (fun i H' => H' D = some (.lst (toV ((pairUp s ps).take i))) ∧ H' e1 = some (.lst (toV (ev (ps ++ [0])))) ∧ H' e2 = some (.lst (toV (ev ((ps ++ [0]).drop 1)))) ∧ Same H H') ?_ ?_ ?_ ?_
      · exact ⟨upd_same, same_upd nD _ _ h1, same_upd nD _ _ h2, sH3.trans (same_upd nD)⟩
      · intro i H' _ hP
        exact ⟨.inl (.inl hP.2.1), .inl (.inl hP.2.2.1)⟩
      · rintro i x H4 H5 hi ⟨hD, g1, g2, s4⟩ ⟨T, x1, y1, rfl, nT, rfl, hx, hy⟩
        obtain ⟨d1, hd1, rfl⟩ := getV hx
        obtain ⟨d2, hd2, rfl⟩ := getV hy
        have hz : (pairUp s ps)[i]? = some (d1 + d2 * 2 ^ s) := by
          rw [← pairUp_zip s _ ps (Nat.le_refl _), List.getElem?_zipWith, hd1, hd2]
        have hd2' : d2 < 2 ^ 1000 := by
          have hm2 : d2 ∈ ps ++ [0] := List.mem_of_mem_drop (List.mem_of_getElem? (show ((ps ++ [0]).drop 1)[2 * i]? = some d2 by rw [← ev_at]; exact hd2))
          rcases List.mem_append.mp hm2 with h | h
          · exact szv _ h
          · rw [List.mem_singleton] at h
            rw [h]
            exact Nat.two_pow_pos _
        have f1 := same_upd (o := .tup [.int d1, .int d2]) nT _ _ hD
        have f2 := same_upd (o := .tup [.int d1, .int d2]) nT _ _ g1
        have f3 := same_upd (o := .tup [.int d1, .int d2]) nT _ _ g2
        have f4 := s4.trans (same_upd (o := .tup [.int d1, .int d2]) nT)
        have hT : (upd H4 T (.tup [.int d1, .int d2])) T = some (.tup [.int d1, .int d2]) := upd_same
        generalize upd H4 T (.tup [.int d1, .int d2]) = H6 at f1 f2 f3 f4 hT ⊢
        refine gTup_as (sq_of hT) rfl ?_
        walk_at "rd"
        refine ⟨shl_ok (i := (d2 : Int)) (j := s) (n := 1000) (by rw [Int.natAbs_natCast]; exact hd2') (by omega), ?_⟩
        walk_at "rd"
        have ez : (d1 : Int) + (d2 : Int) * 2 ^ (s : Int).toNat = ((d1 + d2 * 2 ^ s : Nat) : Int) := by
          rw [Int.toNat_natCast]
          push_cast
          rfl
        have neD : ∀ {b : Addr} {o : HO}, H3 b = some o → b ≠ D := fun hb => ne_of_none hb nD
        refine ⟨_, f1, Nat.lt_of_le_of_lt (show _ ≤ 41 by rw [toV_len, List.length_take, lP]; omega) (by decide), ?_, by rw [upd_ne (neD h1)]; exact f2, by rw [upd_ne (neD h2)]; exact f3, fun b o hb => by rw [upd_ne (neD (sH3 _ _ hb))]; exact f4 _ _ hb⟩
        rw [upd_same, List.take_succ, hz, toV_app]
        dsimp only
        rw [ez]
        rfl
      · rintro H4 ⟨hD, _, _, s4⟩
        rw [List.take_of_length_le (by rw [lP]; exact Nat.le_refl _)] at hD
        have ss : Sm 20 (s : Int) := Sm.le (y := 800) (Sm.lit (k := 20)) (by omega) (by omega)
        walk_at "rd"
        exact ⟨sH3.free nD, hD, s4⟩
    · have hm1 : m ≤ 1 := by
        have : ¬ (m : Int) > 1 := fun l => e (decide_eq_true l)
        omega
      walk_at "rd"
      refine ⟨!ps.isEmpty, ?_, ?_⟩
      · exact .inl ⟨_, .inl (.inl hP), by cases ps <;> rfl⟩
      match ps, hm, hP, hv with
      | [], _, hP, hv =>
        walk_at "rd"
        have : val (2 ^ c) ds = 0 := hv.symm
        rw [this] at q
        exact q _ sH
      | [x], _, hP, hv =>
        walk_at "rd"
        refine ixL_as (.inl (.inl hP)) (at_of (j := 0) rfl rfl) ?_
        have : val (2 ^ c) ds = x := hv.symm
        rw [this] at q
        exact q _ sH
      | _ :: _ :: r, hm, _, _ => simp at hm; omega

def sp_law (K : PySem.W.Frag) : Sp := fun vs H Q _ => ∃ (a : Addr) (ns : List Int), vs = [.ref a] ∧ SqL K H a (ns.map V.int) ∧ ns.length ≤ 63 ∧ ∀ H', Q (.bl true) H'
theorem ok_law {f : Addr} {fd : FuncData} (F : Fun K "law" "law" s_law f fd) (C__law_draws : Cal P w K mg base "_law_draws" 1 ["script", "many"] (sp__law_draws K)) (C_digits_of : Cal P w K mg base "digits_of" 2 ["number", "c", "count"] (sp_digits_of K)) (C_number_of : Cal P w K mg base "number_of" 1 ["digits", "c"] (sp_number_of K)) (m_range : mg "range" = none) (m_int : mg "int" = none) (m_isinstance : mg "isinstance" = none) (m_list : mg "list" = none) : FnOk P w K mg base CX0 3 f fd ["script"] (sp_law K) := by
  refine F.ok sc_law (fun vs H Q E h => ?_) (fun cdv A outer s H vs Q E hr h => ?_)
  · obtain ⟨a, ns, rfl, _⟩ := h
    rfl
  · obtain ⟨sa, ns, rfl, hS, hlen, q⟩ := h
    refine ⟨_, (pss_cons (ps_set (i := 1) sc_law.nd rfl (.inr rfl) (pe_cal C__law_draws (hr.mono (by decide)) (by rfl) (pa_cons (pv 0) (pa_cons pe_int pa_nil))))
      (pss_cons (ps_par (by rfl) sc_law.nd (i := 2) (j := 3) rfl rfl (by decide) rfl rfl (pa_cons (pe_op op_add pe_int (pe_op op_mod (pe_callTy call_intI (by rfl) m_int (by decide +kernel) (pa_cons (pe_ix ix_list (pv 1) pe_int (fun _ _ => rfl)) pa_nil)) pe_int)) (pa_cons (pe_op op_mod (pe_callTy call_intI (by rfl) m_int (by decide +kernel) (pa_cons (pe_ix ix_list (pv 1) pe_int (fun _ _ => rfl)) pa_nil)) pe_int) pa_nil)) (by rfl))
      (pss_cons (ps_set (i := 4) sc_law.nd rfl (.inr rfl) (pe_op op_shlW pe_int (pv 2)))
      (pss_cons (ps_set (i := 5) sc_law.nd rfl (.inl rfl) pe_int)
      (pss_cons (ps_for PassesOwn.never rfl (pi_range1 (by rfl) m_range (pa_cons (pe_op op_mod (pe_callTy call_intI (by rfl) m_int (by decide +kernel) (pa_cons (pe_ix ix_list (pv 1) pe_int (fun _ _ => rfl)) pa_nil)) pe_int) pa_nil)) (pg_name (i := 6) sc_law.nd rfl (.inl rfl)) (pss_one (ps_set (i := 5) sc_law.nd rfl (.inl rfl) (pe_op op_add (pe_op op_mulX (pv 5) pe_int) (pe_callTy call_intI (by rfl) m_int (by decide +kernel) (pa_cons (pe_ix ix_list (pv 1) (pv 6) (fun _ _ => rfl)) pa_nil))))))
      (pss_cons (ps_set (i := 7) sc_law.nd rfl (.inl rfl) (pe_cal C_digits_of hr (by rfl) (pa_cons (pv 5) (pa_cons (pv 2) (pa_cons (pv 3) pa_nil)))))
      (pss_cons (ps_par (by rfl) sc_law.nd (i := 8) (j := 9) rfl rfl (by decide) rfl rfl (pa_cons (pv 5) (pa_cons (pe_lst pa_nil) pa_nil)) (by rfl))
      (pss_cons (ps_for PassesOwn.never rfl (pi_range1 (by rfl) m_range (pa_cons (pv 3) pa_nil)) (pg_name (i := 6) sc_law.nd rfl (.inl rfl)) (pss_cons (ps_expr (pe_bm PySem.F.plainAttrs_list PySem.F.slot_list_append PySem.F.type_list_append mt_append (pv 9) (pa_cons (pe_op op_sub (pv 8) (pe_op op_mulX (pe_op op_fdivW (pv 8) (pv 4)) (pv 4))) pa_nil)))
      (pss_one (ps_set (i := 8) sc_law.nd rfl (.inl rfl) (pe_op op_fdivW (pv 8) (pv 4))))))
      (pss_cons (ps_if (PW.pt (pw_or (pt_not (pt_val (pe_callB isi_list (by rfl) m_isinstance (by decide +kernel) (pa_cons (pv 7) (pa_cons (pe_bltn (v := .ty "list") rfl m_list (by decide +kernel) rfl) pa_nil))))) (pw_or (pt_cmpR (op_neD hr.units) (pv 7) (pv 9) (nomark _)) (pw_or1 (pt_cmpR op_ne (pe_op op_add (pe_cal C_number_of (hr.mono (by decide)) (by rfl) (pa_cons (pv 7) (pa_cons (pv 2) pa_nil))) (pe_op op_mulX (pv 8) (pe_cal C_number_of (hr.mono (by decide)) (by rfl) (pa_cons (pe_op op_cat (pe_op op_rep (pe_lst (pa_cons pe_int pa_nil)) (pv 3)) (pe_lst (pa_cons pe_int pa_nil))) (pa_cons (pv 2) pa_nil))))) (pv 5) (nomark _)))))) (pss_one (ps_ret pe_bl)) pss_nil)
      (pss_cons (ps_setLc (i := 10) (own := [("k", 6)]) (g := gName 6) (by rfl) sc_law.nd rfl rfl (sw_true rfl rfl rfl (by decide +kernel)) (pi_range1 (by rfl) m_range (pa_cons (pv 3) pa_nil)) (blkOk_by (own := [("k", 6)]) (N := ["script", "draws", "c", "count", "base", "number", "k", "found", "rest", "due", "digits", "total", "power", "digit"]) (sc := defScope s_law) (by decide +kernel)) (fun _ _ _ _ _ => pg_name (i := 6) sc_law.nd rfl (Or.inl rfl)) (fun _ _ _ _ _ => pts_nil) (fun _ _ _ _ _ => (pe_op op_mod (pe_callTy call_intI (by rfl) m_int (by decide +kernel) (pa_cons (pe_ix (show IxR _ (rIxL K) from ix_list) (pv 1) (pv 6) (fun _ _ => rfl)) pa_nil)) (pv 4))))
      (pss_cons (ps_asg (pe_tup (pa_cons pe_int (pa_cons pe_int pa_nil))) (pg_tup (by rfl) (pgs_cons (pg_name (i := 11) sc_law.nd rfl (.inl rfl)) (pgs_cons (pg_name (i := 12) sc_law.nd rfl (.inl rfl)) pgs_nil))))
      (pss_cons (ps_for PassesOwn.never rfl (pi_list (pv 10)) (pg_name (i := 13) sc_law.nd rfl (.inl rfl)) (pss_cons (ps_set (i := 11) sc_law.nd rfl (.inl rfl) (pe_op op_add (pv 11) (pe_op op_mulX (pv 13) (pv 12))))
      (pss_one (ps_set (i := 12) sc_law.nd rfl (.inl rfl) (pe_op op_mulX (pv 12) (pv 4))))))
      (pss_one (ps_ret (pe_and (pe_cmpR op_eq (pe_cal C_number_of (hr.mono (by decide)) (by rfl) (pa_cons (pv 10) (pa_cons (pv 2) pa_nil))) (pv 11) (nomark _)) (pe_and (pe_cmpR (op_eqD hr.units) (pe_cal C_digits_of hr (by rfl) (pa_cons (pv 11) (pa_cons (pv 2) (pa_cons (pv 3) pa_nil)))) (pv 10) (nomark _)) (pe_and (pe_cmpR op_eq (pe_cal C_number_of (hr.mono (by decide)) (by rfl) (pa_cons (pe_lst pa_nil) (pa_cons (pv 2) pa_nil))) pe_int (nomark _)) (pe_one (pe_cmpR (op_eqD hr.units) (pe_cal C_digits_of hr (by rfl) (pa_cons (pv 5) (pa_cons (pv 2) (pa_cons pe_int pa_nil)))) (pe_lst pa_nil) (nomark _)))))))))))))))))))), ?_⟩
    rw [st_law]
    walk_at "wk"
    refine ⟨_, _, 60, rfl, hS, by decide, fun H1 D ds s1 f1 hD hl hd => ?_⟩
    obtain ⟨dd, hdd⟩ : ∃ dd : Nat → Nat, ∀ j, j < 60 → (ds.map V.int)[j]? = some (V.int (dd j : Int)) ∧ dd j < 65537 := by
      refine ⟨fun j => (ds.getD j 0).toNat, fun j hj => ?_⟩
      have h1 : ds[j]? = some (ds[j]'(by omega)) := List.getElem?_eq_getElem (by omega)
      have h2 := hd _ (List.mem_of_getElem? h1)
      show _ = some (V.int (((ds.getD j 0).toNat : Nat) : Int)) ∧ (ds.getD j 0).toNat < 65537
      rw [List.getD_eq_getElem?_getD, List.getElem?_map, h1]
      constructor
      · show some (V.int _) = some (V.int _)
        congr 2
        show _ = (((ds[j]'(by omega)).toNat : Nat) : Int)
        omega
      · show (ds[j]'(by omega)).toNat < 65537
        omega
    walk_at "wk"
    refine ixL_as (.inl (.inl hD)) (at_of (j := 50) rfl (hdd 50 (by omega)).1) ?_
    walk_at "wk"
    refine ixL_as (.inl (.inl hD)) (at_of (j := 51) rfl (hdd 51 (by omega)).1) ?_
    walk_at "wk"
    obtain ⟨c, ec, hc1, hc⟩ : ∃ c : Nat, 1 + (dd 50 : Int) % 20 = (c : Int) ∧ 1 ≤ c ∧ c ≤ 20 := ⟨1 + dd 50 % 20, by omega, by omega, by omega⟩
    obtain ⟨m, em, hm⟩ : ∃ m : Nat, (dd 51 : Int) % 30 = (m : Int) ∧ m < 30 := ⟨dd 51 % 30, by omega, by omega⟩
    rw [ec, em]
    refine WK.i1 (shl_ok (n := 1) (by decide) (by omega)) ?_
    rw [Int.toNat_natCast, Int.one_mul, show ((2 : Int) ^ c) = ((2 ^ c : Nat) : Int) by norm_cast]
    walk_at "wk"
    refine ixL_as (.inl (.inl hD)) (at_of (j := 52) rfl (hdd 52 (by omega)).1) ?_
    walk_at "wk"
    refine for_rng (n := dd 52 % 40) (fun k σ' H' => ∃ (N : Nat) (c6 : Option V), σ' = [some (.ref sa), some (.ref D), some (.int c), some (.int m), some (.int ((2 ^ c : Nat) : Int)), some (.int (N : Int)), c6, none, none, none, none, none, none, none] ∧ N < 65537 ^ k ∧ H' = H1) ?_ ?_ ?_
    · exact ⟨0, none, rfl, by decide, rfl⟩
    · rintro k σ H2 hk ⟨N, c6, rfl, hN, rfl⟩
      have h40 : 65537 ^ k ≤ 65537 ^ 39 := Nat.pow_le_pow_right (by decide) (by omega)
      have sN : Sm 700 (N : Int) := by
        unfold Sm
        rw [Int.natAbs_natCast]
        exact Nat.lt_trans (Nat.lt_of_lt_of_le hN h40) (by decide)
      walk_at "wk"
      have hk2 := hdd k (by omega)
      refine ixL_as (.inl (.inl hD)) (at_of (j := k) rfl hk2.1) ?_
      walk_at "wk"
      refine ⟨N * 65537 + dd k, _, rfl, ?_, rfl⟩
      rw [Nat.pow_succ]
      have := hk2.2
      omega
    rintro σ H2 ⟨N, c6, rfl, hN, rfl⟩
    have hN7 : N < 2 ^ 700 := by
      have h40 : 65537 ^ (dd 52 % 40) ≤ 65537 ^ 39 := Nat.pow_le_pow_right (by decide) (by omega)
      exact Nat.lt_trans (Nat.lt_of_lt_of_le hN h40) (by decide)
    clear hN
    walk_at "wk"
    have hb1 : (0 : Int) < ((2 ^ c : Nat) : Int) := by have := Nat.two_pow_pos c; omega
    have hb2 : 2 ^ c ≤ 2 ^ 20 := Nat.pow_le_pow_right (by decide) hc
    have sbase : Sm 21 ((2 ^ c : Nat) : Int) := by
      unfold Sm
      rw [Int.natAbs_natCast]
      omega
    refine ⟨N, c, m, rfl, hN7, hc, by omega, fun H3 F s3 nF hF => ?_⟩
    have hD3 := s3 _ _ hD
    walk_at "wk"
    intro L nL
    walk_at "wk"
    refine for_rng (n := m) (fun k σ' H' => ∃ (c6 : Option V), σ' = [some (.ref sa), some (.ref D), some (.int c), some (.int m), some (.int ((2 ^ c : Nat) : Int)), some (.int (N : Int)), c6, some (.ref F), some (.int ((N / 2 ^ (c * k) : Nat) : Int)), some (.ref L), none, none, none, none] ∧ H' L = some (.lst (toV (dgs N c k))) ∧ Same H3 H') ?_ ?_ ?_
    · refine ⟨c6, ?_, upd_same, same_upd nL⟩
      rw [Nat.mul_zero, Nat.pow_zero, Nat.div_one]
    · rintro k σ H4 hk ⟨c6, rfl, hL, s4⟩
      have sR : Sm 700 ((N / 2 ^ (c * k) : Nat) : Int) := by
        unfold Sm
        rw [Int.natAbs_natCast]
        exact Nat.lt_of_le_of_lt (Nat.div_le_self _ _) hN7
      obtain ⟨R, eR⟩ : ∃ R, R = N / 2 ^ (c * k) := ⟨_, rfl⟩
      rw [← eR] at sR ⊢
      have cd : CDivW (R : Int) ((2 ^ c : Nat) : Int) := by
        exact wide_div hb1 sbase (by decide) (by decide)
      walk_at "wk"
      have eq1 : (R : Int) / ((2 ^ c : Nat) : Int) = ((R / 2 ^ c : Nat) : Int) := (Int.natCast_ediv _ _).symm
      rw [eq1]
      have sq : Sm 700 ((R / 2 ^ c : Nat) : Int) := by
        unfold Sm at sR ⊢
        rw [Int.natAbs_natCast] at sR ⊢
        exact Nat.lt_of_le_of_lt (Nat.div_le_self _ _) sR
      walk_at "wk"
      refine app_go hL (by rw [toV_len, dgs_len]; exact Nat.lt_of_lt_of_le (show k < 30 by omega) (by decide)) ?_
      walk_at "wk"
      refine ⟨some (.int (k : Int)), ?_, ?_, Same.new s4 nL⟩
      · rw [eq1, show N / 2 ^ (c * (k + 1)) = R / 2 ^ c by rw [eR, Nat.div_div_eq_div_mul, ← Nat.pow_add]; rfl]
      · rw [upd_same, dgs_succ, toV_app, ← eR, show (R : Int) - ((R / 2 ^ c : Nat) : Int) * ((2 ^ c : Nat) : Int) = ((R % 2 ^ c : Nat) : Int) by
          have := Nat.div_add_mod R (2 ^ c)
          rw [← Int.natCast_mul, Nat.mul_comm (R / 2 ^ c)]
          omega]
        rfl
    rintro σ H4 ⟨c6, rfl, hL, s4⟩
    have hF4 := s4 _ _ hF
    have hD4 := s4 _ _ hD3
    walk_at "wk"
    refine ⟨F, _, rfl, hF4, ?_⟩
    walk_at "wk"
    refine list_ne_self (.inl (.inl hF4)) (.inl (.inl hL)) ?_
    walk_at "wk"
    have hvd := val_dgs N c m
    have sv : Sm 700 (((N / 2 ^ (c * m) : Nat)) : Int) := by
      unfold Sm
      rw [Int.natAbs_natCast]
      exact Nat.lt_of_le_of_lt (Nat.div_le_self _ _) hN7
    have hcm : c * m ≤ 600 := Nat.le_trans (Nat.mul_le_mul hc (show m ≤ 30 by omega)) (by decide)
    have sz : Sm 700 ((2 ^ (c * m) : Nat) : Int) := by
      unfold Sm
      rw [Int.natAbs_natCast]
      exact Nat.pow_lt_pow_right (by decide) (by omega)
    refine ⟨F, dgs N c m, c, rfl, .inl (.inl hF4), by rw [dgs_len]; omega, hc, Nat.lt_of_le_of_lt (show _ ≤ N by omega) (Nat.lt_trans hN7 (Nat.pow_lt_pow_right (by decide) (by decide))), fun H5 s5 => ?_⟩
    walk_at "wk"
    intro p1 n1
    walk_at "wk"
    refine ⟨p1, _, [.int 0], rfl, rfl, upd_same, by omega, by omega, Nat.le_trans (show 1 * (m : Int).toNat ≤ 30 by omega) (by decide), fun p2 n2 => ?_⟩
    walk_at "wk"
    intro p3 n3
    have eR : (List.replicate (m : Int).toNat [V.int 0]).flatten = toV (List.replicate m 0) := by rw [Int.toNat_natCast, rep_zero]
    rw [eR] at n3 ⊢
    refine ⟨p2, p3, _, _, rfl, rfl, same_upd n3 _ _ upd_same, upd_same, Nat.le_trans (show _ ≤ 31 by rw [toV_len, List.length_replicate]; show m + 1 ≤ 31; omega) (by decide), fun p4 n4 => ?_⟩
    rw [one_app]
    have s8 : Same H5 (upd (upd (upd (upd H5 p1 (.lst [.int 0])) p2 (.lst (toV (List.replicate m 0)))) p3 (.lst [.int 1])) p4 (.lst (toV (List.replicate m 0 ++ [1])))) := (((same_upd n1).trans (same_upd n2)).trans (same_upd n3)).trans (same_upd n4)
    have g4 : (upd (upd (upd (upd H5 p1 (.lst [.int 0])) p2 (.lst (toV (List.replicate m 0)))) p3 (.lst [.int 1])) p4 (.lst (toV (List.replicate m 0 ++ [1])))) p4 = some (.lst (toV (List.replicate m 0 ++ [1]))) := upd_same
    generalize upd (upd (upd (upd H5 p1 (.lst [.int 0])) p2 (.lst (toV (List.replicate m 0)))) p3 (.lst [.int 1])) p4 (.lst (toV (List.replicate m 0 ++ [1]))) = H8 at s8 g4 ⊢
    clear n1 n2 n3 n4
    have hD8 := s8 _ _ (s5 _ _ hD4)
    have ez : val (2 ^ c) (List.replicate m 0 ++ [1]) = 2 ^ (c * m) := by rw [val_zeros, ← Nat.pow_mul]
    walk_at "wk"
    refine ⟨p4, List.replicate m 0 ++ [1], c, rfl, .inl (.inl g4), by rw [List.length_append, List.length_replicate]; show m + 1 ≤ 40; omega, hc, by rw [ez]; exact Nat.pow_lt_pow_right (by decide) (by omega), fun H9 s9 => ?_⟩
    rw [ez]
    have hD9 := s9 _ _ hD8
    walk_at "wk"
    refine ite2 (fun e => absurd e (ne_self (congrArg V.int (show (val (2 ^ c) (dgs N c m) : Int) + ((N / 2 ^ (c * m) : Nat) : Int) * ((2 ^ (c * m) : Nat) : Int) = (N : Int) by rw [← Int.natCast_mul, ← Int.natCast_add, hvd])))) (fun _ => ?_)
    walk_at "wk"
    intro E nE
    obtain ⟨dl, edl⟩ : ∃ dl, dl = (List.range m).map fun k => dd k % 2 ^ c := ⟨_, rfl⟩
    have ll : dl.length = m := by rw [edl, List.length_map, List.length_range]
    have lb : ∀ x ∈ dl, x < 2 ^ c := fun x hx => by
      rw [edl] at hx
      obtain ⟨k, _, rfl⟩ := List.mem_map.mp hx
      exact Nat.mod_lt _ (Nat.two_pow_pos c)
    have la : ∀ k, k < m → dl[k]? = some (dd k % 2 ^ c) := fun k hk => by
      rw [edl, List.getElem?_map, List.getElem?_range hk]
      rfl
    clear edl
    refine lc_rng (n := m) (fun i H' => H' E = some (.lst (toV (dl.take i))) ∧ Same H9 H') ?_ ?_ ?_
    · exact ⟨upd_same, same_upd nE⟩
    · rintro k HA hk ⟨hE, sA⟩
      have hDA := sA _ _ hD9
      walk_at "rd"
      refine ixL_as (.inl (.inl hDA)) (at_of (j := k) rfl (hdd k (by omega)).1) ?_
      walk_at "rd"
      refine ⟨_, hE, Nat.lt_of_le_of_lt (show _ ≤ 30 by rw [toV_len, List.length_take]; omega) (by decide), ?_, Same.new sA nE⟩
      dsimp only
      rw [upd_same, List.take_succ, la k hk, toV_app, show (dd k : Int) % ((2 ^ c : Nat) : Int) = ((dd k % 2 ^ c : Nat) : Int) from (Int.natCast_emod _ _).symm]
      rfl
    rintro HA ⟨hE, sA⟩
    rw [← ll, List.take_length] at hE
    walk_at "wk"
    intro p5 n5
    walk_at "wk"
    have hE5 := same_upd (o := .tup [.int 0, .int 1]) n5 _ _ hE
    generalize upd HA p5 (.tup [.int 0, .int 1]) = HB at hE5 ⊢
    refine ⟨E, rfl, ⟨_, .inl (.inl hE5)⟩, ?_⟩
    have vlt : ∀ k, val (2 ^ c) (dl.take k) < 2 ^ 700 := fun k => by
      have h1 := val_lt (b := 2 ^ c) (dl.take k) fun x hx => lb x (List.mem_of_mem_take hx)
      rw [← Nat.pow_mul] at h1
      refine Nat.lt_of_lt_of_le h1 (Nat.pow_le_pow_right (by decide) ?_)
      have : (dl.take k).length ≤ 30 := by rw [List.length_take]; omega
      exact Nat.le_trans (Nat.mul_le_mul hc this) (by decide)
    refine for_list (K := K) (a := E) (xs := toV dl) (fun i σ' H' => ∃ (c13 : Option V), σ' = [some (.ref sa), some (.ref D), some (.int c), some (.int m), some (.int ((2 ^ c : Nat) : Int)), some (.int (N : Int)), c6, some (.ref F), some (.int ((N / 2 ^ (c * m) : Nat) : Int)), some (.ref L), some (.ref E), some (.int (val (2 ^ c) (dl.take i) : Nat)), some (.int ((2 ^ (c * i) : Nat) : Int)), c13] ∧ H' = HB) ?_ ?_ ?_ ?_
    · exact ⟨none, rfl, rfl⟩
    · rintro i σ H' _ ⟨_, _, rfl⟩
      exact .inl (.inl hE5)
    · rintro i x σ H' hx ⟨c13, rfl, rfl⟩
      obtain ⟨d, hd', rfl⟩ := getV hx
      have hi : i < m := by rw [← ll]; exact (List.getElem?_eq_some_iff.mp hd').1
      have sd : Sm 21 (d : Int) := by
        have := lb d (List.mem_of_getElem? hd')
        unfold Sm
        rw [Int.natAbs_natCast]
        omega
      have sp : Sm 700 ((2 ^ (c * i) : Nat) : Int) := by
        unfold Sm
        rw [Int.natAbs_natCast]
        refine Nat.pow_lt_pow_right (by decide) (Nat.lt_of_le_of_lt (Nat.mul_le_mul hc (show i ≤ 30 by omega)) (by decide))
      walk_at "wk"
      refine ⟨some (.int (d : Int)), ?_, rfl⟩
      rw [show ((val (2 ^ c) (dl.take (i + 1)) : Nat) : Int) = (val (2 ^ c) (dl.take i) : Int) + (d : Int) * ((2 ^ (c * i) : Nat) : Int) by
        rw [val_take _ hd', ← Nat.pow_mul, Int.natCast_add, Int.natCast_mul], show ((2 ^ (c * (i + 1)) : Nat) : Int) = ((2 ^ (c * i) : Nat) : Int) * ((2 ^ c : Nat) : Int) by
        rw [show c * (i + 1) = c * i + c by rw [Nat.mul_add, Nat.mul_one], Nat.pow_add, Int.natCast_mul]]
    rintro σ H' ⟨c13, rfl, rfl⟩
    rw [toV_len, List.take_length]
    have vl := vlt dl.length
    rw [List.take_length] at vl
    walk_at "wk"
    refine ⟨E, dl, c, rfl, .inl (.inl hE5), by omega, hc, Nat.lt_trans vl (Nat.pow_lt_pow_right (by decide) (by decide)), fun HC sC => ?_⟩
    walk_at "wk"
    rw [decide_eq_true rfl]
    walk_at "wk"
    refine ⟨_, c, m, rfl, vl, hc, by omega, fun HD F2 sF nF hF2 => ?_⟩
    rw [← ll, dgs_val lb] at hF2
    walk_at "wk"
    refine list_eq_self (.inl (.inl hF2)) (.inl (.inl (sF _ _ (sC _ _ hE5)))) ?_
    walk_at "wk"
    intro p6 n6
    walk_at "wk"
    refine ⟨p6, [], c, rfl, .inl (.inl upd_same), by decide, hc, Nat.two_pow_pos _, fun HG sG => ?_⟩
    walk_at "wk"
    rw [decide_eq_true (show V.int ((val (2 ^ c) [] : Nat) : Int) = V.int 0 from rfl)]
    walk_at "wk"
    refine ⟨N, c, 0, rfl, hN7, hc, by omega, fun HI F3 sI nI hF3 => ?_⟩
    walk_at "wk"
    intro p7 n7
    refine list_eq_self (l := []) (.inl (.inl (same_upd n7 _ _ hF3))) (.inl (.inl upd_same)) ?_
    walk_at "wk"
    exact q _

end
end RR

namespace RR
open PySem PySem.Spec PyProof.Rows L2
theorem all_mk {l : PySem.W.OpenLaw} {w : World} {K : PySem.W.Frag} {h : Heap} {mg : Str → Option Value} {fa : Addr} (X : K.In h) (G : h.Ns mainGlobals mg) (hfa : mg "law" = some (.ref fa))
    {f0 : Addr} {od0 an0 : Option Addr} {sl0 : Array (Option Value)} {oc0 kV0 dc0 pm0 cd0 ct0 : Value}
    {f1 : Addr} {od1 an1 : Option Addr} {sl1 : Array (Option Value)} {oc1 kV1 dc1 pm1 cd1 ct1 : Value}
    {f2 : Addr} {od2 an2 : Option Addr} {sl2 : Array (Option Value)} {oc2 kV2 dc2 pm2 cd2 ct2 : Value}
    {f3 : Addr} {od3 an3 : Option Addr} {sl3 : Array (Option Value)} {oc3 kV3 dc3 pm3 cd3 ct3 : Value}
    {f4 : Addr} {od4 an4 : Option Addr} {sl4 : Array (Option Value)} {oc4 kV4 dc4 pm4 cd4 ct4 : Value}
    (a0 : PySem.W.nsIn K mainGlobals "_law_draws" = some (some (.ref f0)))
    (l0 : K.lookup f0 = some ⟨oc0, od0, .func (PySem.W.fnOf "_law_draws" "_law_draws" (defArgs s__law_draws) (defBody s__law_draws) (defScope s__law_draws) .none kV0 dc0 pm0 an0 cd0 ct0), sl0⟩)
    (c0 : PySem.W.codeIn K cd0 "_law_draws" = true) (k0 : PySem.W.keepIn K (.ref f0) = true)
    (a1 : PySem.W.nsIn K mainGlobals "_ones" = some (some (.ref f1)))
    (l1 : K.lookup f1 = some ⟨oc1, od1, .func (PySem.W.fnOf "_ones" "_ones" (defArgs s__ones) (defBody s__ones) (defScope s__ones) .none kV1 dc1 pm1 an1 cd1 ct1), sl1⟩)
    (c1 : PySem.W.codeIn K cd1 "_ones" = true) (k1 : PySem.W.keepIn K (.ref f1) = true)
    (a2 : PySem.W.nsIn K mainGlobals "digits_of" = some (some (.ref f2)))
    (l2 : K.lookup f2 = some ⟨oc2, od2, .func (PySem.W.fnOf "digits_of" "digits_of" (defArgs s_digits_of) (defBody s_digits_of) (defScope s_digits_of) .none kV2 dc2 pm2 an2 cd2 ct2), sl2⟩)
    (c2 : PySem.W.codeIn K cd2 "digits_of" = true) (k2 : PySem.W.keepIn K (.ref f2) = true)
    (a3 : PySem.W.nsIn K mainGlobals "number_of" = some (some (.ref f3)))
    (l3 : K.lookup f3 = some ⟨oc3, od3, .func (PySem.W.fnOf "number_of" "number_of" (defArgs s_number_of) (defBody s_number_of) (defScope s_number_of) .none kV3 dc3 pm3 an3 cd3 ct3), sl3⟩)
    (c3 : PySem.W.codeIn K cd3 "number_of" = true) (k3 : PySem.W.keepIn K (.ref f3) = true)
    (a4 : PySem.W.nsIn K mainGlobals "law" = some (some (.ref f4)))
    (l4 : K.lookup f4 = some ⟨oc4, od4, .func (PySem.W.fnOf "law" "law" (defArgs s_law) (defBody s_law) (defScope s_law) .none kV4 dc4 pm4 an4 cd4 ct4), sl4⟩)
    (c4 : PySem.W.codeIn K cd4 "law" = true) (k4 : PySem.W.keepIn K (.ref f4) = true)
    (z_range : PySem.W.nsIn K mainGlobals "range" = some none)
    (z_abs : PySem.W.nsIn K mainGlobals "abs" = some none)
    (z_int : PySem.W.nsIn K mainGlobals "int" = some none)
    (z_len : PySem.W.nsIn K mainGlobals "len" = some none)
    (z_list : PySem.W.nsIn K mainGlobals "list" = some none)
    (z_zip : PySem.W.nsIn K mainGlobals "zip" = some none)
    (z_isinstance : PySem.W.nsIn K mainGlobals "isinstance" = some none)
    : ∃ fd : FuncData, (∀ (s : Shared) (v : Value), BindsTo s fd ⟨[v], []⟩ [("script", v)]) ∧ ∀ base : Heap, K.In base → base.Ns mainGlobals mg → FnOk l.prog w K mg base CX0 3 fa fd ["script"] (sp_law K) := by
  have e := hfa.symm.trans (PySem.W.mg_of X G a4)
  cases e
  have F0 := fun_mk (st := s__law_draws) l0 c0 k0
  have F1 := fun_mk (st := s__ones) l1 c1 k1
  have F2 := fun_mk (st := s_digits_of) l2 c2 k2
  have F3 := fun_mk (st := s_number_of) l3 c3 k3
  have F4 := fun_mk (st := s_law) l4 c4 k4
  have b0 := F0.binds (ps := ["script", "many"]) fun _ _ _ _ _ _ us hl => match us, hl with | [_, _], _ => rfl
  have b1 := F1.binds (ps := ["length"]) fun _ _ _ _ _ _ us hl => match us, hl with | [_], _ => rfl
  have b2 := F2.binds (ps := ["number", "c", "count"]) fun _ _ _ _ _ _ us hl => match us, hl with | [_, _, _], _ => rfl
  have b3 := F3.binds (ps := ["digits", "c"]) fun _ _ _ _ _ _ us hl => match us, hl with | [_, _], _ => rfl
  refine ⟨PySem.W.fnOf "law" "law" (defArgs s_law) (defBody s_law) (defScope s_law) .none kV4 dc4 pm4 an4 cd4 ct4, fun s v => .of_eq rfl, fun base _ _ => ?_⟩
  have m_range := PySem.W.mg_none_of X G z_range
  have m_abs := PySem.W.mg_none_of X G z_abs
  have m_int := PySem.W.mg_none_of X G z_int
  have m_len := PySem.W.mg_none_of X G z_len
  have m_list := PySem.W.mg_none_of X G z_list
  have m_zip := PySem.W.mg_none_of X G z_zip
  have m_isinstance := PySem.W.mg_none_of X G z_isinstance
  have C__law_draws : Cal l.prog w K mg base "_law_draws" 1 ["script", "many"] (sp__law_draws K) := ⟨_, _, ok__law_draws F0 m_range m_abs m_int m_len, PySem.W.mg_of X G a0, F0.kp, b0⟩
  have C__ones : Cal l.prog w K mg base "_ones" 1 ["length"] (sp__ones K) := ⟨_, _, ok__ones F1 , PySem.W.mg_of X G a1, F1.kp, b1⟩
  have C_digits_of : Cal l.prog w K mg base "digits_of" 2 ["number", "c", "count"] (sp_digits_of K) := ⟨_, _, ok_digits_of F2 C__ones, PySem.W.mg_of X G a2, F2.kp, b2⟩
  have C_number_of : Cal l.prog w K mg base "number_of" 1 ["digits", "c"] (sp_number_of K) := ⟨_, _, ok_number_of F3 m_list m_len m_zip, PySem.W.mg_of X G a3, F3.kp, b3⟩
  exact ok_law F4 C__law_draws C_digits_of C_number_of m_range m_int m_isinstance m_list
end RR
open PySem PySem.W PyProof.Rows
set_option maxHeartbeats 0 in
theorem PySem.Challenge.cw_runroots_k10_digits_holds : PySem.Challenge.rw_runroots_k10_digits.Holds := by
  w_on; o_law; k_head; (case hw => w_witness2)
  k_fill
  refine L2.walk_of (l := PySem.Challenge.rw_runroots_k10_digits) (n := 63) (k := 3) (x := "script") (CX := fun _ => L2.CX0) (sp := fun w => RR.sp_law _) rfl (by decide) rfl ⟨rfl, by decide, by decide⟩ (fun w h Y => PySem.W.kIn_of Y) ?F (fun _ _ a ns hl _ hS => ⟨a, ns, rfl, hS, hl, fun _ => rfl⟩) (fun _ _ _ _ _ h => h)
  case F =>
    intro w mg fa h KX G hmg
    refine' RR.all_mk KX G hmg ?a0 ?l0 ?c0 ?k0 ?a1 ?l1 ?c1 ?k1 ?a2 ?l2 ?c2 ?k2 ?a3 ?l3 ?c3 ?k3 ?a4 ?l4 ?c4 ?k4 ?z_range ?z_abs ?z_int ?z_len ?z_list ?z_zip ?z_isinstance
    (case a0 => k_is); (case l0 => k_is); (case c0 => k_is); (case k0 => k_is); (case a1 => k_is); (case l1 => k_is); (case c1 => k_is); (case k1 => k_is); (case a2 => k_is); (case l2 => k_is); (case c2 => k_is); (case k2 => k_is); (case a3 => k_is); (case l3 => k_is); (case c3 => k_is); (case k3 => k_is); (case a4 => k_is); (case l4 => k_is); (case c4 => k_is); (case k4 => k_is); (case z_range => k_is); (case z_abs => k_is); (case z_int => k_is); (case z_len => k_is); (case z_list => k_is); (case z_zip => k_is); (case z_isinstance => k_is)
