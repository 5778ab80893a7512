import PyProof.Rows.All
import PyProof.FString3
import PyProof.Rows.StrIntSpec
import HandS.ForMost
import HandS.FStr
import HandS.Wide
import HandS.WideBits
import HandS.Style
import HandS.Star
import HandS.RevRange
import HandS.EndBits
import HandS.IsInst
import HandS.Deep
import HandS.Gcd
import HandS.Text
import PyProof.Rows.BitMore
import PySem.Challenge.RW_runroots_k20_binomials_and_carries
set_option Elab.async false
set_option linter.all false
set_option maxRecDepth 100000
set_option maxHeartbeats 16000000
namespace RR
open PySem PySem.Spec PyProof.Rows L2 PySem.Builtin PySem.Builtin.Float
/-- a number's signs to the base two -/
def binL (n : Nat) : List Nat := (Nat.toDigits 2 n).map Char.toNat
def binS (n : Nat) : Str := ⟨(binL n).toArray⟩
def specB : FormatSpec := { align := 62, type := some 98 }
theorem parse_b (k : String) : parseFormatSpec (Str.ofString "b").cps.toList k 62 = .ok specB := rfl
theorem field_b {D : List Nat} (hD : D ≠ []) : intField' specB false [] D [] 4 = ⟨D.toArray⟩ := by
  have e : D.isEmpty = false := by cases D with
    | nil => exact absurd rfl hD
    | cons _ _ => rfl
  have p : ((-1 : Int) - 0 - (D.length : Int)).toNat = 0 := by omega
  simp [intField', specB, e, p]
theorem binL_ne (n : Nat) : binL n ≠ [] := by
  intro h
  have h2 : Nat.toDigits 2 n = [] := List.map_eq_nil_iff.mp h
  have := Nat.length_toDigits_pos (b := 2) (n := n)
  rw [h2] at this
  exact absurd this (by simp)
section
variable {prog : Program} {w : World} {A : Around} {E : Value → Shared → Prop} {s : Shared}
theorem bin_spec {n : Nat} {t : Tok} {Q : Value → Shared → Prop} (hl : (binS n).length ≤ sizeLine)
    (h : Q (.str (binS n) (s.toks + 1)) { s with toks := s.toks + 1 + 1 }) : wpAny (model prog w) A (formatField (.int (n : Int) t) (Str.ofString "b")) Q E s := by
  show wpAny _ _ (holding [Value.int (n : Int) t] (pyFormat (Value.int (n : Int) t) (Str.ofString "b"))) Q E s
  refine wpAny_holding ?_
  unfold pyFormat
  refine wpAny_bind (wpAny_mkStr ?_ (by decide))
  refine wpAny_bind (m := callSpecial? (.int (n : Int) t) (Str.ofString "__format__") [.str (Str.ofString "b") s.toks])
    (wpAny_callSpecial?_slot (name := Str.ofString "__format__") (typeIs_int _ _ t) slot_int_format ?_)
  refine wpAny_call (codeAny_call_builtin slot_int_format.plain entry_int_format
    (slot_int_format.check _ _ _ _ _ _ _ _ (typeIs_int _ _ t) (args_int_format _ _) ?_))
  unfold Builtin.«int.__format__»
  simp only [selfAndOne, noKeywords, Int.intOfSelf, asInt?, asStr?, List.isEmpty_nil, if_true, pure_bind, bind_assoc, Bool.false_eq_true, if_false,
    show ((Str.ofString "b").length == 0) = false by decide,
    show (((Str.ofString "b").cps.toList.drop 1).any (· ≥ 128) || ((Str.ofString "b").cps.getD 0 0 ≥ 128 && !([60, 62, 61, 94] : List Nat).contains ((Str.ofString "b").cps.getD 1 0))) = false by decide,
    show (Value.str (Str.ofString "b") s.toks == Value.none) = false from rfl]
  refine wpAny_bind (wpAny_typeNameOf (T := "str") (typeIs_str _ _ _) (by decide) fun _ => ?_)
  refine wpAny_bind (wpAny_typeNameOfCut_int ?_)
  obtain ⟨f, hf⟩ : ∃ f, f = specB := ⟨_, rfl⟩
  have hty : f.type.getD (if (Str.ofString "b").cps.back? == some 0 then 0 else 100) = 98 := by rw [hf]; rfl
  have hpr : f.precision.isSome = false := by rw [hf]; rfl
  have hz : f.noNeg0 = false := by rw [hf]; rfl
  have hal : f.alt = false := by rw [hf]; rfl
  have hw : f.width.getD 0 = 0 := by rw [hf]; rfl
  simp only [parse_b, ← hf, hty]
  rw [if_pos (by decide)]
  show wpAny _ _ (if _ then _ else _) _ _ _
  rw [if_neg (by simp [hpr])]
  show wpAny _ _ (if _ then _ else _) _ _ _
  rw [if_neg (by simp [hz])]
  show wpAny _ _ (if _ then _ else _) _ _ _
  rw [if_neg (by decide)]
  show wpAny _ _ (if _ then _ else _) _ _ _
  rw [if_neg (by decide)]
  show wpAny _ _ (if _ then _ else _) _ _ _
  rw [if_neg (by simp [hw])]
  show wpAny _ _ (retStr _) _ _ _
  unfold retStr
  have hneg : decide ((n : Int) < 0) = false := decide_eq_false (by omega)
  have key : intField' f (decide ((n : Int) < 0)) (if f.alt = true then [] else []) ((Nat.toDigits 2 (n : Int).natAbs).map fun c => (if (98 : Nat) == 88 then c.toUpper else c).toNat) [] 4 = binS n := by
    rw [hneg, hf]
    exact field_b (binL_ne n)
  have hl2 := key ▸ hl
  have h2 := key ▸ h
  clear h hl
  subst hf
  refine wpAny_bind (wpAny_mkStr (wpAny_pure ?_) hl2)
  exact wpAny_bind (wpAny_isInstance (typeIs_str _ _ _) isSubtype_str_str (wpAny_pure h2))
end
end RR
namespace RR
open PySem PySem.Spec PyProof.Rows L2
section
variable {X : Cx}
/-- f'{x:b}' of an int from 0 on -/
def tFmtB (te : TE) : TE := fun σ H Q => te σ H fun x H1 => ∃ n : Nat, x = .int n ∧ (binS n).length ≤ sizeLine ∧ Q (.str (binS n)) H1
theorem pe_fmtB {e : Expr} {te : TE} {k : Nat} {p1 p2 p3 p4 : Pos} (he : PE X e te) :
    PE X (.JoinedStr [.FormattedValue e (-1) (some (.JoinedStr [.Constant (.str "b") k p1] p2)) p3] p4) (tFmtB te) := by
  refine pe_joined1 ⟨fun pins s σ H Q I h => ?_⟩
  refine wpAny_FormattedValue_spec (thn (he.run pins s σ H _ I h) fun v s1 hv => ?_)
  obtain ⟨x, H1, I1, r1, n, rfl, hl, q⟩ := hv
  obtain ⟨t, rfl⟩ := r1
  refine wpAny_JoinedStr_one (Calls.Constant_str ⟨_, _, rfl, ?_⟩)
  exact bin_spec hl ⟨.str (binS n), H1, (I1.tok _).tok _, ⟨_, rfl⟩, q⟩
end
end RR

namespace RR
open PySem PySem.Spec PyProof.Rows L2
/-- a def of the text, as callers see it -/
structure Cal (P : Program) (w : World) (K : PySem.W.Frag) (mg : Str → Option Value) (base : Heap) (x : Str) (k : Nat) (ps : List Str) (sp : Sp) : Prop where
  ex : ∃ (f : Addr) (fd : FuncData), FnOk P w K mg base L2.CX0 k f fd ps sp ∧ mg x = some (.ref f) ∧ PySem.W.keepIn K (.ref f) = true ∧ Binds K fd ps []
theorem Cal.mk' {P : Program} {w : World} {K : PySem.W.Frag} {mg : Str → Option Value} {base : Heap} {x : Str} {k : Nat} {ps : List Str} {sp : Sp} {f : Addr} {fd : FuncData}
    (F : FnOk P w K mg base L2.CX0 k f fd ps sp) (g : mg x = some (.ref f)) (kp : PySem.W.keepIn K (.ref f) = true) (b : Binds K fd ps []) : Cal P w K mg base x k ps sp := ⟨f, fd, F, g, kp, b⟩
section
variable {X : Cx}
def tCal (sp : Sp) (t : TA) : TE := fun σ H Q => t σ H fun vs H1 => sp vs H1 Q L2.E0
theorem pe_cal {x : Str} {k : Nat} {ps : List Str} {sp : Sp} {p pos : Pos} {e : Expr} {es : List Expr} {t : TA} (C : Cal X.prog X.w X.K X.mg X.base x k ps sp) (hr : Room k X.A) (hg : Gl X x) (ha : PA X (e :: es) t)
    (hdb : (x == ("__debug__" : Str)) = false := by decide) (he : starEach (e :: es) X.env = (false, eval e X.env) :: starEach es X.env := by rfl) (hpl : (backTo pos (starEach es X.env)).any (·.1) = false := by rfl) :
    PE X (.Call (.Name x p) (e :: es) [] pos) (tCal sp t) := by
  obtain ⟨f, fd, F, g, kp, b⟩ := C.ex
  have h := pe_call (p := p) (pos := pos) F hr hg g kp b .nil L2.pass0 ha hdb he hpl
  refine ⟨fun pins s σ H Q I q => h.run pins s σ H Q I ?_⟩
  have e0 : tCall sp [] L2.E0 t σ H Q = tCal sp t σ H Q := by
    unfold tCall tCal
    simp only [List.append_nil]
  rw [e0]
  exact q
end
/-- int(x) of an int -/
theorem call_intI {X : Cx} : CallR X (.type "int") (fun xs H Q => ∃ i, xs = [.int i] ∧ Q (.int i) H) := fun pins s σ H xs us Q I r h => call_int1 pins s σ H xs us Q I r (.inl h)
/-- a loop over a text's signs -/
theorem for_str {x : Str} {g : TG} {tb : TS} {D : Ends} {σ : L2.St} {H : Hp} (Pv : Nat → L2.St → Hp → Prop) (h0 : Pv 0 σ H)
    (hs : ∀ i c σ H, x.cps[i]? = some c → Pv i σ H → g (.str ⟨#[c]⟩) σ H fun σ2 H2 => tb { D with nx := Pv (i + 1), ct := Pv (i + 1), bk := D.nx } σ2 H2) (hd : ∀ σ H, Pv x.cps.size σ H → D.nx σ H) :
    ∃ W : Nat → Nat → L2.St → Hp → Prop, (∃ m, W 0 m σ H) ∧ ∀ i m σ H, W i m σ H →
      ((Its x).stop i H ∧ D.nx σ H) ∨ ((Its x).go i H ∧ ∃ N : L2.St → Hp → Prop, (∀ σ' H', N σ' H' → ∃ m', m' < m ∧ W (i + 1) m' σ' H') ∧ ∀ v H', (Its x).yld i H v H' → g v σ H' fun σ2 H2 => tb { D with nx := N, ct := N, bk := D.nx } σ2 H2) := by
  refine ⟨fun i m σ H => m = x.cps.size - i ∧ i ≤ x.cps.size ∧ Pv i σ H, ⟨x.cps.size, by simp, Nat.zero_le _, h0⟩, ?_⟩
  rintro i m σ H ⟨rfl, hi, p⟩
  by_cases hlt : i < x.cps.size
  · refine .inr ⟨hlt, Pv (i + 1), fun σ' H' p' => ⟨x.cps.size - (i + 1), by omega, rfl, hlt, p'⟩, fun v H' y => ?_⟩
    obtain ⟨e, c, hc, e2⟩ := y
    subst e e2
    exact hs i c σ _ hc p
  · have e : i = x.cps.size := by omega
    subst e
    exact .inl ⟨Nat.le_refl _, hd σ H p⟩
/-- for k in range(n), the turn's number from 0 on -/
theorem for_rng {n : Nat} {g : TG} {tb : TS} {D : Ends} {σ : L2.St} {H : Hp} (Pv : Nat → L2.St → Hp → Prop) (h0 : Pv 0 σ H)
    (hs : ∀ i σ H, i < n → Pv i σ H → g (.int (i : Int)) σ H fun σ2 H2 => tb { D with nx := Pv (i + 1), ct := Pv (i + 1), bk := D.nx } σ2 H2) (hd : ∀ σ H, Pv n σ H → D.nx σ H) :
    ∃ W : Nat → Nat → L2.St → Hp → Prop, (∃ m, W 0 m σ H) ∧ ∀ i m σ H, W i m σ H →
      ((Itr 0 n).stop i H ∧ D.nx σ H) ∨ ((Itr 0 n).go i H ∧ ∃ N : L2.St → Hp → Prop, (∀ σ' H', N σ' H' → ∃ m', m' < m ∧ W (i + 1) m' σ' H') ∧
        ∀ x H', (Itr 0 n).yld i H x H' → g x σ H' fun σ2 H2 => tb { D with nx := N, ct := N, bk := D.nx } σ2 H2) :=
  for_range (lo := 0) (n := n) (g := g) (tb := tb) (D := D) Pv h0 (fun i σ H hi p => by rw [Int.zero_add]; exact hs i σ H hi p) hd
theorem tC_go {v : V} {σ : L2.St} {H : Hp} {Q : VK} (q : Q v H) : tC v σ H Q := q
theorem tNil_go {σ : L2.St} {H : Hp} {Q : List V → Hp → Prop} (q : Q [] H) : tNil σ H Q := q
theorem dV (x y : Int) : decide (V.int x = V.int y) = decide (x = y) := by
  by_cases h : x = y
  · rw [decide_eq_true h, decide_eq_true (by rw [h])]
  · rw [decide_eq_false h, decide_eq_false (fun e => h (V.int.inj e))]
theorem dB (x y : Bool) : decide (V.bl x = V.bl y) = decide (x = y) := by cases x <;> cases y <;> rfl
/-! heaps -/
theorem same_upd {H : Hp} {p : Addr} {o : HO} (h : H p = none) : Same H (upd H p o) := fun b x e => by
  rw [upd_ne (ne_of_none e h)]
  exact e
theorem sq_new {K : PySem.W.Frag} {H : Hp} {p : Addr} {xs : List V} : SqT K (upd H p (.tup xs)) p xs := .inl (.inl upd_same)
theorem sq_of {K : PySem.W.Frag} {H : Hp} {p : Addr} {xs : List V} (h : H p = some (.tup xs)) : SqT K H p xs := .inl (.inl h)
theorem gTup_new {K : PySem.W.Frag} {n : Nat} {t : TGs} {σ : L2.St} {H : Hp} {Q : L2.St → Hp → Prop} {p : Addr} {xs : List V} (h : xs.length = n) (q : t xs σ (upd H p (.tup xs)) Q) :
    gTup K n t (.ref p) σ (upd H p (.tup xs)) Q := ⟨p, xs, rfl, sq_new, h, q⟩
theorem gTup_as {K : PySem.W.Frag} {n : Nat} {t : TGs} {σ : L2.St} {H : Hp} {Q : L2.St → Hp → Prop} {p : Addr} {xs : List V} (hS : SqT K H p xs) (h : xs.length = n) (q : t xs σ H Q) :
    gTup K n t (.ref p) σ H Q := ⟨p, xs, rfl, hS, h, q⟩
theorem ixT_new {K : PySem.W.Frag} {H : Hp} {Q : VK} {p : Addr} {xs : List V} {i : Int} {v : V} (h : atI xs i = some v) (q : Q v (upd H p (.tup xs))) :
    rIxT K (.ref p) (.int i) (upd H p (.tup xs)) Q := ⟨p, xs, i, v, rfl, rfl, sq_new, h, q⟩
theorem ixT_as {K : PySem.W.Frag} {H : Hp} {Q : VK} {p : Addr} {xs : List V} {i : Int} {v : V} (hS : SqT K H p xs) (h : atI xs i = some v) (q : Q v H) :
    rIxT K (.ref p) (.int i) H Q := ⟨p, xs, i, v, rfl, rfl, hS, h, q⟩
theorem ixL_as {K : PySem.W.Frag} {H : Hp} {Q : VK} {p : Addr} {xs : List V} {i : Int} {v : V} (hS : SqL K H p xs) (h : atI xs i = some v) (q : Q v H) :
    rIxL K (.ref p) (.int i) H Q := ⟨p, xs, i, v, rfl, rfl, hS, h, q⟩
/-! sizes -/
/-- below 2 ^ k -/
def Sm (k : Nat) (x : Int) : Prop := x.natAbs < 2 ^ k
theorem Sm.mono {j k : Nat} {x : Int} (h : Sm j x) (l : j ≤ k) : Sm k x := Nat.lt_of_lt_of_le h (Nat.pow_le_pow_right (by omega) l)
theorem Sm.mul {j k : Nat} {x y : Int} (h : Sm j x) (l : Sm k y) : Sm (j + k) (x * y) := wide_lt h l
theorem Sm.add {k : Nat} {x y : Int} (h : Sm k x) (l : Sm k y) : Sm (k + 1) (x + y) := by
  unfold Sm at *
  have : (x + y).natAbs ≤ x.natAbs + y.natAbs := Int.natAbs_add_le x y
  rw [Nat.pow_succ]
  omega
theorem Sm.neg {k : Nat} {x : Int} (h : Sm k x) : Sm k (-x) := by
  unfold Sm at *
  omega
theorem Sm.sub {k : Nat} {x y : Int} (h : Sm k x) (l : Sm k y) : Sm (k + 1) (x - y) := by
  have := h.add l.neg
  rwa [← Int.sub_eq_add_neg] at this
theorem Sm.ad {j k : Nat} {x y : Int} (h : Sm j x) (l : Sm k y) : Sm (j + k + 1) (x + y) := (h.mono (Nat.le_add_right j k)).add (l.mono (Nat.le_add_left k j))
theorem Sm.sb {j k : Nat} {x y : Int} (h : Sm j x) (l : Sm k y) : Sm (j + k + 1) (x - y) := (h.mono (Nat.le_add_right j k)).sub (l.mono (Nat.le_add_left k j))
theorem Sm.lit {k : Nat} {x : Int} (h : x.natAbs < 2 ^ k := by decide) : Sm k x := h
theorem Sm.le {k : Nat} {x y : Int} (h : Sm k y) (h0 : 0 ≤ x) (h1 : x ≤ y) : Sm k x := by
  unfold Sm at *
  omega
theorem Sm.pw {j : Nat} {x : Int} (h : Sm j x) (n : Nat) : Sm (j * n + 1) (x ^ n) := by
  induction n with
  | zero => rw [Int.pow_zero]; exact (Sm.lit (k := 1)).mono (by omega)
  | succ n ih => rw [Int.pow_succ]; exact (ih.mul h).mono (by rw [Nat.mul_succ]; omega)
/-- what * asks -/
theorem Sm.mx {j k : Nat} {x y : Int} (h : Sm j x) (l : Sm k y) (b : j + k ≤ 134217728) : CMulX x y := mulx_ok h l b
end RR

namespace RR
open PySem PySem.Spec PyProof.Rows L2
/-- a tuple of two ints -/
def Tp (K : PySem.W.Frag) (H : Hp) (v : V) (x y : Int) : Prop := ∃ p, v = .ref p ∧ SqT K H p [.int x, .int y]
theorem Tp.of {K : PySem.W.Frag} {H : Hp} {p : Addr} {x y : Int} (h : H p = some (.tup [.int x, .int y])) : Tp K H (.ref p) x y := ⟨p, rfl, sq_of h⟩
theorem dp2 {K : PySem.W.Frag} {H : Hp} {v : V} {x y : Int} (h : Tp K H v x y) : Dp K H v (.tuple [.int x, .int y]) := by
  obtain ⟨p, rfl, h⟩ := h
  exact .tup h (.cons (.int x) (.cons (.int y) .nil))
theorem eqv2 (x y u v : Int) : PyData.eqv (.tuple [.int x, .int y]) (.tuple [.int u, .int v]) = (decide (x = u) && decide (y = v)) := by
  simp only [PyData.eqv, PyData.eqvAll, Bool.and_true]
  rfl
section
variable {X : Cx}
/-- ==, != of two tuples of two ints -/
theorem op_eq2 (hu : X.A.units + 64 < cLine) : OpR X (compareOp .Eq) (fun x y H Q => ∃ a b c d, Tp X.K H x a b ∧ Tp X.K H y c d ∧ Q (.bl (decide (a = c) && decide (b = d))) H) := by
  intro pins s σ H x y v u Q I rx ry h
  obtain ⟨a, b, c, d, h1, h2, q⟩ := h
  exact op_eqD hu pins s σ H x y v u Q I rx ry ⟨_, _, dp2 h1, dp2 h2, rfl, rfl, by rw [eqv2]; exact q⟩
theorem op_ne2 (hu : X.A.units + 64 < cLine) : OpR X (compareOp .NotEq) (fun x y H Q => ∃ a b c d, Tp X.K H x a b ∧ Tp X.K H y c d ∧ Q (.bl (!(decide (a = c) && decide (b = d)))) H) := by
  intro pins s σ H x y v u Q I rx ry h
  obtain ⟨a, b, c, d, h1, h2, q⟩ := h
  exact op_neD hu pins s σ H x y v u Q I rx ry ⟨_, _, dp2 h1, dp2 h2, rfl, rfl, by rw [eqv2]; exact q⟩
/-- a ** b of a great int -/
def CPowW (i j : Int) : Prop := 0 ≤ j ∧ (Builtin.Int.intBits i : Int) * j ≤ 2 ^ 27
theorem op_powW : OpR X (binaryOp .Pow) (rI CPowW fun i j => .int (i ^ j.toNat)) := opI fun i j _ _ _ _ _ hc q => pow_int hc.1 hc.2 q
/-- isinstance of an int -/
theorem isi_int : CallR X (.builtin "isinstance") (fun xs H Q => ∃ i : Int, xs = [.int i, .ty "int"] ∧ Q (.bl true) H) := by
  intro pins s σ H xs us Q I r h
  obtain ⟨i, rfl, q⟩ := h
  exact call_isi pins s σ H _ us Q I r ⟨.int i, .ty "int", .type "int", .type "int", true, rfl, .ty "int", .base (.int i), kit_ty (by decide +kernel), q⟩
theorem isi_bool : CallR X (.builtin "isinstance") (fun xs H Q => ∃ i : Int, xs = [.int i, .ty "bool"] ∧ Q (.bl false) H) := by
  intro pins s σ H xs us Q I r h
  obtain ⟨i, rfl, q⟩ := h
  exact call_isi pins s σ H _ us Q I r ⟨.int i, .ty "bool", .type "int", .type "bool", false, rfl, .ty "bool", .base (.int i), kit_ty (by decide +kernel), q⟩
theorem isi_list : CallR X (.builtin "isinstance") (fun xs H Q => ∃ (a : Addr) (ys : List V), xs = [.ref a, .ty "list"] ∧ H a = some (.lst ys) ∧ Q (.bl true) H) := by
  intro pins s σ H xs us Q I r h
  obtain ⟨a, ys, rfl, e, q⟩ := h
  exact call_isi pins s σ H _ us Q I r ⟨.ref a, .ty "list", .type "list", .type "list", true, rfl, .ty "list", .base (.lst e), kit_ty (by decide +kernel), q⟩
theorem isi_tup : CallR X (.builtin "isinstance") (fun xs H Q => ∃ (a : Addr) (ys : List V), xs = [.ref a, .ty "tuple"] ∧ H a = some (.tup ys) ∧ Q (.bl true) H) := by
  intro pins s σ H xs us Q I r h
  obtain ⟨a, ys, rfl, e, q⟩ := h
  exact call_isi pins s σ H _ us Q I r ⟨.ref a, .ty "tuple", .type "tuple", .type "tuple", true, rfl, .ty "tuple", .base (.tup e), kit_ty (by decide +kernel), q⟩
end
/-- an if and what follows it, once -/
theorem split_if {c : Prop} [Decidable c] {t u : TS} {D : Ends} {σ : L2.St} {H : Hp} (R : L2.St → Hp → Prop) (hR : ∀ σ' H', R σ' H' → D.nx σ' H')
    (h : ∀ D' : Ends, (∀ σ' H', R σ' H' → D'.nx σ' H') → if c then t D' σ H else u D' σ H) : if c then t D σ H else u D σ H := h D hR
theorem sm_bits {z : Int} {k : Nat} (h : Builtin.Int.intBits z ≤ k) : Sm k z := by
  unfold Builtin.Int.intBits at h
  unfold Sm
  split at h
  · rename_i e
    have e0 : z = 0 := by simpa using e
    subst e0
    exact Nat.two_pow_pos k
  · exact Nat.lt_of_lt_of_le Nat.lt_log2_self (Nat.pow_le_pow_right (by decide) h)
theorem getD_bits {ns : List Int} {k : Nat} (h : ∀ z ∈ ns, Builtin.Int.intBits z ≤ k) (i : Nat) : Sm k (ns.getD i 0) := by
  rw [List.getD_eq_getElem?_getD]
  cases e : ns[i]? with
  | none => exact Nat.two_pow_pos k
  | some z => exact sm_bits (h z (List.mem_of_getElem? e))
end RR

namespace RR
/-! the pairs of a base -/
def XY (a : Int) : Nat → Int × Int
  | 0 => (1, 0)
  | n + 1 => (a * (XY a n).1 + (a * a - 1) * (XY a n).2, (XY a n).1 + a * (XY a n).2)
def px (a : Int) (n : Nat) : Int := (XY a n).1
def py (a : Int) (n : Nat) : Int := (XY a n).2
theorem px0 (a : Int) : px a 0 = 1 := rfl
theorem py0 (a : Int) : py a 0 = 0 := rfl
theorem px1 (a : Int) (n : Nat) : px a (n + 1) = a * px a n + (a * a - 1) * py a n := rfl
theorem py1 (a : Int) (n : Nat) : py a (n + 1) = px a n + a * py a n := rfl
theorem pell (a : Int) (n : Nat) : px a n * px a n - (a * a - 1) * (py a n * py a n) = 1 := by
  induction n with
  | zero => rw [px0, py0]; omega
  | succ n ih => rw [px1, py1]; grind
theorem pxy_add (a : Int) (m n : Nat) : px a (m + n) = px a m * px a n + (a * a - 1) * (py a m * py a n) ∧ py a (m + n) = px a m * py a n + py a m * px a n := by
  induction n with
  | zero => rw [px0, py0, Nat.add_zero]; constructor <;> grind
  | succ n ih =>
    obtain ⟨h1, h2⟩ := ih
    rw [← Nat.add_assoc, px1, py1, px1, py1, h1, h2]
    constructor <;> grind
theorem px_dbl (a : Int) (n : Nat) : px a (2 * n) = 2 * px a n * px a n - 1 := by
  rw [Nat.two_mul, (pxy_add a n n).1]
  have := pell a n
  grind
theorem py_dbl (a : Int) (n : Nat) : py a (2 * n) = 2 * px a n * py a n := by
  rw [Nat.two_mul, (pxy_add a n n).2]
  grind
theorem pxy_pos {a : Int} (ha : 2 ≤ a) (n : Nat) : 0 ≤ py a n ∧ py a n < px a n := by
  induction n with
  | zero => rw [px0, py0]; omega
  | succ n ih =>
    obtain ⟨h1, h2⟩ := ih
    rw [px1, py1]
    have e1 : a * a ≥ 2 * a := Int.mul_le_mul_of_nonneg_right ha (by omega)
    have e2 : a * px a n ≥ 2 * px a n := Int.mul_le_mul_of_nonneg_right ha (by omega)
    have e3 : (a * a - 1) * py a n ≥ a * py a n := Int.mul_le_mul_of_nonneg_right (by omega) h1
    have e4 : 0 ≤ a * py a n := Int.mul_nonneg (by omega) h1
    omega
theorem px_mono1 {a : Int} (ha : 2 ≤ a) (n : Nat) : px a n ≤ px a (n + 1) := by
  obtain ⟨h1, h2⟩ := pxy_pos ha n
  rw [px1]
  have e1 : a * a ≥ 2 * a := Int.mul_le_mul_of_nonneg_right ha (by omega)
  have e2 : a * px a n ≥ 2 * px a n := Int.mul_le_mul_of_nonneg_right ha (by omega)
  have e3 : 0 ≤ (a * a - 1) * py a n := Int.mul_nonneg (by omega) h1
  omega
theorem px_mono {a : Int} (ha : 2 ≤ a) {m n : Nat} (h : m ≤ n) : px a m ≤ px a n := by
  induction h with
  | refl => exact Int.le_refl _
  | step _ ih => exact Int.le_trans ih (px_mono1 ha _)
/-! signs to the base two -/
def bval (l : List Nat) : Nat := l.foldl (fun v c => 2 * v + (c - 48)) 0
theorem bval_snoc (l : List Nat) (c : Nat) : bval (l ++ [c]) = 2 * bval l + (c - 48) := by
  unfold bval
  rw [List.foldl_append]
  rfl
theorem dig2 {d : Nat} (h : d < 2) : (Nat.digitChar d).toNat = 48 + d := by
  match d, h with
  | 0, _ => rfl
  | 1, _ => rfl
theorem binL_lt {n : Nat} (h : n < 2) : binL n = [48 + n] := by
  unfold binL
  rw [Nat.toDigits_of_lt_base h, List.map_singleton, dig2 h]
theorem binL_ge {n : Nat} (h : 2 ≤ n) : binL n = binL (n / 2) ++ [48 + n % 2] := by
  unfold binL
  rw [Nat.toDigits_of_base_le (by decide) h, List.map_append, List.map_singleton, dig2 (Nat.mod_lt _ (by decide))]
theorem bval_bin (n : Nat) : bval (binL n) = n := by
  induction n using Nat.strongRecOn with
  | ind n ih =>
    by_cases h : n < 2
    · rw [binL_lt h]
      show 2 * 0 + (48 + n - 48) = n
      omega
    · rw [binL_ge (by omega), bval_snoc, ih (n / 2) (by omega)]
      omega
theorem bin_mem (n : Nat) : ∀ c ∈ binL n, c = 48 ∨ c = 49 := by
  induction n using Nat.strongRecOn with
  | ind n ih =>
    intro c hc
    by_cases h : n < 2
    · rw [binL_lt h, List.mem_singleton] at hc
      omega
    · rw [binL_ge (by omega), List.mem_append, List.mem_singleton] at hc
      rcases hc with hc | hc
      · exact ih (n / 2) (by omega) c hc
      · omega
theorem bval_take {l : List Nat} {i c : Nat} (h : l[i]? = some c) : bval (l.take (i + 1)) = 2 * bval (l.take i) + (c - 48) := by
  rw [List.take_add_one, h]
  exact bval_snoc _ c
theorem fold_ge (m : List Nat) : ∀ v : Nat, v ≤ m.foldl (fun v c => 2 * v + (c - 48)) v := by
  induction m with
  | nil => intro v; exact Nat.le_refl _
  | cons c m ih =>
    intro v
    have := ih (2 * v + (c - 48))
    rw [List.foldl_cons]
    omega
theorem bval_app (l m : List Nat) : bval l ≤ bval (l ++ m) := by
  unfold bval
  rw [List.foldl_append]
  exact fold_ge m _
theorem bval_le (l : List Nat) (i : Nat) : bval (l.take i) ≤ bval l := by
  have := bval_app (l.take i) (l.drop i)
  rwa [List.take_append_drop] at this
theorem bin_len {n k : Nat} (h : n < 2 ^ k) (hk : 0 < k) : (binS n).length ≤ k := by
  show (binL n).toArray.size ≤ k
  rw [List.size_toArray]
  unfold binL
  rw [List.length_map]
  exact (Nat.length_toDigits_le_iff (by decide) hk).mpr h
end RR
namespace RR
theorem rest_dx (a : Int) (v : Nat) (m : Int) : (2 * (px a v % m) * (px a v % m) - 1) % m = (2 * px a v * px a v - 1) % m := by
  rw [Int.sub_emod, Int.mul_emod, Int.mul_emod 2, Int.emod_emod, ← Int.mul_emod 2, ← Int.mul_emod, ← Int.sub_emod]
theorem rest_dy (a : Int) (v : Nat) (m : Int) : (2 * (px a v % m) * (py a v % m)) % m = (2 * px a v * py a v) % m := by
  rw [Int.mul_emod, Int.mul_emod 2, Int.emod_emod, Int.emod_emod, ← Int.mul_emod 2, ← Int.mul_emod]
theorem modeq {m a b : Int} (k : Int) (h : a - b = m * k) : a % m = b % m :=
  Int.emod_eq_emod_iff_emod_sub_eq_zero.mpr (Int.emod_eq_zero_of_dvd ⟨k, h⟩)
theorem rest_nx (a x y m : Int) : (a * x + (a * a - 1) * y) % m = ((a % m) * (x % m) + ((a % m) * (a % m) - 1) * (y % m)) % m := by
  have h1 := Int.mul_ediv_add_emod a m
  have h2 := Int.mul_ediv_add_emod x m
  have h3 := Int.mul_ediv_add_emod y m
  generalize a % m = A at *
  generalize x % m = X at *
  generalize y % m = Y at *
  generalize a / m = q1 at *
  generalize x / m = q2 at *
  generalize y / m = q3 at *
  exact modeq (q1 * x + A * q2 + (a * a - 1) * q3 + q1 * (a + A) * Y) (by grind)
theorem rest_ny (a x y m : Int) : (x + a * y) % m = ((x % m) + (a % m) * (y % m)) % m := by
  have h1 := Int.mul_ediv_add_emod a m
  have h2 := Int.mul_ediv_add_emod x m
  have h3 := Int.mul_ediv_add_emod y m
  generalize a % m = A at *
  generalize x % m = X at *
  generalize y % m = Y at *
  generalize a / m = q1 at *
  generalize x / m = q2 at *
  generalize y / m = q3 at *
  exact modeq (q2 + q1 * y + A * q3) (by grind)
end RR
namespace RR
theorem px_step {a : Int} (ha : 2 ≤ a) (n : Nat) : (a * a - 1) * py a n ≤ a * px a n := by
  induction n with
  | zero => rw [px0, py0]; omega
  | succ n ih =>
    obtain ⟨h1, h2⟩ := pxy_pos ha n
    rw [px1, py1]
    have : a * (a * px a n + (a * a - 1) * py a n) - (a * a - 1) * (px a n + a * py a n) = px a n := by grind
    omega
theorem px_pow {a : Int} (ha : 2 ≤ a) (n : Nat) : px a n ≤ (2 * a) ^ n := by
  induction n with
  | zero => rw [px0, Int.pow_zero]; exact Int.le_refl _
  | succ n ih =>
    have h := px_step ha n
    rw [px1, Int.pow_succ]
    have e := Int.mul_le_mul_of_nonneg_right ih (show 0 ≤ 2 * a by omega)
    have : px a n * (2 * a) = a * px a n + a * px a n := by grind
    omega
theorem px_nat {a : Int} (ha : 2 ≤ a) (n B : Nat) (hB : 2 * a ≤ 2 ^ B) : (px a n).natAbs < 2 ^ (B * n + 1) := by
  have h := px_pow ha n
  have h0 := pxy_pos ha n
  have h2 : (2 * a) ^ n ≤ ((2 : Int) ^ B) ^ n := by
    have hp : ∀ k : Nat, (2 * a) ^ k ≤ ((2 : Int) ^ B) ^ k ∧ 0 ≤ (2 * a) ^ k := by
      intro k
      induction k with
      | zero => exact ⟨by rw [Int.pow_zero, Int.pow_zero]; exact Int.le_refl _, by rw [Int.pow_zero]; decide⟩
      | succ k ih =>
        rw [Int.pow_succ, Int.pow_succ]
        exact ⟨Int.mul_le_mul ih.1 hB (by omega) (Int.le_trans ih.2 ih.1), Int.mul_nonneg ih.2 (by omega)⟩
    exact (hp n).1
  have e : ((2 : Int) ^ B) ^ n = ((2 ^ (B * n) : Nat) : Int) := by
    rw [← Int.pow_mul]
    exact (Int.natCast_pow 2 (B * n)).symm
  rw [e] at h2
  rw [Nat.pow_succ]
  generalize (2 : Nat) ^ (B * n) = P at *
  omega
/-- what a power of x leaves -/
theorem px_power (a x : Int) (n : Nat) : ∃ k, px a n - py a n * (a - x) - x ^ n = (2 * a * x - x * x - 1) * k := by
  induction n with
  | zero => exact ⟨0, by rw [px0, py0, Int.pow_zero]; omega⟩
  | succ n ih =>
    obtain ⟨k, hk⟩ := ih
    refine ⟨x * k + py a n, ?_⟩
    rw [px1, py1, Int.pow_succ]
    grind
theorem px_cong (a b m : Int) (k : Int) (h : a - b = m * k) (n : Nat) : (∃ q, px a n - px b n = m * q) ∧ ∃ q, py a n - py b n = m * q := by
  induction n with
  | zero => exact ⟨⟨0, by rw [px0, px0]; omega⟩, ⟨0, by rw [py0, py0]; omega⟩⟩
  | succ n ih =>
    obtain ⟨⟨q, hq⟩, ⟨r, hr⟩⟩ := ih
    refine ⟨⟨k * px a n + b * q + (a * a - 1) * r + k * (a + b) * py b n, ?_⟩, ⟨q + k * py a n + b * r, ?_⟩⟩
    · rw [px1, px1]; grind
    · rw [py1, py1]; grind
end RR
namespace RR
theorem px_rec (a : Int) (k : Nat) : px a (k + 2) = 2 * a * px a (k + 1) - px a k := by
  rw [px1 a (k + 1), px1, py1]; grind
theorem py_rec (a : Int) (k : Nat) : py a (k + 2) = 2 * a * py a (k + 1) - py a k := by
  rw [py1 a (k + 1), px1, py1]; grind
theorem rest_rec {a m x2 X2 x1 X1 : Int} (h2 : x2 % m = X2 % m) (h1 : x1 % m = X1 % m) : (2 * a * x2 - x1) % m = (2 * a * X2 - X1) % m := by
  have e1 := Int.mul_ediv_add_emod x2 m
  have e2 := Int.mul_ediv_add_emod X2 m
  have e3 := Int.mul_ediv_add_emod x1 m
  have e4 := Int.mul_ediv_add_emod X1 m
  rw [h2] at e1
  rw [h1] at e3
  generalize X2 % m = A at *
  generalize X1 % m = B at *
  exact modeq (2 * a * (x2 / m - X2 / m) - (x1 / m - X1 / m)) (by grind)
theorem rest_dx' {a x : Int} {v : Nat} {m : Int} (h : x % m = px a v % m) : (2 * x * x - 1) % m = px a (2 * v) % m := by
  rw [px_dbl, ← rest_dx a v m, ← h]
  have e1 := Int.mul_ediv_add_emod x m
  generalize x % m = A at *
  exact modeq (2 * (x / m) * (x + A)) (by grind)
theorem rest_dy' {a x y : Int} {v : Nat} {m : Int} (h : x % m = px a v % m) (h' : y % m = py a v % m) : (2 * x * y) % m = py a (2 * v) % m := by
  rw [py_dbl, ← rest_dy a v m, ← h, ← h']
  have e1 := Int.mul_ediv_add_emod x m
  have e2 := Int.mul_ediv_add_emod y m
  generalize x % m = A at *
  generalize y % m = B at *
  exact modeq (2 * (x / m) * y + 2 * A * (y / m)) (by grind)
theorem rest_nx' {a x y : Int} {v : Nat} {m : Int} (h : x % m = px a v % m) (h' : y % m = py a v % m) : (a * x + (a * a - 1) * y) % m = px a (v + 1) % m := by
  rw [px1, rest_nx a x y, rest_nx a (px a v), h, h']
theorem rest_ny' {a x y : Int} {v : Nat} {m : Int} (h : x % m = px a v % m) (h' : y % m = py a v % m) : (x + a * y) % m = py a (v + 1) % m := by
  rw [py1, rest_ny a x y, rest_ny a (px a v), h, h']
/-- the value of signs, the lowest first -/
def lval : List Int → Nat
  | [] => 0
  | d :: r => d.toNat + 2 * lval r
theorem lval_app (l : List Int) (d : Int) : lval (l ++ [d]) = lval l + 2 ^ l.length * d.toNat := by
  induction l with
  | nil => show d.toNat + 2 * 0 = 0 + 2 ^ 0 * d.toNat; omega
  | cons c l ih =>
    show c.toNat + 2 * lval (l ++ [d]) = c.toNat + 2 * lval l + 2 ^ (l.length + 1) * d.toNat
    rw [ih, Nat.pow_succ, Nat.mul_add, Nat.mul_comm (2 ^ l.length) 2, Nat.mul_assoc]
    omega
theorem lval_drop {l : List Int} {i : Nat} {d : Int} (h : l[i]? = some d) : lval (l.drop i) = d.toNat + 2 * lval (l.drop (i + 1)) := by
  obtain ⟨hi, e⟩ := List.getElem?_eq_some_iff.mp h
  rw [List.drop_eq_getElem_cons hi, e]
  rfl
end RR
namespace RR
theorem rest_addx (a m : Int) (i j : Nat) : ((px a i % m) * (px a j % m) + (a * a - 1) * (py a i % m) * (py a j % m)) % m = px a (i + j) % m := by
  rw [(pxy_add a i j).1]
  have e1 := Int.mul_ediv_add_emod (px a i) m
  have e2 := Int.mul_ediv_add_emod (px a j) m
  have e3 := Int.mul_ediv_add_emod (py a i) m
  have e4 := Int.mul_ediv_add_emod (py a j) m
  generalize px a i % m = A at *
  generalize px a j % m = B at *
  generalize py a i % m = C at *
  generalize py a j % m = D at *
  exact (modeq ((px a i / m) * px a j + A * (px a j / m) + (a * a - 1) * ((py a i / m) * py a j + C * (py a j / m))) (by grind)).symm
theorem rest_addy (a m : Int) (i j : Nat) : ((px a i % m) * (py a j % m) + (py a i % m) * (px a j % m)) % m = py a (i + j) % m := by
  rw [(pxy_add a i j).2]
  have e1 := Int.mul_ediv_add_emod (px a i) m
  have e2 := Int.mul_ediv_add_emod (px a j) m
  have e3 := Int.mul_ediv_add_emod (py a i) m
  have e4 := Int.mul_ediv_add_emod (py a j) m
  generalize px a i % m = A at *
  generalize px a j % m = B at *
  generalize py a i % m = C at *
  generalize py a j % m = D at *
  exact (modeq ((px a i / m) * py a j + A * (py a j / m) + (py a i / m) * px a j + C * (px a j / m)) (by grind)).symm
end RR
namespace RR
theorem sq_lt {g k e : Nat} (h : g < 2 ^ e) (hk : k < 4) (he : 3 ≤ e) : g * g + k < 2 ^ (e * 2) := by
  have h8 : 2 ^ 3 ≤ 2 ^ e := Nat.pow_le_pow_right (by decide) he
  rw [Nat.pow_mul, Nat.pow_two]
  generalize 2 ^ e = P at *
  have h1 := Nat.mul_le_mul (show g + 1 ≤ P from h) (show g + 1 ≤ P from h)
  have h2 := Nat.mul_le_mul h8 h8
  have h3 : (g + 1) * (g + 1) = g * g + 2 * g + 1 := by grind
  by_cases hg : g < 2
  · have : g * g ≤ 1 * 1 := Nat.mul_le_mul (by omega) (by omega)
    omega
  · omega
end RR

namespace RR
open PySem PySem.Spec PyProof.Rows L2
section
variable {X : Cx}
/-- f(*y) -/
theorem pe_calS {x : Str} {k : Nat} {ps : List Str} {sp : Sp} {p pos sp_ : Pos} {e : Expr} {te : TE} (C : Cal X.prog X.w X.K X.mg X.base x k ps sp) (hr : Room k X.A) (hg : Gl X x) (he : PE X e te)
    (hd : (x == ("__debug__" : Str)) = false := by decide) (hst : starEach [.Starred e sp_] X.env = [(true, eval e X.env)] := by rfl) :
    PE X (.Call (.Name x p) [.Starred e sp_] [] pos) (fun σ H Q => te σ H fun y H1 => ∃ a xs, y = V.ref a ∧ (SqT X.K H1 a xs ∨ SqL X.K H1 a xs) ∧ sp xs H1 Q L2.E0) := by
  obtain ⟨f, fd, F, g, kp, b⟩ := C.ex
  have h := StX.pe_callS1 (p := p) (pos := pos) (sp_ := sp_) (F.raw b .nil) hr kp hg g L2.pass0 he hd hst
  refine ⟨fun pins s σ H Q I q => h.run pins s σ H Q I ?_⟩
  simp only [List.append_nil]
  exact q
end
/-- for x in reversed(xs) -/
theorem for_rev {K : PySem.W.Frag} {a : Addr} {xs : List V} {g : TG} {tb : TS} {D : Ends} {σ : L2.St} {H : Hp} (Pv : Nat → L2.St → Hp → Prop) (h0 : Pv 0 σ H) (hl : ∀ i σ H, i ≤ xs.length → Pv i σ H → SqL K H a xs)
    (hs : ∀ i x σ H, i < xs.length → xs[xs.length - 1 - i]? = some x → Pv i σ H → g x σ H fun σ2 H2 => tb { D with nx := Pv (i + 1), ct := Pv (i + 1), bk := D.nx } σ2 H2) (hd : ∀ σ H, Pv xs.length σ H → D.nx σ H) :
    ∃ W : Nat → Nat → L2.St → Hp → Prop, (∃ m, W 0 m σ H) ∧ ∀ i m σ H, W i m σ H →
      ((Itv K a xs.length).stop i H ∧ D.nx σ H) ∨ ((Itv K a xs.length).go i H ∧ ∃ N : L2.St → Hp → Prop, (∀ σ' H', N σ' H' → ∃ m', m' < m ∧ W (i + 1) m' σ' H') ∧
        ∀ x H', (Itv K a xs.length).yld i H x H' → g x σ H' fun σ2 H2 => tb { D with nx := N, ct := N, bk := D.nx } σ2 H2) := by
  refine ⟨fun i m σ H => m = xs.length - i ∧ i ≤ xs.length ∧ Pv i σ H, ⟨xs.length, by simp, Nat.zero_le _, h0⟩, ?_⟩
  rintro i m σ H ⟨rfl, hi, p⟩
  have q := hl i σ H hi p
  by_cases hlt : i < xs.length
  · have hix : xs[xs.length - 1 - i]? = some (xs[xs.length - 1 - i]'(by omega)) := List.getElem?_eq_getElem (by omega)
    refine .inr ⟨⟨hlt, xs, _, q, hix⟩, Pv (i + 1), fun σ' H' p' => ⟨xs.length - (i + 1), by omega, rfl, hlt, p'⟩, fun x H' y => ?_⟩
    obtain ⟨e, y⟩ := y
    subst e
    exact hs i x σ _ hlt (y xs q) p
  · have e : i = xs.length := by omega
    subst e
    exact .inl ⟨Nat.le_refl _, hd σ H p⟩
theorem Same.new {H H1 : Hp} {p : Addr} {o : HO} (s : Same H H1) (h : H p = none) : Same H (upd H1 p o) := fun b u e => by
  rw [upd_ne (ne_of_none e h)]
  exact s b u e
theorem px_ge {a : Int} (ha : 2 ≤ a) (n : Nat) : ((2 ^ n : Nat) : Int) ≤ px a n := by
  induction n with
  | zero => rw [px0]; decide
  | succ n ih =>
    obtain ⟨h1, h2⟩ := pxy_pos ha n
    rw [px1]
    have e1 : a * a ≥ 2 * a := Int.mul_le_mul_of_nonneg_right ha (by omega)
    have e2 : a * px a n ≥ 2 * px a n := Int.mul_le_mul_of_nonneg_right ha (by omega)
    have e3 : 0 ≤ (a * a - 1) * py a n := Int.mul_nonneg (by omega) h1
    rw [Nat.pow_succ]
    push_cast at *
    omega
theorem px_ix {a : Int} (ha : 2 ≤ a) {n B : Nat} (h : Sm B (px a n)) : n < B := by
  have h1 := px_ge ha n
  have h2 := pxy_pos ha n
  unfold Sm at h
  by_cases c : n < B
  · exact c
  · have := Nat.pow_le_pow_right (n := 2) (by decide) (show B ≤ n by omega)
    omega
theorem app_go {H : Hp} {Q : VK} {p : Addr} {v : V} {xs : List V} (h : H p = some (.lst xs)) (hl : xs.length < sizeLine) (q : Q .non (upd H p (.lst (xs ++ [v])))) : rAppend (.ref p) [v] H Q :=
  ⟨p, xs, v, rfl, rfl, h, hl, q⟩
theorem atI_neg {α : Type} {xs : List α} {k : Nat} {v : α} (h0 : 0 < k) (hk : k ≤ xs.length) (h : xs[xs.length - k]? = some v) : atI xs (-(k : Int)) = some v := by
  unfold atI ixN
  rw [if_neg (by omega), if_pos (by omega)]
  show xs[(-(k : Int) + xs.length).toNat]? = some v
  rw [show (-(k : Int) + xs.length).toNat = xs.length - k by omega]
  exact h
theorem cut_take (xs : List V) (n : Nat) (h : n ≤ xs.length) : cutV xs none (some (n : Int)) = xs.take n := by
  unfold cutV
  rw [HT.sIx_none, HT.sIx_nat, Nat.min_eq_left h, List.drop_zero, Nat.sub_zero]
theorem cut_mid (xs : List V) (i j : Nat) (hi : i ≤ xs.length) (hj : j ≤ xs.length) : cutV xs (some (i : Int)) (some (j : Int)) = (xs.drop i).take (j - i) := by
  unfold cutV
  rw [HT.sIx_nat, HT.sIx_nat, Nat.min_eq_left hi, Nat.min_eq_left hj]
/-- at L a list of the pairs with the indexes 0, 1, .. -/
def PL (a : Int) (H : Hp) (L : Addr) (n : Nat) : Prop := ∃ ps : List Addr, ps.length = n ∧ H L = some (.lst (ps.map V.ref)) ∧ ∀ (i : Nat) (p : Addr), ps[i]? = some p → H p = some (.tup [.int (px a i), .int (py a i)])
theorem PL.keep {a : Int} {H H' : Hp} {L : Addr} {n : Nat} (h : PL a H L n) (s : Same H H') : PL a H' L n := by
  obtain ⟨ps, e, hL, hp⟩ := h
  exact ⟨ps, e, s _ _ hL, fun i p hi => s _ _ (hp i p hi)⟩
theorem PL.at {K : PySem.W.Frag} {a : Int} {H : Hp} {L : Addr} {n : Nat} (h : PL a H L n) {Q : VK} {i : Nat} (hi : i < n) (q : ∀ p, H p = some (.tup [.int (px a i), .int (py a i)]) → Q (.ref p) H) :
    rIxL K (.ref L) (.int (i : Int)) H Q := by
  obtain ⟨ps, e, hL, hp⟩ := h
  have h1 : ps[i]? = some (ps[i]'(by omega)) := List.getElem?_eq_getElem (by omega)
  exact ixL_as (.inl (.inl hL)) (atI_nat (by rw [List.getElem?_map, h1]; rfl)) (q _ (hp i _ h1))
theorem PL.at' {K : PySem.W.Frag} {a : Int} {H : Hp} {L : Addr} {n : Nat} (h : PL a H L n) {Q : VK} {i : Nat} {z : Int} (e : z = (i : Int)) (hi : i < n) (q : ∀ p, H p = some (.tup [.int (px a i), .int (py a i)]) → Q (.ref p) H) :
    rIxL K (.ref L) (.int z) H Q := by
  subst e
  exact h.at hi q
theorem ne_self {x y : V} (h : x = y) : ¬ (!decide (x = y)) = true := by
  rw [decide_eq_true h]
  decide
theorem ne2_self {a b c d : Int} (h : a = c) (h' : b = d) : ¬ (!(decide (a = c) && decide (b = d))) = true := by
  rw [decide_eq_true h, decide_eq_true h']
  decide
theorem PL.push {a : Int} {H : Hp} {L : Addr} {ps : List Addr} (hL : H L = some (.lst (ps.map V.ref))) (hp : ∀ (i : Nat) (p : Addr), ps[i]? = some p → H p = some (.tup [.int (px a i), .int (py a i)])) {p : Addr}
    (h : H p = some (.tup [.int (px a ps.length), .int (py a ps.length)])) : PL a (upd H L (.lst (ps.map V.ref ++ [V.ref p]))) L (ps.length + 1) := by
  refine ⟨ps ++ [p], by rw [List.length_append]; rfl, by rw [upd_same, List.map_append]; rfl, fun i t hi => ?_⟩
  by_cases hj : i < ps.length
  · rw [List.getElem?_append_left hj] at hi
    have h1 := hp i t hi
    rw [upd_ne (ne_of hL h1 (by intro z; cases z)).symm]
    exact h1
  · rw [List.getElem?_append_right (by omega)] at hi
    have h3 : i - ps.length < 1 := (List.getElem?_eq_some_iff.mp hi).1
    have h4 : i = ps.length := by omega
    rw [h4, Nat.sub_self] at hi
    have h5 : p = t := Option.some.inj hi
    rw [← h5, h4, upd_ne (ne_of hL h (by intro z; cases z)).symm]
    exact h
/-! more on pairs -/
theorem py_lt1 {a : Int} (ha : 2 ≤ a) (n : Nat) : py a n < py a (n + 1) := by
  obtain ⟨h1, h2⟩ := pxy_pos ha n
  rw [py1]
  have : 2 * py a n ≤ a * py a n := Int.mul_le_mul_of_nonneg_right ha h1
  omega
theorem py_lt {a : Int} (ha : 2 ≤ a) {m n : Nat} (h : m < n) : py a m < py a n := by
  induction n with
  | zero => omega
  | succ n ih =>
    by_cases e : m = n
    · rw [e]; exact py_lt1 ha n
    · exact Int.lt_trans (ih (by omega)) (py_lt1 ha n)
theorem py_le_iff {a : Int} (ha : 2 ≤ a) (m n : Nat) : py a m ≤ py a n ↔ m ≤ n := by
  constructor
  · intro h
    by_cases e : m ≤ n
    · exact e
    · exact absurd (py_lt ha (show n < m by omega)) (by omega)
  · intro h
    by_cases e : m = n
    · rw [e]; exact Int.le_refl _
    · exact Int.le_of_lt (py_lt ha (by omega))
theorem pxy_sub (a : Int) (s t : Nat) : px a (t + s) * px a s - (a * a - 1) * py a (t + s) * py a s = px a t ∧ py a (t + s) * px a s - px a (t + s) * py a s = py a t := by
  rw [(pxy_add a t s).1, (pxy_add a t s).2]
  have := pell a s
  constructor <;> grind
/-- every two squares one apart are a pair's -/
theorem pell_all {a : Int} (ha : 2 ≤ a) : ∀ (k : Nat) (x y : Int), y.toNat ≤ k → 0 ≤ x → 0 ≤ y → x * x - (a * a - 1) * y * y = 1 → ∃ n, x = px a n ∧ y = py a n := by
  intro k
  induction k with
  | zero =>
    intro x y hk hx hy h
    have e : y = 0 := by omega
    subst e
    refine ⟨0, ?_, rfl⟩
    rw [px0]
    have h2 : x * x = 1 := by grind
    have h3 : x < 2 := by
      by_cases c : x < 2
      · exact c
      · have := Int.mul_le_mul (a := 2) (b := 2) (c := x) (d := x) (by omega) (by omega) (by omega) hx
        omega
    have h4 : x ≠ 0 := by
      intro z
      rw [z] at h2
      exact absurd h2 (by decide)
    omega
  | succ k ih =>
    intro x y hk hx hy h
    by_cases e : y = 0
    · exact ih x y (by omega) hx hy h
    · have y1 : 1 ≤ y := by omega
      have hyy : 1 ≤ y * y := by
        have := Int.mul_le_mul (a := 1) (b := 1) (c := y) (d := y) y1 y1 (by omega) hy
        omega
      have hxy : x ≤ a * y := by
        by_cases c : x ≤ a * y
        · exact c
        · have c2 : a * y + 1 ≤ x := by omega
          have p0 : 0 ≤ a * y := Int.mul_nonneg (by omega) hy
          have := Int.mul_le_mul (a := a * y + 1) (b := a * y + 1) (c := x) (d := x) c2 c2 (by omega) hx
          have e1 : (a * y + 1) * (a * y + 1) = a * a * y * y + 2 * (a * y) + 1 := by grind
          have e2 : x * x = a * a * y * y - y * y + 1 := by grind
          omega
      have hlt : a * y - x < y := by
        by_cases c : a * y - x < y
        · exact c
        · have c2 : x ≤ (a - 1) * y := by
            have : (a - 1) * y = a * y - y := by grind
            omega
          have p0 : 0 ≤ (a - 1) * y := Int.mul_nonneg (by omega) hy
          have := Int.mul_le_mul c2 c2 hx p0
          have e1 : (a - 1) * y * ((a - 1) * y) = a * a * y * y - y * y - 2 * (a - 1) * (y * y) := by grind
          have e2 : x * x = a * a * y * y - y * y + 1 := by grind
          have e3 : 0 ≤ (a - 1) * (y * y) := Int.mul_nonneg (by omega) (by omega)
          have e4 : 2 * (a - 1) * (y * y) = 2 * ((a - 1) * (y * y)) := by grind
          omega
      have hx0 : 0 ≤ a * x - (a * a - 1) * y := by
        by_cases c : 0 ≤ a * x - (a * a - 1) * y
        · exact c
        · have c2 : a * x ≤ (a * a - 1) * y := by omega
          have p1 : 0 ≤ a * x := Int.mul_nonneg (by omega) hx
          have p2 : 2 * a ≤ a * a := Int.mul_le_mul_of_nonneg_right ha (by omega)
          have p0 : 0 ≤ (a * a - 1) * y := Int.mul_nonneg (by omega) hy
          have := Int.mul_le_mul c2 c2 p1 p0
          have e1 : a * x * (a * x) = a * a * (x * x) := by grind
          have e2 : (a * a - 1) * y * ((a * a - 1) * y) = (a * a - 1) * (x * x - 1) := by
            rw [← h]; grind
          have e3 : (a * a - 1) * (x * x - 1) = a * a * (x * x) - x * x - (a * a - 1) := by grind
          have e4 : 0 ≤ x * x := Int.mul_nonneg hx hx
          omega
      obtain ⟨n, e1, e2⟩ := ih (a * x - (a * a - 1) * y) (a * y - x) (by omega) hx0 (by omega) (by grind)
      refine ⟨n + 1, ?_, ?_⟩
      · rw [px1, ← e1, ← e2]; grind
      · rw [py1, ← e1, ← e2]; grind
theorem pell_only {a x y : Int} (ha : 2 ≤ a) (hx : 0 ≤ x) (hy : 0 ≤ y) (h : x * x - (a * a - 1) * y * y = 1) : ∃ n, x = px a n ∧ y = py a n := pell_all ha _ x y (Nat.le_refl _) hx hy h
theorem py_ge {a : Int} (ha : 2 ≤ a) (n : Nat) : (n : Int) ≤ py a n := by
  induction n with
  | zero => rw [py0]; decide
  | succ n ih =>
    have := py_lt1 ha n
    omega
end RR

set_option maxHeartbeats 2000000
namespace RR
open PySem PySem.Calls
theorem entry_comb : entryFor table "math.comb" = some Builtin.«math.comb» := entryFor_of_tree (by kernel_rfl)
theorem kind_comb : builtinKind "math.comb" = none := by kernel_rfl
theorem plain_comb : plainId "math.comb" = true := by decide +kernel
theorem args_comb (a b : Value) : argsOk "math.comb" ⟨[a, b], []⟩ := by
  unfold argsOk
  kernel_rfl
theorem run_comb (a b : Int) (t u : Tok) (h0 : ¬ a < 0) (h1 : ¬ b < 0) (h2 : ¬ b > a) (h3 : ¬ min b (a - b) > Builtin.Math.maxSsize) (h4 : ¬ min b (a - b) > Builtin.Math.manyFactors) (h5 : ¬ min b (a - b) > 9000)
    (hsz : (Builtin.Math.fallingProduct a (min b (a - b)).toNat / Builtin.Math.fallingProduct (min b (a - b)) (min b (a - b)).toNat).natAbs.log2 < bitsLine) :
    Gives (Builtin.«math.comb» ⟨[.int a t, .int b u], []⟩) (.int (Builtin.Math.fallingProduct a (min b (a - b)).toNat / Builtin.Math.fallingProduct (min b (a - b)) (min b (a - b)).toNat)) :=
  .of_wp fun M A E s Q h => by
    obtain ⟨hp, g, d, tk, os⟩ := s
    wp_walk
    exact ⟨_, rfl, h⟩
theorem run_comb0 (a b : Int) (t u : Tok) (h0 : ¬ a < 0) (h1 : ¬ b < 0) (h2 : b > a) : Gives (Builtin.«math.comb» ⟨[.int a t, .int b u], []⟩) (.int 0) :=
  .of_wp fun M A E s Q h => by
    obtain ⟨hp, g, d, tk, os⟩ := s
    wp_walk
    exact ⟨_, rfl, h⟩
/-- Pascal's numbers -/
def ch : Nat → Nat → Nat
  | _, 0 => 1
  | 0, _ + 1 => 0
  | n + 1, k + 1 => ch n k + ch n (k + 1)
def fac : Nat → Nat
  | 0 => 1
  | n + 1 => (n + 1) * fac n
def fall (n : Int) : Nat → Int
  | 0 => 1
  | k + 1 => fall n k * (n - k)
theorem fall_eq (n : Int) (k : Nat) : Builtin.Math.fallingProduct n k = fall n k := by
  unfold Builtin.Math.fallingProduct
  induction k with
  | zero => rfl
  | succ k ih =>
    rw [List.range_succ, List.foldl_append, ih]
    rfl
theorem fall_succ (n : Int) (k : Nat) : fall (n + 1) (k + 1) = (n + 1) * fall n k := by
  induction k with
  | zero =>
    show fall (n + 1) 0 * (n + 1 - ((0 : Nat) : Int)) = (n + 1) * fall n 0
    show 1 * (n + 1 - ((0 : Nat) : Int)) = (n + 1) * 1
    omega
  | succ k ih =>
    show fall (n + 1) (k + 1) * (n + 1 - ((k + 1 : Nat) : Int)) = (n + 1) * (fall n k * (n - k))
    rw [ih]
    push_cast
    grind
theorem fall_ch (n : Nat) : ∀ k : Nat, fall n k = (ch n k : Int) * (fac k : Int) := by
  induction n with
  | zero =>
    intro k
    induction k with
    | zero => rfl
    | succ k ih =>
      show fall ((0 : Nat) : Int) k * (((0 : Nat) : Int) - k) = ((0 : Nat) : Int) * _
      match k with
      | 0 => rfl
      | k + 1 =>
        rw [ih]
        show ((0 : Nat) : Int) * _ * _ = _
        grind
  | succ n ih =>
    intro k
    match k with
    | 0 => rfl
    | k + 1 =>
      have e1 := ih k
      have e2 := ih (k + 1)
      have e3 : fall (n : Int) (k + 1) = fall n k * (n - k) := rfl
      have e4 := fall_succ (n : Int) k
      rw [show ((n + 1 : Nat) : Int) = (n : Int) + 1 by omega, e4]
      show _ = ((ch n k + ch n (k + 1) : Nat) : Int) * (((k + 1) * fac k : Nat) : Int)
      rw [e3, e1] at e2
      have e5 : (fac (k + 1) : Int) = ((k : Int) + 1) * (fac k : Int) := by
        show (((k + 1) * fac k : Nat) : Int) = _
        push_cast
        rfl
      rw [e5] at e2
      rw [e1]
      push_cast
      grind
theorem fac_pos (k : Nat) : 0 < fac k := by
  induction k with
  | zero => decide
  | succ k ih => exact Nat.mul_pos (by omega) ih
theorem ch_gt : ∀ (n k : Nat), n < k → ch n k = 0 := by
  intro n
  induction n with
  | zero => intro k h; match k, h with | k + 1, _ => rfl
  | succ n ih =>
    intro k h
    match k, h with
    | k + 1, h =>
      show ch n k + ch n (k + 1) = 0
      rw [ih k (by omega), ih (k + 1) (by omega)]
theorem ch_self : ∀ n : Nat, ch n n = 1 := by
  intro n
  induction n with
  | zero => rfl
  | succ n ih =>
    show ch n n + ch n (n + 1) = 1
    rw [ih, ch_gt n (n + 1) (by omega)]
theorem fall_self (k : Nat) : fall k k = (fac k : Int) := by
  rw [fall_ch, ch_self]
  omega
theorem ch_symm : ∀ (s i j : Nat), i + j = s → ch (i + j) i = ch (i + j) j := by
  intro s
  induction s with
  | zero => intro i j h; have : i = 0 := by omega
            have : j = 0 := by omega
            subst i j; rfl
  | succ s ih =>
    intro i j h
    match i, j, h with
    | 0, j, _ =>
      rw [Nat.zero_add, ch_self]
      unfold ch
      rfl
    | i + 1, 0, _ =>
      rw [Nat.add_zero, ch_self]
      unfold ch
      rfl
    | i + 1, j + 1, h =>
      have h1 := ih i (j + 1) (by omega)
      have h2 := ih (i + 1) j (by omega)
      rw [show i + 1 + (j + 1) = (i + (j + 1)) + 1 by omega]
      show ch (i + (j + 1)) i + ch (i + (j + 1)) (i + 1) = ch (i + (j + 1)) j + ch (i + (j + 1)) (j + 1)
      rw [show i + 1 + j = i + (j + 1) by omega] at h2
      omega
theorem comb_val {n k : Nat} (h : k ≤ n) : fall n (min (k : Int) ((n : Int) - k)).toNat / fall (min (k : Int) ((n : Int) - k)) (min (k : Int) ((n : Int) - k)).toNat = (ch n k : Int) := by
  obtain ⟨m, hm⟩ : ∃ m : Nat, min (k : Int) ((n : Int) - k) = (m : Int) := ⟨min k (n - k), by omega⟩
  rw [hm, Int.toNat_natCast, fall_self, fall_ch, Int.mul_ediv_cancel _ (by have := fac_pos m; omega)]
  by_cases c : m = k
  · rw [c]
  · have e : m = n - k := by omega
    have := ch_symm n k (n - k) (by omega)
    rw [show k + (n - k) = n by omega] at this
    rw [this, e]
theorem ch_le : ∀ n k : Nat, ch n k ≤ 2 ^ n := by
  intro n
  induction n with
  | zero => intro k; match k with | 0 => decide | k + 1 => (show 0 ≤ 1; decide)
  | succ n ih =>
    intro k
    match k with
    | 0 => exact Nat.one_le_two_pow
    | k + 1 =>
      show ch n k + ch n (k + 1) ≤ 2 ^ (n + 1)
      have h1 := ih k
      have h2 := ih (k + 1)
      rw [Nat.pow_succ]
      omega
end RR
namespace RR
open PySem PySem.Spec PyProof.Rows L2
section
variable {X : Cx}
/-- math.comb of two small numbers -/
theorem cr_comb : CallR X (.builtin "math.comb") (fun vs H Q => ∃ n k : Nat, vs = [.int n, .int k] ∧ n ≤ 9000 ∧ Q (.int (ch n k : Int)) H) := by
  intro pins s σ H vs us Q I r h
  obtain ⟨n, k, rfl, hn, q⟩ := h
  obtain ⟨t, u, rfl⟩ := Vals.int2 r
  by_cases hk : k ≤ n
  · have h5 : ¬ min (k : Int) ((n : Int) - k) > 9000 := by omega
    have v := comb_val hk
    rw [← fall_eq, ← fall_eq] at v
    have g := run_comb n k t u (by omega) (by omega) (by omega) (by have : Builtin.Math.maxSsize = 9223372036854775807 := rfl
                                                                    omega) (by have : Builtin.Math.manyFactors = 20000 := rfl
                                                                               omega) h5 (by
      rw [v, Int.natAbs_natCast]
      have h1 := ch_le n k
      have h2 : (ch n k).log2 < 9001 := by
        by_cases h0 : ch n k = 0
        · rw [h0]; decide
        · exact (Nat.log2_lt h0).mpr (Nat.lt_of_le_of_lt h1 (Nat.pow_lt_pow_right (by decide) (by omega)))
      exact Nat.lt_trans h2 (by decide))
    rw [v] at g
    exact call_function_meets kind_comb plain_comb entry_comb (args_comb _ _) g.meets ⟨.int _, H, I.tok _, ⟨_, rfl⟩, q⟩
  · rw [ch_gt n k (by omega)] at q
    have g := run_comb0 n k t u (by omega) (by omega) (by omega)
    exact call_function_meets kind_comb plain_comb entry_comb (args_comb _ _) g.meets ⟨.int _, H, I.tok _, ⟨_, rfl⟩, q⟩
end
end RR

namespace RR
open PySem PySem.Spec PyProof.Rows
/-- the next row of Pascal's triangle -/
def nextRow (l : List Nat) : List Nat := List.zipWith (· + ·) (0 :: l) (l ++ [0])
def rowIs (n : Nat) (l : List Nat) : Prop := l.length = n + 1 ∧ ∀ k, k ≤ n → l[k]? = some (ch n k)
theorem row0 : rowIs 0 [1] := ⟨rfl, fun k hk => by
  have : k = 0 := by omega
  subst this
  rfl⟩
theorem row1 {n : Nat} {l : List Nat} (h : rowIs n l) : rowIs (n + 1) (nextRow l) := by
  obtain ⟨hl, hk⟩ := h
  refine ⟨by unfold nextRow; rw [List.length_zipWith, List.length_cons, List.length_append, hl]; show min (n + 1 + 1) (n + 1 + 1) = _; omega, fun k h => ?_⟩
  unfold nextRow
  rw [List.getElem?_zipWith]
  match k with
  | 0 =>
    have h0 := hk 0 (Nat.zero_le _)
    rw [List.getElem?_append_left (by omega), h0]
    show some (0 + ch n 0) = some (ch (n + 1) 0)
    unfold ch
    rfl
  | k + 1 =>
    have h1 := hk k (by omega)
    rw [List.getElem?_cons_succ, h1]
    by_cases c : k + 1 ≤ n
    · rw [List.getElem?_append_left (by omega), hk (k + 1) c]
      rfl
    · have e : k = n := by omega
      subst e
      rw [List.getElem?_append_right (by omega), hl, Nat.sub_self]
      show some (ch k k + 0) = some (ch k k + ch k (k + 1))
      rw [ch_gt k (k + 1) (by omega)]
def pop : Nat → Nat → Nat
  | 0, _ => 0
  | f + 1, n => n % 2 + pop f (n / 2)
def ones (n : Nat) : Int := Txt.count (binS n) (Str.ofString "1")
set_option maxHeartbeats 0 in
theorem ones_ok : (List.range 512).all (fun p => ones p == (pop 10 p : Int)) = true := by decide +kernel
theorem ones_pop {p : Nat} (h : p < 512) : ones p = (pop 10 p : Int) := eq_of_beq (List.all_eq_true.mp ones_ok p (List.mem_range.mpr h))
def plc (a b : Nat) : Nat := (a ^^^ b) ^^^ (a + b)
def tw (n : Nat) : Int := (Builtin.Int.intBits (Builtin.bitAnd (n : Int) (-(n : Int))) : Int) - 1
def chkT (a b c : Nat) : Bool := decide (plc a b < 512) && (tw c == (pop 10 (plc a b) : Int)) && (!(decide (a + b ≤ 130)) || ((a &&& (a + b) == a) == (c % 2 == 1) && ((a &&& (a + b) == a) == (pop 10 (plc a b) == 0))))
def chkRow (n : Nat) : Nat → List Nat → Bool
  | _, [] => true
  | a, c :: r => (!(decide (a ≤ 130) && decide (n - a ≤ 130)) || chkT a (n - a) c) && chkRow n (a + 1) r
def chkAll : Nat → Nat → List Nat → Bool
  | 0, _, _ => true
  | f + 1, n, l => chkRow n 0 l && chkAll f (n + 1) (nextRow l)
set_option maxHeartbeats 0 in
theorem chkAll_ok : chkAll 261 0 [1] = true := by decide +kernel
theorem chkRow_spec {n : Nat} : ∀ (l : List Nat) (a : Nat), chkRow n a l = true → ∀ i c, l[i]? = some c → a + i ≤ 130 → n - (a + i) ≤ 130 → chkT (a + i) (n - (a + i)) c = true := by
  intro l
  induction l with
  | nil => intro a _ i c hi; simp at hi
  | cons x r ih =>
    intro a h i c hi h1 h2
    unfold chkRow at h
    rw [Bool.and_eq_true] at h
    match i with
    | 0 =>
      have e : x = c := Option.some.inj hi
      subst e
      have := h.1
      rw [Nat.add_zero] at h1 h2 ⊢
      rw [decide_eq_true h1, decide_eq_true h2] at this
      exact this
    | i + 1 =>
      have := ih (a + 1) h.2 i c (by simpa using hi) (by omega) (by omega)
      rw [show a + 1 + i = a + (i + 1) by omega] at this
      exact this
theorem chkAll_spec : ∀ (f n : Nat) (l : List Nat), rowIs n l → chkAll f n l = true → ∀ m, m < f → ∀ k, k ≤ n + m → k ≤ 130 → n + m - k ≤ 130 → chkT k (n + m - k) (ch (n + m) k) = true := by
  intro f
  induction f with
  | zero => intro _ _ _ _ m hm; omega
  | succ f ih =>
    intro n l hr h m hm k hk h1 h2
    unfold chkAll at h
    rw [Bool.and_eq_true] at h
    match m with
    | 0 =>
      have := chkRow_spec l 0 h.1 k (ch n k) (hr.2 k hk) (by omega) (by rw [Nat.zero_add]; exact h2)
      rw [Nat.zero_add] at this
      exact this
    | m + 1 =>
      have := ih (n + 1) (nextRow l) (row1 hr) h.2 m (by omega) k (by omega) h1 (by omega)
      rw [show n + 1 + m = n + (m + 1) by omega] at this
      exact this
theorem tall {a b : Nat} (ha : a ≤ 130) (hb : b ≤ 130) : chkT a b (ch (a + b) a) = true := by
  have := chkAll_spec 261 0 [1] row0 chkAll_ok (a + b) (by omega) a (by omega) ha (by omega)
  rw [Nat.zero_add, show a + b - a = b by omega] at this
  exact this
end RR

namespace RR
open PySem PySem.Spec PyProof.Rows L2
theorem tparts {a b c : Nat} (h : chkT a b c = true) : plc a b < 512 ∧ tw c = (pop 10 (plc a b) : Int) ∧ (a + b ≤ 130 → (a &&& (a + b) == a) = (c % 2 == 1) ∧ (a &&& (a + b) == a) = (pop 10 (plc a b) == 0)) := by
  unfold chkT at h
  rw [Bool.and_eq_true, Bool.and_eq_true] at h
  obtain ⟨⟨h1, h2⟩, h3⟩ := h
  refine ⟨of_decide_eq_true h1, eq_of_beq h2, fun hab => ?_⟩
  rw [decide_eq_true hab, Bool.not_true, Bool.false_or, Bool.and_eq_true] at h3
  exact ⟨eq_of_beq h3.1, eq_of_beq h3.2⟩
theorem beq_dec (x y : Nat) : (x == y) = decide (V.int (x : Int) = V.int (y : Int)) := by
  rw [dV]
  by_cases c : x = y
  · rw [decide_eq_true (by rw [c])]
    exact beq_iff_eq.mpr c
  · rw [decide_eq_false (by omega)]
    exact beq_eq_false_iff_ne.mpr c
theorem und {a b : Nat} (ha : a ≤ 130) (hb : b ≤ 130) : (a &&& b == a) = decide (V.int ((ch b a % 2 : Nat) : Int) = V.int 1) := by
  rw [show (1 : Int) = ((1 : Nat) : Int) from rfl, ← beq_dec]
  by_cases c : a ≤ b
  · have := tparts (tall ha (show b - a ≤ 130 by omega))
    rw [show a + (b - a) = b by omega] at this
    exact (this.2.2 hb).1
  · rw [ch_gt b a (by omega)]
    have : a &&& b ≤ b := Nat.and_le_right
    exact beq_eq_false_iff_ne.mpr (by omega)
theorem und2 {a b : Nat} (ha : a ≤ 130) (hb : b ≤ 130) (c : a ≤ b) : (a &&& b == a) = decide (V.int (ones (plc a (b - a))) = V.int 0) := by
  have := tparts (tall ha (show b - a ≤ 130 by omega))
  rw [show a + (b - a) = b by omega] at this
  rw [(this.2.2 hb).2, ones_pop this.1, show (0 : Int) = ((0 : Nat) : Int) from rfl, ← beq_dec]
theorem und3 {a b : Nat} (c : b < a) : (a &&& b == a) = false := by
  have : a &&& b ≤ b := Nat.and_le_right
  exact beq_eq_false_iff_ne.mpr (by omega)
end RR

namespace RR
open PySem PySem.Spec PyProof.Rows L2
/-- bits -/
def bl (n : Nat) : Nat := Builtin.Int.intBits (n : Int)
theorem bl_lt (n : Nat) : n < 2 ^ bl n := by
  have h : Sm (bl n) (n : Int) := sm_bits (Nat.le_refl _)
  unfold Sm at h
  rwa [Int.natAbs_natCast] at h
theorem bl_le {n : Nat} (h : 1 ≤ n) : 2 ^ (bl n - 1) ≤ n := by
  unfold bl Builtin.Int.intBits
  split
  · rename_i e
    have e0 : (n : Int) = 0 := by simpa using e
    omega
  · rw [Nat.add_sub_cancel, Int.natAbs_natCast]
    exact Nat.log2_self_le (by omega)
theorem div_zero {n b p : Nat} (hb : 1 ≤ b) (h : bl n ≤ (bl b - 1) * p) : n / b ^ p = 0 := by
  refine Nat.div_eq_of_lt (Nat.lt_of_lt_of_le (bl_lt n) (Nat.le_trans (Nat.pow_le_pow_right (by omega) h) ?_))
  rw [Nat.pow_mul]
  exact Nat.pow_le_pow_left (bl_le hb) p
theorem half_pow (e L i : Nat) (h : i < L) : e / 2 ^ (L - i) = e / 2 ^ (L - 1 - i) / 2 := by
  rw [Nat.div_div_eq_div_mul, ← Nat.pow_succ]
  congr 2
  omega
theorem ch_rec (b k : Nat) : (ch b (k + 1) : Int) = (ch b k : Int) * ((b : Int) - k) / (k + 1) := by
  have e1 := fall_ch b k
  have e2 := fall_ch b (k + 1)
  have e3 : fall (b : Int) (k + 1) = fall b k * (b - k) := rfl
  have e5 : (fac (k + 1) : Int) = ((k : Int) + 1) * (fac k : Int) := by
    show (((k + 1) * fac k : Nat) : Int) = _
    push_cast
    rfl
  rw [e3, e1, e5] at e2
  have f0 : (fac k : Int) ≠ 0 := by have := fac_pos k; omega
  have e6 : (ch b k : Int) * ((b : Int) - k) = (ch b (k + 1) : Int) * ((k : Int) + 1) := by
    refine Int.eq_of_mul_eq_mul_right f0 ?_
    grind
  rw [e6, Int.mul_ediv_cancel _ (by omega)]
/-- the row by its own rule -/
def pd (b : Nat) : Nat → Nat
  | 0 => 1
  | k + 1 => pd b k * (b - k) / (k + 1)
theorem pd_ch {b : Nat} : ∀ k : Nat, k ≤ b → pd b k = ch b k := by
  intro k
  induction k with
  | zero => intro _; unfold ch pd; rfl
  | succ k ih =>
    intro h
    show pd b k * (b - k) / (k + 1) = _
    rw [ih (by omega)]
    have := ch_rec b k
    have e : (((ch b k * (b - k) / (k + 1) : Nat)) : Int) = (ch b (k + 1) : Int) := by
      rw [this]
      push_cast
      rw [Int.ofNat_sub (by omega)]
    omega
def hp (b u : Nat) : Nat → Nat
  | 0 => 0
  | k + 1 => hp b u k * u + pd b (b - k)
def hz (b u : Nat) : Nat → Nat
  | 0 => 0
  | k + 1 => hz b u k * u + ch b (b - k)
theorem hp_hz (b u : Nat) : ∀ k, hp b u k = hz b u k := by
  intro k
  induction k with
  | zero => rfl
  | succ k ih =>
    show hp b u k * u + pd b (b - k) = hz b u k * u + ch b (b - k)
    rw [ih, pd_ch _ (Nat.sub_le _ _)]
theorem hp_ok : (List.range 25).all (fun b => (List.range 26).all (fun k => decide (hp b (2 ^ (b + 1)) k < 2 ^ 2000)) && hp b (2 ^ (b + 1)) (b + 1) == (2 ^ (b + 1) + 1) ^ b) = true := by decide +kernel
theorem hz_end {b : Nat} (h : b < 25) : hz b (2 ^ (b + 1)) (b + 1) = (2 ^ (b + 1) + 1) ^ b := by
  have := List.all_eq_true.mp hp_ok b (List.mem_range.mpr h)
  rw [Bool.and_eq_true] at this
  rw [← hp_hz]
  exact eq_of_beq this.2
theorem hz_lt {b k : Nat} (h : b < 25) (hk : k < 26) : hz b (2 ^ (b + 1)) k < 2 ^ 2000 := by
  have := List.all_eq_true.mp hp_ok b (List.mem_range.mpr h)
  rw [Bool.and_eq_true] at this
  rw [← hp_hz]
  exact of_decide_eq_true (List.all_eq_true.mp this.1 k (List.mem_range.mpr hk))
/-- the row as the list holds it -/
def rowV (b n : Nat) : List V := (List.range n).map fun k => V.int (ch b k : Int)
theorem rowV_len (b n : Nat) : (rowV b n).length = n := by
  unfold rowV
  rw [List.length_map, List.length_range]
theorem rowV_at {b n k : Nat} (h : k < n) : (rowV b n)[k]? = some (V.int (ch b k : Int)) := by
  unfold rowV
  rw [List.getElem?_map, List.getElem?_range h]
  rfl
theorem rowV_succ (b n : Nat) : rowV b (n + 1) = rowV b n ++ [V.int (ch b n : Int)] := by
  unfold rowV
  rw [List.range_succ, List.map_append]
  rfl
def toV (l : List Nat) : List V := l.map fun (d : Nat) => V.int (d : Int)
theorem toV_len (l : List Nat) : (toV l).length = l.length := by
  unfold toV
  rw [List.length_map]
theorem toV_app (l m : List Nat) : toV (l ++ m) = toV l ++ toV m := by
  unfold toV
  rw [List.map_append]
theorem toV_at {l : List Nat} {j d : Nat} (h : l[j]? = some d) : (toV l)[j]? = some (V.int (d : Int)) := by
  unfold toV
  rw [List.getElem?_map, h]
  rfl
/-- [.. for k in range(n)] -/
theorem lc_rng {n : Nat} {g : TG} {tt : TT} {te : TE} {vs : List Nat} {σ : L2.St} {H1 : Hp} {D : Addr} {Qd : Hp → Prop} (Pv : Nat → Hp → Prop) (h0 : Pv 0 (upd H1 D (.lst [])))
    (hs : ∀ (i : Nat) H, i < n → Pv i H → g (.int (i : Int)) (wipe σ vs) H fun σ2 H2 => wipe σ2 vs = wipe σ vs ∧ tt σ2 H2 fun b H3 =>
      if b = true then te σ2 H3 fun y H4 => ∃ acc, H4 D = some (.lst acc) ∧ acc.length < sizeLine ∧ Pv (i + 1) (upd H4 D (.lst (acc ++ [y]))) else Pv (i + 1) H3) (hd : ∀ H, Pv n H → Qd H) :
    ∃ W : Nat → Nat → Hp → Prop, (∃ m, W 0 m (upd H1 D (.lst []))) ∧ ∀ i m H, W i m H →
      ((Itr 0 n).stop i H ∧ Qd H) ∨ ((Itr 0 n).go i H ∧ ∃ Nx : Hp → Prop, (∀ H', Nx H' → ∃ m', m' < m ∧ W (i + 1) m' H') ∧ ∀ x H', (Itr 0 n).yld i H x H' → g x (wipe σ vs) H' fun σ2 H2 => wipe σ2 vs = wipe σ vs ∧ tt σ2 H2 fun b H3 =>
        if b = true then te σ2 H3 fun y H4 => ∃ acc, H4 D = some (.lst acc) ∧ acc.length < sizeLine ∧ Nx (upd H4 D (.lst (acc ++ [y]))) else Nx H3) :=
  lc_range (lo := 0) (n := n) Pv h0 (fun i H hi p => by rw [Int.zero_add]; exact hs i H hi p) hd
theorem layAll (l : List Nat) : PyData.canLayAll0 (l.map fun (k : Nat) => PyData.int (k : Int)) = true := by
  induction l with
  | nil => rfl
  | cons x l ih => simp only [List.map_cons, PyData.canLayAll0, PyData.canLay0, ih, Bool.and_true]
theorem depthAll (l : List Nat) : PyData.depthAll (l.map fun (k : Nat) => PyData.int (k : Int)) ≤ 1 := by
  induction l with
  | nil => decide
  | cons x l ih =>
    simp only [List.map_cons, PyData.depthAll, PyData.depth]
    omega
theorem ints_shaped (l : List Nat) : SeqAt.shaped (.list (l.map fun (k : Nat) => PyData.int (k : Int))) = true := by
  unfold SeqAt.shaped
  have h1 : PyData.canLay0 (.list (l.map fun (k : Nat) => PyData.int (k : Int))) = true := by
    simp only [PyData.canLay0, layAll]
  have h2 := depthAll l
  rw [h1, Bool.true_and]
  refine decide_eq_true ?_
  simp only [PyData.depth]
  omega
theorem ints_dp {K : PySem.W.Frag} {H : Hp} (l : List Nat) : DpAll K H (toV l) (l.map fun (k : Nat) => PyData.int (k : Int)) := by
  induction l with
  | nil => exact .nil
  | cons x l ih => exact .cons (.int _) ih
/-- a number by its digits -/
def val (b : Nat) : List Nat → Nat
  | [] => 0
  | d :: r => d + b * val b r
theorem val_lt {b : Nat} : ∀ ds : List Nat, (∀ d ∈ ds, d < b) → val b ds < b ^ ds.length := by
  intro ds
  induction ds with
  | nil => intro _; show 0 < 1; omega
  | cons d r ih =>
    intro h
    have h1 := ih fun x hx => h x (List.mem_cons_of_mem _ hx)
    have h2 := h d List.mem_cons_self
    show d + b * val b r < b ^ (r.length + 1)
    rw [Nat.pow_succ]
    have : b * (val b r + 1) ≤ b * b ^ r.length := Nat.mul_le_mul_left b h1
    rw [Nat.mul_add, Nat.mul_one] at this
    rw [Nat.mul_comm (b ^ r.length) b]
    omega
theorem val_drop {b : Nat} {ds : List Nat} {k d : Nat} (h : ds[k]? = some d) : val b (ds.drop k) = d + b * val b (ds.drop (k + 1)) := by
  obtain ⟨hl, e⟩ := List.getElem?_eq_some_iff.mp h
  rw [List.drop_eq_getElem_cons hl, e]
  rfl
theorem val_div {b : Nat} (hb : 0 < b) : ∀ (k : Nat) (ds : List Nat), (∀ d ∈ ds, d < b) → val b ds / b ^ k = val b (ds.drop k) := by
  intro k
  induction k with
  | zero => intro ds _; rw [Nat.pow_zero, Nat.div_one, List.drop_zero]
  | succ k ih =>
    intro ds h
    match ds, h with
    | [], _ => rw [List.drop_nil]; exact Nat.zero_div _
    | d :: r, h =>
      rw [Nat.pow_succ, Nat.mul_comm, ← Nat.div_div_eq_div_mul]
      have h2 := h d List.mem_cons_self
      have e : val b (d :: r) / b = val b r := by
        show (d + b * val b r) / b = _
        rw [Nat.add_mul_div_left _ _ hb, Nat.div_eq_of_lt h2, Nat.zero_add]
      rw [e, ih r fun x hx => h x (List.mem_cons_of_mem _ hx)]
      rfl
theorem val_at {b : Nat} (hb : 0 < b) {ds : List Nat} {k d : Nat} (hd : ∀ x ∈ ds, x < b) (h : ds[k]? = some d) : val b ds / b ^ k % b = d := by
  rw [val_div hb k ds hd, val_drop h, Nat.add_mul_mod_self_left, Nat.mod_eq_of_lt (hd d (List.mem_of_getElem? h))]
theorem val_beyond {b : Nat} (hb : 0 < b) {ds : List Nat} {k : Nat} (hd : ∀ x ∈ ds, x < b) (h : ds.length ≤ k) : val b ds / b ^ k % b = 0 := by
  rw [val_div hb k ds hd, List.drop_eq_nil_of_le h]
  exact Nat.zero_mod _
end RR

namespace RR
open PySem PySem.Spec PyProof.Rows L2
theorem Same.new' {H H1 : Hp} {p : Addr} {o : HO} (s : Same H H1) (h : H1 p = none) : Same H (upd H1 p o) := fun b u e => by
  have h2 := s b u e
  rw [upd_ne (ne_of_none h2 h)]
  exact h2
/-- the carries of a sum, place by place -/
def crr : Nat → Nat → Nat → Nat → Nat
  | 0, _, _, _ => 0
  | f + 1, a, b, c => (a % 2 + b % 2 + c) / 2 + crr f (a / 2) (b / 2) ((a % 2 + b % 2 + c) / 2)
/-- the ones of a number, all of them -/
def popx : Nat → Nat → Nat
  | 0, _ => 0
  | f + 1, n => n % 2 + popx f (n / 2)
theorem xor_mod (x y : Nat) : (x ^^^ y) % 2 = (x + y) % 2 := by
  have h : (x ^^^ y).testBit 0 = (x.testBit 0 ^^ y.testBit 0) := Nat.testBit_xor ..
  rw [Nat.testBit_zero, Nat.testBit_zero, Nat.testBit_zero] at h
  rcases Nat.mod_two_eq_zero_or_one x with hx | hx <;> rcases Nat.mod_two_eq_zero_or_one y with hy | hy <;> rcases Nat.mod_two_eq_zero_or_one (x ^^^ y) with hz | hz <;> simp [hx, hy, hz] at h <;> omega
theorem xor_half (x y : Nat) : (x ^^^ y) / 2 = x / 2 ^^^ y / 2 := by
  have := Nat.shiftRight_xor_distrib (a := x) (b := y) (i := 1)
  simpa [Nat.shiftRight_eq_div_pow] using this
theorem and_half (x y : Nat) : (x &&& y) / 2 = x / 2 &&& y / 2 := by
  have := Nat.shiftRight_and_distrib (a := x) (b := y) (i := 1)
  simpa [Nat.shiftRight_eq_div_pow] using this
theorem and_mod (x y : Nat) : (x &&& y) % 2 = x % 2 * (y % 2) := by
  have h : (x &&& y).testBit 0 = (x.testBit 0 && y.testBit 0) := Nat.testBit_and ..
  rw [Nat.testBit_zero, Nat.testBit_zero, Nat.testBit_zero] at h
  rcases Nat.mod_two_eq_zero_or_one x with hx | hx <;> rcases Nat.mod_two_eq_zero_or_one y with hy | hy <;> rcases Nat.mod_two_eq_zero_or_one (x &&& y) with hz | hz <;> simp [hx, hy, hz] at h ⊢
theorem crr_pop : ∀ (f a b c : Nat), c ≤ 1 → popx (f + 1) ((a ^^^ b) ^^^ (a + b + c)) = c + crr f a b c := by
  intro f
  induction f with
  | zero =>
    intro a b c hc
    show ((a ^^^ b) ^^^ (a + b + c)) % 2 + 0 = c + 0
    have h1 := xor_mod (a ^^^ b) (a + b + c)
    have h2 := xor_mod a b
    omega
  | succ f ih =>
    intro a b c hc
    have h1 := xor_mod (a ^^^ b) (a + b + c)
    have h2 := xor_mod a b
    have h3 : ((a ^^^ b) ^^^ (a + b + c)) / 2 = (a / 2 ^^^ b / 2) ^^^ (a / 2 + b / 2 + (a % 2 + b % 2 + c) / 2) := by
      rw [xor_half, xor_half]
      congr 1
      omega
    have h4 := ih (a / 2) (b / 2) ((a % 2 + b % 2 + c) / 2) (by omega)
    show ((a ^^^ b) ^^^ (a + b + c)) % 2 + popx (f + 1) (((a ^^^ b) ^^^ (a + b + c)) / 2) = c + ((a % 2 + b % 2 + c) / 2 + crr f (a / 2) (b / 2) ((a % 2 + b % 2 + c) / 2))
    rw [h3, h4]
    omega
theorem popx_zero : ∀ f, popx f 0 = 0 := by
  intro f
  induction f with
  | zero => rfl
  | succ f ih =>
    show 0 % 2 + popx f (0 / 2) = 0
    rw [show 0 / 2 = 0 from rfl, ih]
theorem popx_ones : ∀ (f n : Nat), n < 2 ^ f → ((Nat.toDigits 2 n).filter (· == '1')).length = popx f n := by
  intro f
  induction f with
  | zero =>
    intro n hn
    have : n = 0 := by omega
    subst this
    decide
  | succ f ih =>
    intro n hn
    by_cases h : n < 2
    · rcases (show n = 0 ∨ n = 1 by omega) with rfl | rfl
      · rw [popx_zero]
        decide
      · show _ = 1 % 2 + popx f (1 / 2)
        rw [show 1 / 2 = 0 from rfl, popx_zero]
        decide
    · rw [Nat.toDigits_of_base_le (by decide) (by omega), List.filter_append, List.length_append, ih (n / 2) (by rw [Nat.pow_succ] at hn; omega)]
      show _ = n % 2 + popx f (n / 2)
      rcases Nat.mod_two_eq_zero_or_one n with hx | hx
      · rw [hx]
        show popx f (n / 2) + 0 = _
        omega
      · rw [hx]
        show popx f (n / 2) + 1 = _
        omega
theorem occ_one (x : Str) (c limit : Nat) : ∀ (m cur : Nat) (st : Array Nat × Nat), st.snd ≤ cur → st.fst.size + m ≤ limit →
    (forIn (List.range' cur m) st (StrLaws.occBody x ⟨#[c]⟩ x.length limit)).run.fst.size = st.fst.size + (((x.cps.toList.drop cur).take m).filter (· == c)).length := by
  intro m
  induction m with
  | zero => intro cur st _ _; rfl
  | succ m ih =>
    intro cur st h1 h2
    rw [List.range'_succ, List.forIn_cons]
    have hs := StrLaws.subAt_one x c cur
    unfold StrLaws.occBody
    cases e : x.cps.toList[cur]? with
    | none =>
      have hl := List.getElem?_eq_none_iff.mp e
      rw [if_neg (fun h => by
        have := hs.mp ⟨h.1.2, h.2⟩
        rw [e] at this
        cases this)]
      have := ih (cur + 1) (st.fst, st.snd) (show st.snd ≤ cur + 1 by omega) (show st.fst.size + m ≤ limit by omega)
      rw [List.drop_eq_nil_of_le (show x.cps.toList.length ≤ cur + 1 by omega)] at this
      rw [List.drop_eq_nil_of_le hl]
      simp only [List.take_nil, List.filter_nil, List.length_nil] at this ⊢
      exact this
    | some d =>
      obtain ⟨hl, ed⟩ := List.getElem?_eq_some_iff.mp e
      rw [List.drop_eq_getElem_cons hl, ed, List.take_succ_cons]
      by_cases hd : d = c
      · subst hd
        have h3 := hs.mpr e
        rw [if_pos ⟨⟨⟨by omega, h1⟩, h3.1⟩, h3.2⟩]
        have := ih (cur + 1) (st.fst.push cur, cur + 1) (Nat.le_refl _) (show (st.fst.push cur).size + m ≤ limit by rw [Array.size_push]; omega)
        rw [List.filter_cons_of_pos (by simp), List.length_cons]
        have h4 : (st.fst.push cur, cur + 1).fst.size = st.fst.size + 1 := Array.size_push ..
        rw [h4] at this
        refine Eq.trans this ?_
        omega
      · rw [if_neg (fun h => by
          have := hs.mp ⟨h.1.2, h.2⟩
          rw [e] at this
          exact hd (Option.some.inj this))]
        rw [List.filter_cons_of_neg (by simpa using hd)]
        exact ih (cur + 1) (st.fst, st.snd) (show st.snd ≤ cur + 1 by omega) (show st.fst.size + m ≤ limit by omega)
theorem count_one (x : Str) (c : Nat) : Txt.count x ⟨#[c]⟩ = (((x.cps.toList.filter (· == c)).length : Nat) : Int) := by
  unfold Txt.count
  rw [StrLaws.occ_eq]
  have := occ_one x c (x.length + 1) (x.length + 1 - 0) 0 (#[], 0) (Nat.le_refl _) (by simp)
  rw [List.drop_zero, List.take_of_length_le (by show x.cps.toList.length ≤ x.cps.size + 1 - 0; simp)] at this
  rw [Array.length_toList, this]
  simp
theorem ones_popx {f n : Nat} (h : n < 2 ^ f) : ones n = (popx f n : Int) := by
  unfold ones
  rw [show Str.ofString "1" = ⟨#[49]⟩ from rfl, count_one, ← popx_ones f n h]
  unfold binS binL
  congr 1
  show ((((Nat.toDigits 2 n).map Char.toNat).toArray.toList.filter (· == 49)).length) = _
  rw [List.toList_toArray, List.filter_map, List.length_map]
  congr 2
  funext ch
  show (ch.toNat == 49) = (ch == '1')
  by_cases e : ch = '1'
  · rw [e]; rfl
  · rw [beq_eq_false_iff_ne.mpr e, beq_eq_false_iff_ne]
    intro h
    exact e (Char.toNat_inj.mp h)
theorem ones_crr {a b : Nat} (ha : a < 2 ^ 239) (hb : b < 2 ^ 239) : ones (plc a b) = (crr 240 a b 0 : Int) := by
  have h : popx 241 ((a ^^^ b) ^^^ (a + b)) = crr 240 a b 0 := (crr_pop 240 a b 0 (by omega)).trans (Nat.zero_add _)
  rw [ones_popx (f := 241) (n := plc a b) (Nat.xor_lt_two_pow (Nat.xor_lt_two_pow (by omega) (by omega)) (by omega))]
  unfold plc
  rw [h]
/-- under -/
def ndr : Nat → Nat → Nat → Bool
  | 0, _, _ => true
  | f + 1, a, b => !(decide (a % 2 > b % 2)) && ndr f (a / 2) (b / 2)
theorem ndr_and : ∀ (f a b : Nat), a < 2 ^ f → ndr f a b = (a &&& b == a) := by
  intro f
  induction f with
  | zero =>
    intro a b h
    have : a = 0 := by omega
    subst this
    simp [ndr]
  | succ f ih =>
    intro a b h
    have i := ih (a / 2) (b / 2) (by rw [Nat.pow_succ] at h; omega)
    have h1 := and_half a b
    have h2 := and_mod a b
    show (!(decide (a % 2 > b % 2)) && ndr f (a / 2) (b / 2)) = _
    rw [i]
    have key : (a &&& b = a) ↔ ((a &&& b) % 2 = a % 2 ∧ (a &&& b) / 2 = a / 2) := by omega
    rw [Bool.eq_iff_iff]
    simp only [Bool.and_eq_true, Bool.not_eq_true', decide_eq_false_iff_not, beq_iff_eq]
    rw [key, h1, h2]
    rcases Nat.mod_two_eq_zero_or_one a with hx | hx <;> rcases Nat.mod_two_eq_zero_or_one b with hy | hy <;> rw [hx, hy] <;> simp
/-- the twos of a number -/
theorem tw_odd (m p : Nat) : tw ((2 * m + 1) * 2 ^ p) = p := by
  obtain ⟨n, en⟩ : ∃ n, n = (2 * m + 1) * 2 ^ p := ⟨_, rfl⟩
  have hp := Nat.two_pow_pos p
  have hn : 1 ≤ n := by
    rw [en]
    exact Nat.mul_pos (by omega) hp
  rw [← en]
  unfold tw
  rw [bitAnd_pn (by omega) (by omega)]
  have e1 : (Builtin.bitNot (-(n : Int))).toNat = n - 1 := by
    unfold Builtin.bitNot
    omega
  rw [e1, Int.toNat_natCast]
  have e2 : n &&& (n - 1) = n - 2 ^ p := by
    have e3 : n - 1 = (2 * m) * 2 ^ p + (2 ^ p - 1) := by
      rw [en, Nat.add_mul, Nat.one_mul]
      omega
    have e4 : n - 2 ^ p = (2 * m) * 2 ^ p := by
      rw [en, Nat.add_mul, Nat.one_mul]
      omega
    rw [e4, e3, en]
    refine Nat.eq_of_testBit_eq fun i => ?_
    rw [Nat.testBit_and, Nat.mul_comm (2 * m + 1), Nat.mul_comm (2 * m), Nat.testBit_two_pow_mul_add _ (by omega), Nat.testBit_two_pow_mul, Nat.testBit_two_pow_mul]
    by_cases h : i < p
    · rw [if_pos h]
      simp [show ¬ p ≤ i by omega]
    · rw [if_neg h]
      simp only [show p ≤ i by omega, decide_true, Bool.true_and]
      by_cases h0 : i - p = 0
      · rw [h0, Nat.testBit_zero, Nat.testBit_zero]
        simp
      · obtain ⟨j, hj⟩ : ∃ j, i - p = j + 1 := ⟨i - p - 1, by omega⟩
        rw [hj, Nat.testBit_succ, Nat.testBit_succ, show (2 * m + 1) / 2 = m by omega, show 2 * m / 2 = m by omega, Bool.and_self]
  rw [e2, show (n : Int) - ((n - 2 ^ p : Nat) : Int) = ((2 ^ p : Nat) : Int) by
    have : 2 ^ p ≤ n := by
      rw [en]
      exact Nat.le_mul_of_pos_left _ (by omega)
    omega]
  unfold Builtin.Int.intBits
  rw [if_neg (fun e => by
    have e0 : ((2 ^ p : Nat) : Int) = 0 := beq_iff_eq.mp e
    omega), Int.natAbs_natCast, Nat.log2_two_pow]
  omega
end RR

namespace RR
open PySem PySem.Spec PyProof.Rows L2
def topS (i : Nat) : Stmt := PySem.Challenge.pw_runroots_k20_binomials_and_carries.main.body.getD i (.Pass ⟨0, 0, 0, 0⟩)
abbrev s__law_draws : Stmt := topS 7
theorem sc__law_draws : FnScope ["script", "many", "draws", "at", "cell", "number", "k"] ["script", "many"] (defScope s__law_draws) := ⟨rfl, rfl, rfl, by decide +kernel, rfl, by decide +kernel, by decide +kernel⟩
abbrev s__law_row : Stmt := topS 9
theorem sc__law_row : FnScope ["n", "row", "k", "longer", "j"] ["n"] (defScope s__law_row) := ⟨rfl, rfl, rfl, by decide +kernel, rfl, by decide +kernel, by decide +kernel⟩
abbrev s__law_is_number : Stmt := topS 8
theorem sc__law_is_number : FnScope ["value"] ["value"] (defScope s__law_is_number) := ⟨rfl, rfl, rfl, by decide +kernel, rfl, by decide +kernel, by decide +kernel⟩
abbrev s_binomial : Stmt := topS 2
theorem sc_binomial : FnScope ["n", "k"] ["n", "k"] (defScope s_binomial) := ⟨rfl, rfl, rfl, by decide +kernel, rfl, by decide +kernel, by decide +kernel⟩
abbrev s__law_great : Stmt := topS 12
theorem sc__law_great : FnScope ["draws", "at", "number", "k"] ["draws", "at"] (defScope s__law_great) := ⟨rfl, rfl, rfl, by decide +kernel, rfl, by decide +kernel, by decide +kernel⟩
abbrev s_carries : Stmt := topS 4
theorem sc_carries : FnScope ["a", "b", "places"] ["a", "b"] (defScope s_carries) := ⟨rfl, rfl, rfl, by decide +kernel, rfl, by decide +kernel, by decide +kernel⟩
abbrev s__law_carries : Stmt := topS 10
theorem sc__law_carries : FnScope ["a", "b", "count", "carry", "k", "total"] ["a", "b"] (defScope s__law_carries) := ⟨rfl, rfl, rfl, by decide +kernel, rfl, by decide +kernel, by decide +kernel⟩
abbrev s_is_under : Stmt := topS 3
theorem sc_is_under : FnScope ["a", "b"] ["a", "b"] (defScope s_is_under) := ⟨rfl, rfl, rfl, by decide +kernel, rfl, by decide +kernel, by decide +kernel⟩
abbrev s__law_under : Stmt := topS 11
theorem sc__law_under : FnScope ["a", "b", "k"] ["a", "b"] (defScope s__law_under) := ⟨rfl, rfl, rfl, by decide +kernel, rfl, by decide +kernel, by decide +kernel⟩
abbrev s_twos : Stmt := topS 5
theorem sc_twos : FnScope ["n"] ["n"] (defScope s_twos) := ⟨rfl, rfl, rfl, by decide +kernel, rfl, by decide +kernel, by decide +kernel⟩
abbrev s_law : Stmt := topS 13
theorem sc_law : FnScope ["script", "draws", "n", "k", "row", "due", "a", "b", "power", "odd", "j"] ["script"] (defScope s_law) := ⟨rfl, rfl, rfl, by decide +kernel, rfl, by decide +kernel, by decide +kernel⟩
local macro_rules | `(tactic| walk_at "sm") => `(tactic| first
  | assumption
  | exact Sm.lit (k := 64)
  | (refine' Sm.mul ?h1 ?h2; (case h1 => walk_at "sm"); (case h2 => walk_at "sm"))
  | (refine' Sm.ad ?h1 ?h2; (case h1 => walk_at "sm"); (case h2 => walk_at "sm"))
  | (refine' Sm.sb ?h1 ?h2; (case h1 => walk_at "sm"); (case h2 => walk_at "sm"))
  | (refine' Sm.neg ?h1; (case h1 => walk_at "sm"))
  | fail "sm")
local macro_rules | `(tactic| walk_at "rd") => `(tactic| repeat' first
  | (refine ⟨_, rfl, ?_⟩)
  | (refine ⟨_, _, rfl, rfl, ?_⟩)
  | (with_reducible refine tC_go ?_)
  | (with_reducible refine tNil_go ?_)
  | (with_reducible refine gTup_new (by with_unfolding_all rfl) ?_)
  | (with_reducible refine gTup_as (by first | exact sq_of (by assumption) | assumption) (by with_unfolding_all rfl) ?_)
  | (with_reducible refine ixT_new (by with_unfolding_all rfl) ?_)
  | (with_reducible refine ixT_as (by first | exact sq_of (by assumption) | assumption) (by with_unfolding_all rfl) ?_)
  | (refine ⟨_, _, (rfl : _ :: _ = _ :: _), ?_⟩)
  | (refine ⟨_, _, _, (rfl : _ :: _ = _ :: _), ?_⟩)
  | (refine ⟨rfl, ?_⟩)
  | (show _ ∧ _; refine And.intro (by omega) ?_)
  | ((with_reducible show CMulX _ _ ∧ _); refine And.intro (Sm.mx (by walk_at "sm") (by walk_at "sm") (by omega)) ?_)
  | ((with_reducible show CPow _ _ ∧ _); refine And.intro ⟨by decide, by decide, by decide⟩ ?_)
  | ((with_reducible show CDivW _ _ ∧ _); refine And.intro ⟨by first | omega | decide, by decide⟩ ?_)
  | (show _ ∧ _; refine And.intro (by assumption) ?_)
  | (show _ ∧ _; refine And.intro (Nat.le_of_ble_eq_true rfl) ?_)
  | ((with_reducible show tyV _ "list" _ _ ∧ _); refine And.intro (.inl ⟨rfl, _, .inl (.inl (by assumption))⟩) ?_)
  | fail "rd")

section
variable {P : Program} {w : World} {K : PySem.W.Frag} {mg : Str → Option Value} {base : Heap}
def sp__law_draws (K : PySem.W.Frag) : Sp := fun vs H Q _ => ∃ (a : Addr) (ns : List Int) (many : Nat), vs = [.ref a, .int many] ∧ SqL K H a (ns.map V.int) ∧ many ≤ 100 ∧
  ∀ H' D (ds : List Int), Same H H' → H D = none → H' D = some (.lst (ds.map V.int)) → ds.length = many → (∀ d ∈ ds, 0 ≤ d ∧ d < 65537) → Q (.ref D) H'
theorem ok__law_draws {f : Addr} {fd : FuncData} (F : Fun K "_law_draws" "_law_draws" s__law_draws f fd) (m_range : mg "range" = none) (m_abs : mg "abs" = none) (m_len : mg "len" = none) (m_int : mg "int" = none) : FnOk P w K mg base CX0 1 f fd ["script", "many"] (sp__law_draws K) := by
  refine F.ok sc__law_draws (fun vs H Q E h => ?_) (fun cdv A outer s H vs Q E hr h => ?_)
  · obtain ⟨a, ns, many, rfl, _⟩ := h
    rfl
  · obtain ⟨a, ns, many, rfl, hS, hm, q⟩ := h
    refine ⟨_, (pss_cons (ps_set (i := 2) sc__law_draws.nd rfl (.inl rfl) (pe_lst pa_nil))
      (pss_cons (ps_set (i := 3) sc__law_draws.nd rfl (.inl rfl) pe_int)
      (pss_cons (ps_for PassesOwn.never rfl (pi_list (pe_slice sl_list (pv 0) po_none (po_some pe_int))) (pg_name (i := 4) sc__law_draws.nd rfl (.inl rfl)) (pss_cons (ps_set (i := 5) sc__law_draws.nd rfl (.inl rfl) (pe_callB call_abs (by rfl) m_abs (by decide +kernel) (pa_cons (pv 4) pa_nil)))
      (pss_cons (ps_if (pt_cmpR op_ge (pv 5) (pe_op op_pow pe_int pe_int) (nomark _)) (pss_one (ps_for PassesOwn.never rfl (pi_range1 (by rfl) m_range (pa_cons pe_int pa_nil)) (pg_name (i := 6) sc__law_draws.nd rfl (.inl rfl)) (pss_one (ps_if (pt_cmpR op_gt (pv 5) pe_int (nomark _)) (pss_cons (ps_expr (pe_bm PySem.F.plainAttrs_list PySem.F.slot_list_append PySem.F.type_list_append mt_append (pv 2) (pa_cons (pe_op op_mod (pe_callTy call_intI (by rfl) m_int (by decide +kernel) (pa_cons (pv 5) pa_nil)) pe_int) pa_nil)))
      (pss_one (ps_set (i := 5) sc__law_draws.nd rfl (.inl rfl) (pe_op op_fdivW (pv 5) pe_int)))) pss_nil)))) (pss_cons (ps_expr (pe_bm PySem.F.plainAttrs_list PySem.F.slot_list_append PySem.F.type_list_append mt_append (pv 2) (pa_cons (pe_op op_mod (pe_callTy call_intI (by rfl) m_int (by decide +kernel) (pa_cons (pe_op op_add (pe_op op_add (pe_op op_mulX (pv 5) pe_int) (pe_op op_mulX (pv 3) pe_int)) pe_int) pa_nil)) pe_int) pa_nil)))
      (pss_one (ps_expr (pe_bm PySem.F.plainAttrs_list PySem.F.slot_list_append PySem.F.type_list_append mt_append (pv 2) (pa_cons (pe_op op_mod (pe_callTy call_intI (by rfl) m_int (by decide +kernel) (pa_cons (pe_op op_add (pe_op op_add (pe_op op_add (pe_op op_mulX (pv 5) pe_int) (pe_op op_mulX (pv 3) pe_int)) pe_int) (pe_op op_mulX (pv 5) (pv 5))) pa_nil)) pe_int) pa_nil))))))
      (pss_one (ps_set (i := 3) sc__law_draws.nd rfl (.inl rfl) (pe_op op_add (pv 3) pe_int))))))
      (pss_cons (ps_for PassesOwn.never rfl (pi_range1 (by rfl) m_range (pa_cons (pv 1) pa_nil)) (pg_name (i := 6) sc__law_draws.nd rfl (.inl rfl)) (pss_one (ps_if (pt_cmpR op_lt (pe_callB call_len_seq (by rfl) m_len (by decide +kernel) (pa_cons (pv 2) pa_nil)) (pv 1) (nomark _)) (pss_one (ps_expr (pe_bm PySem.F.plainAttrs_list PySem.F.slot_list_append PySem.F.type_list_append mt_append (pv 2) (pa_cons (pe_op op_mod (pe_callTy call_intI (by rfl) m_int (by decide +kernel) (pa_cons (pe_op op_add (pe_op op_add (pe_op op_mulX (pe_callB call_len_seq (by rfl) m_len (by decide +kernel) (pa_cons (pv 2) pa_nil)) pe_int) (pe_op op_mulX pe_int (pv 3))) (pe_op op_mulX (pe_op op_mulX (pv 6) (pv 6)) pe_int)) pa_nil)) pe_int) pa_nil)))) pss_nil)))
      (pss_one (ps_ret (pe_slice sl_list (pv 2) po_none (po_some (pv 1))))))))), ?_⟩
    walk_at "rd"
    intro D nD
    walk_at "rd"
    refine ⟨a, _, rfl, (same_upd nD).seq hS, fun c nc => ?_⟩
    have hcut : cutV (ns.map V.int) none (some 63) = (ns.take 63).map V.int := by
      unfold cutV
      rw [HT.sIx_none, show (some (63 : Int)) = some ((63 : Nat) : Int) from rfl, HT.sIx_nat, List.drop_zero, Nat.sub_zero, List.map_take]
      by_cases h : (ns.map V.int).length ≤ 63
      · rw [Nat.min_eq_right h, List.take_length, List.take_of_length_le h]
      · rw [Nat.min_eq_left (by omega)]
    rw [hcut]
    have hD0 : (upd (upd H D (.lst [])) c (.lst ((ns.take 63).map V.int))) D = some (.lst (([] : List Int).map V.int)) := same_upd nc _ _ upd_same
    have h18 : (10 : Int) ^ (18 : Int).toNat = 1000000000000000000 := by decide +kernel
    refine ⟨c, rfl, ⟨_, .inl (.inl upd_same)⟩, ?_⟩
    refine for_list (K := K) (a := c) (xs := (ns.take 63).map V.int) (fun i σ H' => ∃ (ds : List Int) (c4 c5 c6 : Option V), σ = [some (.ref a), some (.int many), some (.ref D), some (.int (i : Int)), c4, c5, c6] ∧
      H' D = some (.lst (ds.map V.int)) ∧ ds.length ≤ 24 * i ∧ (∀ d ∈ ds, 0 ≤ d ∧ d < 65537) ∧ H' c = some (.lst ((ns.take 63).map V.int)) ∧ Same H H') ?_ ?_ ?_ ?_
    · exact ⟨[], none, none, none, rfl, hD0, by simp, (fun d hd => by cases hd), upd_same, (same_upd nD).trans (same_upd nc)⟩
    · intro i σ H1 _ hP
      obtain ⟨ds, c4, c5, c6, rfl, _, _, _, hc, _⟩ := hP
      exact .inl (.inl hc)
    · intro i v σ H1 hv hP
      obtain ⟨ds, c4, c5, c6, rfl, hD, hl, hd, hc, sH⟩ := hP
      have hi : i < 63 := by
        have := (List.getElem?_eq_some_iff.mp hv).1
        rw [List.length_map, List.length_take] at this
        omega
      obtain ⟨z, rfl⟩ : ∃ z : Int, v = .int z := by
        rw [List.getElem?_map] at hv
        cases e : (ns.take 63)[i]? with
        | none => rw [e] at hv; cases hv
        | some z => rw [e] at hv; exact ⟨z, (Option.some.inj hv).symm⟩
      have hcD : c ≠ D := fun e => by
        rw [e, upd_same] at nc
        cases nc
      have si : Sm 64 (i : Int) := Sm.le (y := 1000) (Sm.lit (k := 64)) (by omega) (by omega)
      walk_at "rd"
      obtain ⟨nu, enu⟩ : ∃ nu : Int, nu = (if z < 0 then -z else z) := ⟨_, rfl⟩
      have hnu : 0 ≤ nu := by rw [enu]; split <;> omega
      rw [← enu]
      refine split_if (fun σ' H' => ∃ (ds : List Int) (c4 c5 c6 : Option V), σ' = [some (.ref a), some (.int many), some (.ref D), some (.int (i : Int)), c4, c5, c6] ∧
        H' D = some (.lst (ds.map V.int)) ∧ ds.length ≤ 24 * (i + 1) ∧ (∀ d ∈ ds, 0 ≤ d ∧ d < 65537) ∧ H' c = some (.lst ((ns.take 63).map V.int)) ∧ Same H H') ?_ ?_
      · intro σ H2 hP
        obtain ⟨ds, c4, c5, c6, rfl, hD, hl, hd, hc, sH⟩ := hP
        walk_at "rd"
        exact ⟨ds, c4, c5, c6, rfl, hD, hl, hd, hc, sH⟩
      · intro D' hD'
        refine ite2 (fun e => ?_) (fun e => ?_)
        · walk_at "rd"
          refine for_rng (n := 24) (fun k σ' H' => ∃ (ds : List Int) (w : Int) (c4 c6 : Option V), σ' = [some (.ref a), some (.int many), some (.ref D), some (.int (i : Int)), c4, some (.int w), c6] ∧ 0 ≤ w ∧
            H' D = some (.lst (ds.map V.int)) ∧ ds.length ≤ 24 * i + k ∧ (∀ d ∈ ds, 0 ≤ d ∧ d < 65537) ∧ H' c = some (.lst ((ns.take 63).map V.int)) ∧ Same H H') ?_ ?_ ?_
          · exact ⟨ds, nu, _, _, rfl, hnu, hD, hl, hd, hc, sH⟩
          · intro k σ H2 hk hP
            obtain ⟨ds, w', c4, c6, rfl, hw, hD, hl, hd, hc, sH⟩ := hP
            walk_at "rd"
            refine ite2 (fun e2 => ?_) (fun e2 => ?_)
            · walk_at "rd"
              refine app_go hD (by rw [List.length_map]; exact Nat.lt_of_le_of_lt (show ds.length ≤ 2000 by omega) (by decide)) ?_
              walk_at "rd"
              refine ⟨ds ++ [w' % 1009], w' / 1009, _, _, rfl, by omega, by rw [upd_same, List.map_append]; rfl, by rw [List.length_append]; show ds.length + 1 ≤ _; omega, ?_, ?_, ?_⟩
              · intro d hx
                rcases List.mem_append.mp hx with hx | hx
                · exact hd d hx
                · rw [List.mem_singleton] at hx
                  omega
              · rw [upd_ne hcD]
                exact hc
              · exact fun b o hb => by
                  rw [upd_ne (ne_of_none hb nD)]
                  exact sH b o hb
            · exact ⟨ds, w', _, _, rfl, hw, hD, by omega, hd, hc, sH⟩
          · intro σ H2 hP
            obtain ⟨ds, w', c4, c6, rfl, hw, hD, hl, hd, hc, sH⟩ := hP
            exact hD' _ _ ⟨ds, _, _, _, rfl, hD, by omega, hd, hc, sH⟩
        · have hlt : nu < 1000000000000000000 := by
            have : ¬ (10 : Int) ^ (18 : Int).toNat ≤ nu := fun l => e (decide_eq_true l)
            rw [h18] at this
            omega
          have snu : Sm 64 nu := Sm.le (y := 1000000000000000000) (Sm.lit (k := 64)) hnu (by omega)
          walk_at "rd"
          refine app_go hD (by rw [List.length_map]; exact Nat.lt_of_le_of_lt (show ds.length ≤ 2000 by omega) (by decide)) ?_
          have hD2 : (upd H1 D (.lst (ds.map V.int ++ [.int ((nu * 48271 + i * 69621 + 11) % 65537)]))) D = some (.lst ((ds ++ [(nu * 48271 + i * 69621 + 11) % 65537]).map V.int)) := by
            rw [upd_same, List.map_append]
            rfl
          walk_at "rd"
          refine app_go hD2 (by rw [List.length_map, List.length_append]; exact Nat.lt_of_le_of_lt (show ds.length + 1 ≤ 2000 by omega) (by decide)) ?_
          refine hD' _ _ ⟨ds ++ [(nu * 48271 + i * 69621 + 11) % 65537] ++ [(nu * 16807 + i * 40692 + 7 + nu * nu) % 65521], _, _, _, rfl, ?_, ?_, ?_, ?_, ?_⟩
          · simp only [upd_same, List.map_append]
            rfl
          · rw [List.length_append, List.length_append]
            show ds.length + 1 + 1 ≤ _
            omega
          · intro d hx
            rcases List.mem_append.mp hx with hx | hx
            · rcases List.mem_append.mp hx with hx | hx
              · exact hd d hx
              · rw [List.mem_singleton] at hx
                omega
            · rw [List.mem_singleton] at hx
              generalize nu * nu = sq at *
              omega
          · rw [upd_ne hcD, upd_ne hcD]
            exact hc
          · exact fun b o hb => by
              rw [upd_ne (ne_of_none hb nD), upd_ne (ne_of_none hb nD)]
              exact sH b o hb
    · intro σ H1 hP
      obtain ⟨ds, c4, c5, c6, rfl, hD, hl, hd, hc, sH⟩ := hP
      rw [List.length_map] at hl
      have hl63 : (ns.take 63).length ≤ 63 := by rw [List.length_take]; omega
      rw [List.length_map]
      generalize (ns.take 63).length = at' at *
      have sat : Sm 64 (at' : Int) := Sm.le (y := 1000) (Sm.lit (k := 64)) (by omega) (by omega)
      walk_at "rd"
      refine for_rng (n := many) (fun k σ' H' => ∃ (ds : List Int) (c4 c5 c6 : Option V), σ' = [some (.ref a), some (.int many), some (.ref D), some (.int (at' : Int)), c4, c5, c6] ∧
        H' D = some (.lst (ds.map V.int)) ∧ k ≤ ds.length ∧ ds.length ≤ 2000 ∧ (∀ d ∈ ds, 0 ≤ d ∧ d < 65537) ∧ Same H H') ?_ ?_ ?_
      · exact ⟨ds, _, _, _, rfl, hD, Nat.zero_le _, by omega, hd, sH⟩
      · intro k σ H2 hk hP
        obtain ⟨ds, c4, c5, c6, rfl, hD, hk1, hl, hd, sH⟩ := hP
        have sk : Sm 64 (k : Int) := Sm.le (y := 1000) (Sm.lit (k := 64)) (by omega) (by omega)
        walk_at "rd"
        refine ⟨D, _, rfl, .inl (.inl (.inl hD)), ?_⟩
        walk_at "rd"
        refine ite2 (fun e => ?_) (fun e => ?_)
        · have hlm : ds.length < many := by
            have := of_decide_eq_true e
            rw [List.length_map] at this
            omega
          have sl : Sm 64 ((ds.map V.int).length : Int) := by
            rw [List.length_map]
            exact Sm.le (y := 10000) (Sm.lit (k := 64)) (by omega) (by omega)
          walk_at "rd"
          refine ⟨D, _, rfl, .inl (.inl (.inl hD)), ?_⟩
          walk_at "rd"
          refine app_go hD (by rw [List.length_map]; exact Nat.lt_of_le_of_lt (show ds.length ≤ 2000 by omega) (by decide)) ?_
          refine ⟨ds ++ [(((ds.map V.int).length : Int) * 69621 + 977 * at' + k * k * 31) % 65521], _, _, _, rfl, by rw [upd_same, List.map_append]; rfl, by rw [List.length_append]; show _ ≤ ds.length + 1; omega, by rw [List.length_append]; show ds.length + 1 ≤ _; omega, ?_, ?_⟩
          · intro d hx
            rcases List.mem_append.mp hx with hx | hx
            · exact hd d hx
            · rw [List.mem_singleton] at hx
              generalize ((ds.map V.int).length : Int) * 69621 + 977 * at' + k * k * 31 = sq at *
              omega
          · exact fun b o hb => by
              rw [upd_ne (ne_of_none hb nD)]
              exact sH b o hb
        · have hlm : many ≤ ds.length := by
            have : ¬ ((ds.map V.int).length : Int) < (many : Int) := fun l => e (decide_eq_true l)
            rw [List.length_map] at this
            omega
          exact ⟨ds, _, _, _, rfl, hD, by omega, hl, hd, sH⟩
      · intro σ H2 hP
        obtain ⟨ds, c4, c5, c6, rfl, hD, hk1, hl, hd, sH⟩ := hP
        walk_at "rd"
        refine ⟨D, _, rfl, .inl (.inl hD), fun p np => ?_⟩
        rw [cut_take _ _ (by rw [List.length_map]; exact hk1), ← List.map_take]
        exact q _ p (ds.take many) (sH.trans (same_upd np)) (sH.free np) upd_same (by rw [List.length_take]; omega) (fun d hx => hd d (List.mem_of_mem_take hx))

def sp__law_row (K : PySem.W.Frag) : Sp := fun vs H Q _ => ∃ (n : Nat), vs = [.int n] ∧ n ≤ 60 ∧ ∀ H' D, Same H H' → H' D = some (.lst (rowV n (n + 1))) → Q (.ref D) H'
theorem ok__law_row {f : Addr} {fd : FuncData} (F : Fun K "_law_row" "_law_row" s__law_row f fd) (m_range : mg "range" = none) (m_len : mg "len" = none) : FnOk P w K mg base CX0 1 f fd ["n"] (sp__law_row K) := by
  refine F.ok sc__law_row (fun vs H Q E h => ?_) (fun cdv A outer s H vs Q E hr h => ?_)
  · obtain ⟨n, rfl, _⟩ := h
    rfl
  · obtain ⟨n, rfl, hn, q⟩ := h
    refine ⟨_, (pss_cons (ps_set (i := 1) sc__law_row.nd rfl (.inl rfl) (pe_lst (pa_cons pe_int pa_nil)))
      (pss_cons (ps_for PassesOwn.never rfl (pi_range1 (by rfl) m_range (pa_cons (pv 0) pa_nil)) (pg_name (i := 2) sc__law_row.nd rfl (.inl rfl)) (pss_cons (ps_set (i := 3) sc__law_row.nd rfl (.inl rfl) (pe_lst (pa_cons pe_int pa_nil)))
      (pss_cons (ps_for PassesOwn.never rfl (pi_range1 (by rfl) m_range (pa_cons (pe_op op_sub (pe_callB call_len_seq (by rfl) m_len (by decide +kernel) (pa_cons (pv 1) pa_nil)) pe_int) pa_nil)) (pg_name (i := 4) sc__law_row.nd rfl (.inl rfl)) (pss_one (ps_expr (pe_bm PySem.F.plainAttrs_list PySem.F.slot_list_append PySem.F.type_list_append mt_append (pv 3) (pa_cons (pe_op op_add (pe_ix ix_list (pv 1) (pv 4) (fun _ _ => rfl)) (pe_ix ix_list (pv 1) (pe_op op_add (pv 4) pe_int) (fun _ _ => rfl))) pa_nil)))))
      (pss_one (ps_set (i := 1) sc__law_row.nd rfl (.inl rfl) (pe_op op_cat (pv 3) (pe_lst (pa_cons pe_int pa_nil))))))))
      (pss_one (ps_ret (pv 1))))), ?_⟩
    walk_at "rd"
    intro D nD
    walk_at "rd"
    refine for_rng (n := n) (fun k σ H' => ∃ (R : Addr) (c2 c3 c4 : Option V), σ = [some (.int n), some (.ref R), c2, c3, c4] ∧ H' R = some (.lst (rowV k (k + 1))) ∧ Same H H') ?_ ?_ ?_
    · refine ⟨D, none, none, none, rfl, ?_, same_upd nD⟩
      rw [upd_same]
      show some (HO.lst [V.int 1]) = some (HO.lst [V.int (ch 0 0 : Int)])
      unfold ch
      rfl
    · intro k σ H1 hk hP
      obtain ⟨R, c2, c3, c4, rfl, hR, sH⟩ := hP
      walk_at "rd"
      intro L nL
      have nL0 : H L = none := sH.free nL
      have hRL : R ≠ L := fun e => by
        rw [e, nL] at hR
        cases hR
      walk_at "rd"
      refine ⟨R, _, rfl, .inl (.inl (.inl (by rw [upd_ne hRL]; exact hR))), ?_⟩
      rw [rowV_len]
      walk_at "rd"
      refine for_rng (n := (((k + 1 : Nat) : Int) - 1).toNat) (fun j σ' H' => ∃ (c4 : Option V), σ' = [some (.int n), some (.ref R), some (.int k), some (.ref L), c4] ∧ H' L = some (.lst (rowV (k + 1) (j + 1))) ∧ H' R = some (.lst (rowV k (k + 1))) ∧ Same H H') ?_ ?_ ?_
      · refine ⟨_, rfl, ?_, by rw [upd_ne hRL]; exact hR, Same.new' sH nL⟩
        rw [upd_same]
        show some (HO.lst [V.int 1]) = some (HO.lst [V.int (ch (k + 1) 0 : Int)])
        unfold ch
        rfl
      · intro j σ' H2 hj hP
        obtain ⟨c4, rfl, hL, hR, sH⟩ := hP
        have hjk : j < k := by omega
        walk_at "rd"
        refine ixL_as (.inl (.inl hR)) (at_of (j := j) rfl (rowV_at (by omega))) ?_
        walk_at "rd"
        refine ixL_as (.inl (.inl hR)) (at_of (j := j + 1) (by omega) (rowV_at (by omega))) ?_
        walk_at "rd"
        show rAppend (.ref L) [_] H2 _
        refine app_go hL (by rw [rowV_len]; exact Nat.lt_of_le_of_lt (show _ ≤ 100 by omega) (by decide)) ?_
        refine ⟨_, rfl, ?_, by rw [upd_ne hRL]; exact hR, Same.new sH nL0⟩
        rw [upd_same, rowV_succ (k + 1) (j + 1)]
        rfl
      · intro σ' H2 hP
        obtain ⟨c4, rfl, hL, hR, sH⟩ := hP
        have ek : (((k + 1 : Nat) : Int) - 1).toNat = k := by omega
        rw [ek] at hL
        walk_at "rd"
        intro p np
        refine ⟨L, p, _, _, rfl, rfl, by rw [upd_ne (ne_of_none hL np)]; exact hL, upd_same, by rw [rowV_len]; exact Nat.le_trans (show _ ≤ 100 by simp; omega) (by decide), fun t nt => ?_⟩
        refine ⟨t, _, _, _, rfl, ?_, (sH.trans (same_upd np)).trans (same_upd nt)⟩
        rw [upd_same, rowV_succ (k + 1) (k + 1), ch_self]
        rfl
    · intro σ H1 hP
      obtain ⟨R, c2, c3, c4, rfl, hR, sH⟩ := hP
      walk_at "rd"
      exact q _ R sH hR

def sp__law_is_number (K : PySem.W.Frag) : Sp := fun vs H Q _ => ∃ (i : Int), vs = [.int i] ∧ Q (.bl true) H
theorem ok__law_is_number {f : Addr} {fd : FuncData} (F : Fun K "_law_is_number" "_law_is_number" s__law_is_number f fd) (m_isinstance : mg "isinstance" = none) (m_int : mg "int" = none) (m_bool : mg "bool" = none) : FnOk P w K mg base CX0 1 f fd ["value"] (sp__law_is_number K) := by
  refine F.ok sc__law_is_number (fun vs H Q E h => ?_) (fun cdv A outer s H vs Q E hr h => ?_)
  · obtain ⟨i, rfl, _⟩ := h
    rfl
  · obtain ⟨i, rfl, q⟩ := h
    refine ⟨_, (pss_one (ps_ret (pe_and (pe_callB isi_int (by rfl) m_isinstance (by decide +kernel) (pa_cons (pv 0) (pa_cons (pe_bltn (v := .ty "int") rfl m_int (by decide +kernel) rfl) pa_nil))) (pe_one (pe_not (pe_callB isi_bool (by rfl) m_isinstance (by decide +kernel) (pa_cons (pv 0) (pa_cons (pe_bltn (v := .ty "bool") rfl m_bool (by decide +kernel) rfl) pa_nil)))))))), ?_⟩
    walk_at "rd"
    exact q

def sp_binomial (K : PySem.W.Frag) : Sp := fun vs H Q _ => ∃ (n k : Nat), vs = [.int n, .int k] ∧ n ≤ 9000 ∧ Q (.int (ch n k : Int)) H
theorem ok_binomial {f : Addr} {fd : FuncData} (F : Fun K "binomial" "binomial" s_binomial f fd) (m_comb : mg "comb" = some (.builtin "math.comb")) : FnOk P w K mg base CX0 1 f fd ["n", "k"] (sp_binomial K) := by
  refine F.ok sc_binomial (fun vs H Q E h => ?_) (fun cdv A outer s H vs Q E hr h => ?_)
  · obtain ⟨n, k, rfl, _⟩ := h
    rfl
  · obtain ⟨n, k, rfl, hn, q⟩ := h
    refine ⟨_, (pss_one (ps_ret (pe_callBfun cr_comb (by rfl) m_comb (pa_cons (pv 0) (pa_cons (pv 1) pa_nil))))), ?_⟩
    walk_at "rd"
    exact q

def sp__law_great (K : PySem.W.Frag) : Sp := fun vs H Q _ => ∃ (D : Addr) (ds : List Int) (i : Nat), vs = [.ref D, .int i] ∧ i + 20 < ds.length ∧ H D = some (.lst (ds.map V.int)) ∧ (∀ d ∈ ds, 0 ≤ d) ∧ ∀ N : Nat, N < 2 ^ 220 → Q (.int N) H
theorem ok__law_great {f : Addr} {fd : FuncData} (F : Fun K "_law_great" "_law_great" s__law_great f fd) (m_range : mg "range" = none) : FnOk P w K mg base CX0 1 f fd ["draws", "at"] (sp__law_great K) := by
  refine F.ok sc__law_great (fun vs H Q E h => ?_) (fun cdv A outer s H vs Q E hr h => ?_)
  · obtain ⟨D, ds, i, rfl, _⟩ := h
    rfl
  · obtain ⟨D, ds, i, rfl, hi, hD, hd, q⟩ := h
    refine ⟨_, (pss_cons (ps_set (i := 2) sc__law_great.nd rfl (.inl rfl) pe_int)
      (pss_cons (ps_for PassesOwn.never rfl (pi_range1 (by rfl) m_range (pa_cons (pe_op op_mod (pe_ix ix_list (pv 0) (pv 1) (fun _ _ => rfl)) pe_int) pa_nil)) (pg_name (i := 3) sc__law_great.nd rfl (.inl rfl)) (pss_one (ps_set (i := 2) sc__law_great.nd rfl (.inl rfl) (pe_op op_add (pe_op op_mulX (pv 2) pe_int) (pe_op op_mod (pe_ix ix_list (pv 0) (pe_op op_add (pe_op op_add (pv 1) pe_int) (pv 3)) (fun _ _ => rfl)) pe_int)))))
      (pss_one (ps_ret (pv 2))))), ?_⟩
    have hat : ∀ j, j < ds.length → ∃ d : Nat, (ds.map V.int)[j]? = some (V.int (d : Int)) := fun j hj => by
      have h1 : ds[j]? = some (ds[j]'hj) := List.getElem?_eq_getElem hj
      have := hd _ (List.mem_of_getElem? h1)
      refine ⟨(ds[j]'hj).toNat, ?_⟩
      rw [List.getElem?_map, h1]
      show some (V.int _) = some (V.int _)
      rw [Int.toNat_of_nonneg this]
    walk_at "rd"
    obtain ⟨d0, h0⟩ := hat i (by omega)
    refine ixL_as (.inl (.inl hD)) (at_of (j := i) (by omega) h0) ?_
    walk_at "rd"
    refine for_rng (n := d0 % 20) (fun k σ H' => ∃ (N : Nat) (c3 : Option V), σ = [some (.ref D), some (.int i), some (.int N), c3] ∧ N < 2 ^ (11 * k) ∧ H' = H) ?_ ?_ ?_
    · exact ⟨0, none, rfl, by decide, rfl⟩
    · intro k σ H1 hk hP
      obtain ⟨N, c3, rfl, hN, rfl⟩ := hP
      have hk20 : k < 20 := by omega
      have sN : Sm 300 (N : Int) := by
        unfold Sm
        rw [Int.natAbs_natCast]
        exact Nat.lt_trans hN (Nat.pow_lt_pow_right (by decide) (by omega))
      obtain ⟨d, hdk⟩ := hat (i + 1 + k) (by omega)
      walk_at "rd"
      refine ixL_as (.inl (.inl hD)) (at_of (j := i + 1 + k) (by omega) hdk) ?_
      walk_at "rd"
      refine ⟨?_, rfl⟩
      show N * 1009 + d % 1009 < _
      rw [show 11 * (k + 1) = 11 * k + 11 by omega, Nat.pow_add]
      have := Nat.mod_lt d (show 0 < 1009 by decide)
      omega
    · intro σ H1 hP
      obtain ⟨N, c3, rfl, hN, rfl⟩ := hP
      walk_at "rd"
      exact q N (Nat.lt_of_lt_of_le hN (Nat.pow_le_pow_right (by decide) (by omega)))

def sp_carries (K : PySem.W.Frag) : Sp := fun vs H Q _ => ∃ (a b : Nat), vs = [.int a, .int b] ∧ plc a b < 2 ^ 1000 ∧ Q (.int (ones (plc a b))) H
theorem ok_carries {f : Addr} {fd : FuncData} (F : Fun K "carries" "carries" s_carries f fd)  : FnOk P w K mg base CX0 1 f fd ["a", "b"] (sp_carries K) := by
  refine F.ok sc_carries (fun vs H Q E h => ?_) (fun cdv A outer s H vs Q E hr h => ?_)
  · obtain ⟨a, b, rfl, _⟩ := h
    rfl
  · obtain ⟨a, b, rfl, hl, q⟩ := h
    refine ⟨_, (pss_cons (ps_set (i := 2) sc_carries.nd rfl (.inl rfl) (pe_op op_xor (pe_op op_xor (pv 0) (pv 1)) (pe_op op_add (pv 0) (pv 1))))
      (pss_one (ps_ret (pe_m1 PySem.F.slot_str_count PySem.F.type_str_count mt_count (pe_fmtB (pv 2)) pe_str)))), ?_⟩
    have e1 : Builtin.bitXor (Builtin.bitXor (a : Int) (b : Int)) ((a : Int) + (b : Int)) = ((plc a b : Nat) : Int) := by
      rw [Bits.bitXor_pp (x := (a : Int)) (by omega) (by omega), Bits.bitXor_pp (by omega) (by omega), Int.toNat_natCast, Int.toNat_natCast, Int.toNat_natCast, show ((a : Int) + (b : Int)).toNat = a + b by omega]
      rfl
    walk_at "rd"
    refine ⟨plc a b, congrArg V.int e1, Nat.le_trans (bin_len hl (by decide)) (by decide), ?_⟩
    refine ⟨⟨_, rfl⟩, ?_⟩
    walk_at "rd"
    exact q

def sp__law_carries (K : PySem.W.Frag) : Sp := fun vs H Q _ => ∃ (a b : Nat), vs = [.int a, .int b] ∧ ∀ H', Same H H' → Q (.int (crr 240 a b 0 : Int)) H'
theorem ok__law_carries {f : Addr} {fd : FuncData} (F : Fun K "_law_carries" "_law_carries" s__law_carries f fd) (m_range : mg "range" = none) (m_int : mg "int" = none) : FnOk P w K mg base CX0 1 f fd ["a", "b"] (sp__law_carries K) := by
  refine F.ok sc__law_carries (fun vs H Q E h => ?_) (fun cdv A outer s H vs Q E hr h => ?_)
  · obtain ⟨a, b, rfl, _⟩ := h
    rfl
  · obtain ⟨a, b, rfl, q⟩ := h
    refine ⟨_, (pss_cons (ps_asg (pe_tup (pa_cons pe_int (pa_cons pe_int pa_nil))) (pg_tup (by rfl) (pgs_cons (pg_name (i := 2) sc__law_carries.nd rfl (.inl rfl)) (pgs_cons (pg_name (i := 3) sc__law_carries.nd rfl (.inl rfl)) pgs_nil))))
      (pss_cons (ps_for PassesOwn.never rfl (pi_range1 (by rfl) m_range (pa_cons pe_int pa_nil)) (pg_name (i := 4) sc__law_carries.nd rfl (.inl rfl)) (pss_cons (ps_set (i := 5) sc__law_carries.nd rfl (.inl rfl) (pe_op op_add (pe_op op_add (pe_op op_mod (pe_callTy call_intI (by rfl) m_int (by decide +kernel) (pa_cons (pv 0) pa_nil)) pe_int) (pe_op op_mod (pe_callTy call_intI (by rfl) m_int (by decide +kernel) (pa_cons (pv 1) pa_nil)) pe_int)) (pv 3)))
      (pss_cons (ps_set (i := 3) sc__law_carries.nd rfl (.inl rfl) (pe_op op_fdivW (pv 5) pe_int))
      (pss_cons (ps_set (i := 2) sc__law_carries.nd rfl (.inl rfl) (pe_op op_add (pv 2) (pv 3)))
      (pss_cons (ps_set (i := 0) sc__law_carries.nd rfl (.inl rfl) (pe_op op_fdivW (pv 0) pe_int))
      (pss_one (ps_set (i := 1) sc__law_carries.nd rfl (.inl rfl) (pe_op op_fdivW (pv 1) pe_int))))))))
      (pss_one (ps_ret (pv 2))))), ?_⟩
    walk_at "rd"
    intro p np
    walk_at "rd"
    refine for_rng (n := 240) (fun k σ H' => ∃ (x y c t : Nat) (c4 c5 : Option V), σ = [some (.int x), some (.int y), some (.int t), some (.int c), c4, c5] ∧ c ≤ 1 ∧ t + crr (240 - k) x y c = crr 240 a b 0 ∧ Same H H') ?_ ?_ ?_
    · exact ⟨a, b, 0, 0, none, none, rfl, by omega, Nat.zero_add _, same_upd np⟩
    · intro k σ H1 hk hP
      obtain ⟨x, y, c, t, c4, c5, rfl, hc, ht, sH⟩ := hP
      walk_at "rd"
      obtain ⟨f, ef⟩ : ∃ f, 240 - k = f + 1 := ⟨239 - k, by omega⟩
      rw [show 240 - (k + 1) = f by omega]
      rw [ef] at ht
      refine ⟨x / 2, y / 2, (x % 2 + y % 2 + c) / 2, t + (x % 2 + y % 2 + c) / 2, _, _, rfl, by omega, ?_, sH⟩
      exact (Nat.add_assoc ..).trans ht
    · intro σ H1 hP
      obtain ⟨x, y, c, t, c4, c5, rfl, hc, ht, sH⟩ := hP
      walk_at "rd"
      have : t = crr 240 a b 0 := ht
      rw [this]
      exact q _ sH

def sp_is_under (K : PySem.W.Frag) : Sp := fun vs H Q _ => ∃ (a b : Nat), vs = [.int a, .int b] ∧ Q (.bl (a &&& b == a)) H
theorem ok_is_under {f : Addr} {fd : FuncData} (F : Fun K "is_under" "is_under" s_is_under f fd)  : FnOk P w K mg base CX0 1 f fd ["a", "b"] (sp_is_under K) := by
  refine F.ok sc_is_under (fun vs H Q E h => ?_) (fun cdv A outer s H vs Q E hr h => ?_)
  · obtain ⟨a, b, rfl, _⟩ := h
    rfl
  · obtain ⟨a, b, rfl, q⟩ := h
    refine ⟨_, (pss_one (ps_ret (pe_cmpR op_eq (pe_op op_and (pv 0) (pv 1)) (pv 0) (nomark _)))), ?_⟩
    walk_at "rd"
    have e1 : decide (V.int (Builtin.bitAnd (a : Int) (b : Int)) = V.int (a : Int)) = (a &&& b == a) := by
      rw [dV, bitAnd_pp (by omega) (by omega), Int.toNat_natCast, Int.toNat_natCast]
      by_cases c : a &&& b = a
      · rw [decide_eq_true (by rw [c])]
        exact (beq_iff_eq.mpr c).symm
      · rw [decide_eq_false (by omega)]
        exact (beq_eq_false_iff_ne.mpr c).symm
    rw [← e1] at q
    exact q

def sp__law_under (K : PySem.W.Frag) : Sp := fun vs H Q _ => ∃ (a b : Nat), vs = [.int a, .int b] ∧ Q (.bl (ndr 240 a b)) H
theorem ok__law_under {f : Addr} {fd : FuncData} (F : Fun K "_law_under" "_law_under" s__law_under f fd) (m_range : mg "range" = none) (m_int : mg "int" = none) : FnOk P w K mg base CX0 1 f fd ["a", "b"] (sp__law_under K) := by
  refine F.ok sc__law_under (fun vs H Q E h => ?_) (fun cdv A outer s H vs Q E hr h => ?_)
  · obtain ⟨a, b, rfl, _⟩ := h
    rfl
  · obtain ⟨a, b, rfl, q⟩ := h
    refine ⟨_, (pss_cons (ps_for PassesOwn.never rfl (pi_range1 (by rfl) m_range (pa_cons pe_int pa_nil)) (pg_name (i := 2) sc__law_under.nd rfl (.inl rfl)) (pss_cons (ps_if (pt_cmpR op_gt (pe_op op_mod (pe_callTy call_intI (by rfl) m_int (by decide +kernel) (pa_cons (pv 0) pa_nil)) pe_int) (pe_op op_mod (pe_callTy call_intI (by rfl) m_int (by decide +kernel) (pa_cons (pv 1) pa_nil)) pe_int) (nomark _)) (pss_one (ps_ret pe_bl)) pss_nil)
      (pss_cons (ps_set (i := 0) sc__law_under.nd rfl (.inl rfl) (pe_op op_fdivW (pv 0) pe_int))
      (pss_one (ps_set (i := 1) sc__law_under.nd rfl (.inl rfl) (pe_op op_fdivW (pv 1) pe_int))))))
      (pss_one (ps_ret pe_bl))), ?_⟩
    walk_at "rd"
    refine for_rng (n := 240) (fun k σ H' => ∃ (x y : Nat) (c2 : Option V), σ = [some (.int x), some (.int y), c2] ∧ ndr (240 - k) x y = ndr 240 a b ∧ H' = H) ?_ ?_ ?_
    · exact ⟨a, b, none, rfl, rfl, rfl⟩
    · intro k σ H1 hk hP
      obtain ⟨x, y, c2, rfl, ht, rfl⟩ := hP
      walk_at "rd"
      obtain ⟨f, ef⟩ : ∃ f, 240 - k = f + 1 := ⟨239 - k, by omega⟩
      have hn : ndr (240 - k) x y = (!(decide (x % 2 > y % 2)) && ndr f (x / 2) (y / 2)) := by rw [ef]; rfl
      rw [show 240 - (k + 1) = f by omega]
      refine ite2 (fun e => ?_) (fun e => ?_)
      · have e1 : x % 2 > y % 2 := by
          have : (x : Int) % 2 > (y : Int) % 2 := of_decide_eq_true e
          omega
        rw [decide_eq_true e1] at hn
        have : ndr 240 a b = false := by rw [← ht, hn]; rfl
        rw [this] at q
        walk_at "rd"
        exact q
      · have e1 : ¬ x % 2 > y % 2 := fun l => e (decide_eq_true (by omega))
        rw [decide_eq_false e1] at hn
        walk_at "rd"
        refine ⟨?_, rfl⟩
        rw [← ht, hn]
        rfl
    · intro σ H1 hP
      obtain ⟨x, y, c2, rfl, ht, rfl⟩ := hP
      walk_at "rd"
      have : true = ndr 240 a b := ht
      rw [← this] at q
      exact q

def sp_twos (K : PySem.W.Frag) : Sp := fun vs H Q _ => ∃ (n : Nat), vs = [.int n] ∧ Q (.int (tw n)) H
theorem ok_twos {f : Addr} {fd : FuncData} (F : Fun K "twos" "twos" s_twos f fd)  : FnOk P w K mg base CX0 1 f fd ["n"] (sp_twos K) := by
  refine F.ok sc_twos (fun vs H Q E h => ?_) (fun cdv A outer s H vs Q E hr h => ?_)
  · obtain ⟨n, rfl, _⟩ := h
    rfl
  · obtain ⟨n, rfl, q⟩ := h
    refine ⟨_, (pss_one (ps_ret (pe_op op_sub (pe_bits (pe_op op_and (pv 0) (pe_un un_neg (pv 0)))) pe_int))), ?_⟩
    walk_at "rd"
    exact q

def sp_law (K : PySem.W.Frag) : Sp := fun vs H Q _ => ∃ (a : Addr) (ns : List Int), vs = [.ref a] ∧ SqL K H a (ns.map V.int) ∧ ns.length ≤ 63 ∧ ∀ H', Q (.bl true) H'
theorem ok_law {f : Addr} {fd : FuncData} (F : Fun K "law" "law" s_law f fd) (C__law_draws : Cal P w K mg base "_law_draws" 1 ["script", "many"] (sp__law_draws K)) (C__law_row : Cal P w K mg base "_law_row" 1 ["n"] (sp__law_row K)) (C__law_is_number : Cal P w K mg base "_law_is_number" 1 ["value"] (sp__law_is_number K)) (C_binomial : Cal P w K mg base "binomial" 1 ["n", "k"] (sp_binomial K)) (C__law_great : Cal P w K mg base "_law_great" 1 ["draws", "at"] (sp__law_great K)) (C_carries : Cal P w K mg base "carries" 1 ["a", "b"] (sp_carries K)) (C__law_carries : Cal P w K mg base "_law_carries" 1 ["a", "b"] (sp__law_carries K)) (C_is_under : Cal P w K mg base "is_under" 1 ["a", "b"] (sp_is_under K)) (C__law_under : Cal P w K mg base "_law_under" 1 ["a", "b"] (sp__law_under K)) (C_twos : Cal P w K mg base "twos" 1 ["n"] (sp_twos K)) (m_range : mg "range" = none) : FnOk P w K mg base CX0 2 f fd ["script"] (sp_law K) := by
  refine F.ok sc_law (fun vs H Q E h => ?_) (fun cdv A outer s H vs Q E hr h => ?_)
  · obtain ⟨a, ns, rfl, _⟩ := h
    rfl
  · obtain ⟨sa, ns, rfl, hS, hlen, q⟩ := h
    refine ⟨_, (pss_cons (ps_set (i := 1) sc_law.nd rfl (.inl rfl) (pe_cal C__law_draws hr (by rfl) (pa_cons (pv 0) (pa_cons pe_int pa_nil))))
      (pss_cons (ps_par (by rfl) sc_law.nd (i := 2) (j := 3) rfl rfl (by decide) rfl rfl (pa_cons (pe_op op_mod (pe_ix ix_list (pv 1) pe_int (fun _ _ => rfl)) pe_int) (pa_cons (pe_op op_mod (pe_ix ix_list (pv 1) pe_int (fun _ _ => rfl)) pe_int) pa_nil)) (by rfl))
      (pss_cons (ps_set (i := 4) sc_law.nd rfl (.inl rfl) (pe_cal C__law_row hr (by rfl) (pa_cons (pv 2) pa_nil)))
      (pss_cons (ps_set (i := 5) sc_law.nd rfl (.inl rfl) pe_int)
      (pss_cons (ps_if (pt_cmpR op_le (pv 3) (pv 2) (nomark _)) (pss_one (ps_set (i := 5) sc_law.nd rfl (.inl rfl) (pe_ix ix_list (pv 4) (pv 3) (fun _ _ => rfl)))) pss_nil)
      (pss_cons (ps_if (PW.pt (pw_or (pt_not (pt_val (pe_cal C__law_is_number hr (by rfl) (pa_cons (pe_cal C_binomial hr (by rfl) (pa_cons (pv 2) (pa_cons (pv 3) pa_nil))) pa_nil)))) (pw_or (pt_cmpR op_ne (pe_cal C_binomial hr (by rfl) (pa_cons (pv 2) (pa_cons (pv 3) pa_nil))) (pv 5) (nomark _)) (pw_or (pt_cmpR op_ne (pe_cal C_binomial hr (by rfl) (pa_cons (pv 2) (pa_cons pe_int pa_nil))) pe_int (nomark _)) (pw_or1 (pt_cmpR op_ne (pe_cal C_binomial hr (by rfl) (pa_cons pe_int (pa_cons (pe_op op_add (pv 3) pe_int) pa_nil))) pe_int (nomark _))))))) (pss_one (ps_ret pe_bl)) pss_nil)
      (pss_cons (ps_par (by rfl) sc_law.nd (i := 6) (j := 7) rfl rfl (by decide) rfl rfl (pa_cons (pv 2) (pa_cons (pv 3) pa_nil)) (by rfl))
      (pss_cons (ps_if (pt_cmpR op_eq (pe_op op_mod (pe_ix ix_list (pv 1) pe_int (fun _ _ => rfl)) pe_int) pe_int (nomark _)) (pss_cons (ps_par (by rfl) sc_law.nd (i := 6) (j := 7) rfl rfl (by decide) rfl rfl (pa_cons (pe_cal C__law_great hr (by rfl) (pa_cons (pv 1) (pa_cons pe_int pa_nil))) (pa_cons (pe_cal C__law_great hr (by rfl) (pa_cons (pv 1) (pa_cons pe_int pa_nil))) pa_nil)) (by rfl))
      (pss_one (ps_if (pt_cmpR op_eq (pe_op op_mod (pe_ix ix_list (pv 1) pe_int (fun _ _ => rfl)) pe_int) pe_int (nomark _)) (pss_one (ps_set (i := 6) sc_law.nd rfl (.inl rfl) (pe_op op_and (pv 6) (pv 7)))) pss_nil))) pss_nil)
      (pss_cons (ps_if (PW.pt (pw_or (pt_not (pt_val (pe_cal C__law_is_number hr (by rfl) (pa_cons (pe_cal C_carries hr (by rfl) (pa_cons (pv 6) (pa_cons (pv 7) pa_nil))) pa_nil)))) (pw_or (pt_cmpR op_ne (pe_cal C_carries hr (by rfl) (pa_cons (pv 6) (pa_cons (pv 7) pa_nil))) (pe_cal C__law_carries hr (by rfl) (pa_cons (pv 6) (pa_cons (pv 7) pa_nil))) (nomark _)) (pw_or1 (pt_cmpR op_ne (pe_cal C_carries hr (by rfl) (pa_cons (pv 6) (pa_cons pe_int pa_nil))) pe_int (nomark _)))))) (pss_one (ps_ret pe_bl)) pss_nil)
      (pss_cons (ps_if (PW.pt (pw_or (pt_cmpR op_ne (pe_cal C_is_under hr (by rfl) (pa_cons (pv 6) (pa_cons (pv 7) pa_nil))) (pe_cal C__law_under hr (by rfl) (pa_cons (pv 6) (pa_cons (pv 7) pa_nil))) (nomark _)) (pw_or (pt_cmpR op_notBl (pe_cal C_is_under hr (by rfl) (pa_cons pe_int (pa_cons (pv 7) pa_nil))) pe_bl (nomark _)) (pw_or1 (pt_cmpR op_notBl (pe_cal C_is_under hr (by rfl) (pa_cons (pe_op op_add (pv 7) pe_int) (pa_cons pe_int pa_nil))) pe_bl (nomark _)))))) (pss_one (ps_ret pe_bl)) pss_nil)
      (pss_cons (ps_set (i := 8) sc_law.nd rfl (.inl rfl) (pe_op op_mod (pe_ix ix_list (pv 1) pe_int (fun _ _ => rfl)) pe_int))
      (pss_cons (ps_set (i := 9) sc_law.nd rfl (.inl rfl) (pe_op op_add (pe_op op_mulX pe_int (pe_cal C__law_great hr (by rfl) (pa_cons (pv 1) (pa_cons pe_int pa_nil)))) pe_int))
      (pss_cons (ps_for PassesOwn.never rfl (pi_range1 (by rfl) m_range (pa_cons (pv 8) pa_nil)) (pg_name (i := 10) sc_law.nd rfl (.inl rfl)) (pss_one (ps_set (i := 9) sc_law.nd rfl (.inl rfl) (pe_op op_mulX (pv 9) pe_int))))
      (pss_one (ps_ret (pe_and (pe_cal C__law_is_number hr (by rfl) (pa_cons (pe_cal C_twos hr (by rfl) (pa_cons (pv 9) pa_nil)) pa_nil)) (pe_and (pe_cmpR op_eq (pe_cal C_twos hr (by rfl) (pa_cons (pv 9) pa_nil)) (pv 8) (nomark _)) (pe_one (pe_cmpR op_eq (pe_cal C_twos hr (by rfl) (pa_cons pe_int pa_nil)) pe_int (nomark _)))))))))))))))))))), ?_⟩
    walk_at "rd"
    refine ⟨_, _, 60, rfl, hS, by decide, fun H1 D ds s1 f1 hD hl hd => ?_⟩
    walk_at "rd"
    obtain ⟨dd, hdd⟩ : ∃ dd : Nat → Nat, ∀ j, j < 60 → (ds.map V.int)[j]? = some (V.int (dd j : Int)) := by
      refine ⟨fun j => (ds.getD j 0).toNat, fun j hj => ?_⟩
      have h1 : ds[j]? = some (ds[j]'(by omega)) := List.getElem?_eq_getElem (by omega)
      have h2 := hd _ (List.mem_of_getElem? h1)
      show _ = some (V.int (((ds.getD j 0).toNat : Nat) : Int))
      rw [List.getD_eq_getElem?_getD, List.getElem?_map, h1]
      show some (V.int _) = some (V.int _)
      congr 2
      show _ = (((ds[j]'(by omega)).toNat : Nat) : Int)
      omega
    refine ixL_as (.inl (.inl hD)) (at_of (j := 0) (by omega) (hdd 0 (by omega))) ?_
    walk_at "rd"
    refine ixL_as (.inl (.inl hD)) (at_of (j := 1) (by omega) (hdd 1 (by omega))) ?_
    walk_at "rd"
    obtain ⟨n, en⟩ : ∃ n : Nat, n = dd 0 % Int.natAbs 61 := ⟨_, rfl⟩
    have eni : (dd 0 : Int) % 61 = (n : Int) := by
      rw [en]
      show (dd 0 : Int) % 61 = ((dd 0 % 61 : Nat) : Int)
      omega
    obtain ⟨k, ek⟩ : ∃ k : Nat, (dd 1 : Int) % 61 = (k : Int) := ⟨dd 1 % 61, by omega⟩
    have hn : n ≤ 60 := by omega
    have hk : k ≤ 60 := by omega
    rw [← en]
    dsimp only
    rw [eni, ek]
    refine ⟨hn, fun H2 R s2 hR => ?_⟩
    have hD2 := s2 _ _ hD
    have hd0 : ∀ d ∈ ds, 0 ≤ d := fun d hx => (hd d hx).1
    walk_at "rd"
    refine split_if (fun σ' H' => σ' = [some (.ref sa), some (.ref D), some (.int n), some (.int k), some (.ref R), some (.int (ch n k : Int)), none, none, none, none, none] ∧ H' = H2) ?_ ?_
    · intro σ' H' hP
      obtain ⟨rfl, rfl⟩ := hP
      walk_at "rd"
      have ch0 : ∀ m, ch m 0 = 1 := fun m => by cases m <;> rfl
      refine ite2 (fun e => absurd e (ne_self rfl)) (fun _ => ?_)
      walk_at "rd"
      refine ite2 (fun e => absurd e (ne_self (congrArg V.int (by rw [ch0]; rfl)))) (fun _ => ?_)
      walk_at "rd"
      refine ixL_as (.inl (.inl hD2)) (at_of (j := 2) (by omega) (hdd 2 (by omega))) ?_
      walk_at "rd"
      refine split_if (fun σ' H'' => ∃ a b : Nat, σ' = [some (.ref sa), some (.ref D), some (.int n), some (.int k), some (.ref R), some (.int (ch n k : Int)), some (.int a), some (.int b), none, none, none] ∧ a < 2 ^ 230 ∧ b < 2 ^ 230 ∧ H'' = H') ?_ ?_
      · intro σ' H3 hP
        obtain ⟨a, b, rfl, ha, hb, rfl⟩ := hP
        walk_at "rd"
        have ep : plc a b < 2 ^ 1000 := Nat.xor_lt_two_pow (Nat.xor_lt_two_pow (by omega) (by omega)) (by omega)
        have e1 := ones_crr (a := a) (b := b) (by omega) (by omega)
        have e2 : ndr 240 a b = (a &&& b == a) := ndr_and 240 a b (by omega)
        walk_at "rd"
        intro H4 s4
        have hD4 := s4 _ _ hD2
        walk_at "rd"
        refine ite2 (fun e => absurd e (ne_self (congrArg V.int e1))) (fun _ => ?_)
        have e0 : plc a 0 = 0 := by
          unfold plc
          rw [Nat.xor_zero, Nat.add_zero, Nat.xor_self]
        have e00 : ones 0 = 0 := ones_pop (p := 0) (by decide)
        walk_at "rd"
        refine ⟨by rw [e0]; exact Nat.two_pow_pos _, ?_⟩
        walk_at "rd"
        refine ite2 (fun e => absurd e (ne_self (congrArg V.int (show ones (plc a 0) = 0 by rw [e0]; exact e00)))) (fun _ => ?_)
        walk_at "rd"
        refine ite2 (fun e => absurd e (ne_self (congrArg V.bl e2.symm))) (fun _ => ?_)
        walk_at "rd"
        have u1 : (0 &&& b == 0) = true := by
          rw [Nat.zero_and]
          rfl
        have u2 : (b + 1 &&& 0 == b + 1) = false := by
          rw [Nat.and_zero]
          exact beq_eq_false_iff_ne.mpr (by omega)
        refine ite2 (fun e => absurd e (by rw [u1]; decide)) (fun _ => ?_)
        walk_at "rd"
        refine ite2 (fun e => absurd e (by rw [u2]; decide)) (fun _ => ?_)
        walk_at "rd"
        refine ixL_as (.inl (.inl hD4)) (at_of (j := 52) (by omega) (hdd 52 (by omega))) ?_
        walk_at "rd"
        refine ⟨D, ds, 30, rfl, by omega, hD4, hd0, fun N hN => ?_⟩
        have sN : Sm 230 (N : Int) := by
          unfold Sm
          rw [Int.natAbs_natCast]
          exact Nat.lt_trans hN (Nat.pow_lt_pow_right (by decide) (by decide))
        walk_at "rd"
        refine for_rng (n := dd 52 % 90) (fun j σ H5 => ∃ (c10 : Option V), σ = [some (.ref sa), some (.ref D), some (.int n), some (.int k), some (.ref R), some (.int (ch n k : Int)), some (.int a), some (.int b), some (.int ((dd 52 % 90 : Nat) : Int)), some (.int (((2 * N + 1) * 2 ^ j : Nat) : Int)), c10] ∧ H5 = H4) ?_ ?_ ?_
        · refine ⟨none, ?_, rfl⟩
          rw [Nat.pow_zero, Nat.mul_one]
          rfl
        · intro j σ H5 hj hP
          obtain ⟨c10, rfl, rfl⟩ := hP
          have so : Sm 400 (((2 * N + 1) * 2 ^ j : Nat) : Int) := by
            unfold Sm
            rw [Int.natAbs_natCast]
            have h1 : (2 * N + 1) * 2 ^ j ≤ (2 * N + 1) * 2 ^ 90 := Nat.mul_le_mul_left _ (Nat.pow_le_pow_right (by decide) (by omega))
            have h2 : (2 * N + 1) * 2 ^ 90 < 2 ^ 230 * 2 ^ 90 := Nat.mul_lt_mul_of_pos_right (by omega) (by decide)
            exact Nat.lt_of_le_of_lt h1 (Nat.lt_trans h2 (by decide))
          walk_at "rd"
          refine ⟨some (V.int (j : Int)), ?_, rfl⟩
          rw [show (((2 * N + 1) * 2 ^ (j + 1) : Nat) : Int) = (((2 * N + 1) * 2 ^ j : Nat) : Int) * 2 by
            rw [Nat.pow_succ, ← Nat.mul_assoc, Int.natCast_mul ((2 * N + 1) * 2 ^ j) 2]
            rfl]
          rfl
        intro σ H5 hP
        obtain ⟨c10, rfl, rfl⟩ := hP
        have t1 := tw_odd N (dd 52 % 90)
        have t2 : tw 1 = 0 := tw_odd 0 0
        walk_at "rd"
        rw [if_pos (decide_eq_true (congrArg V.int t1))]
        walk_at "rd"
        have t3 : decide (V.int (tw 1) = V.int 0) = true := decide_eq_true (congrArg V.int t2)
        rw [t3]
        exact q _
      intro D' hD'
      have fin2 : ∀ (N1 N2 : Nat), N1 < 2 ^ 230 → N2 < 2 ^ 230 → D'.nx [some (.ref sa), some (.ref D), some (.int n), some (.int k), some (.ref R), some (.int (ch n k : Int)), some (.int N1), some (.int N2), none, none, none] H' := fun N1 N2 h1 h2 => hD' _ _ ⟨N1, N2, rfl, h1, h2, rfl⟩
      refine ite2 (fun e => ?_) (fun e => ?_)
      · walk_at "rd"
        refine ⟨D, ds, 3, rfl, by omega, hD2, hd0, fun N1 h1 => ?_⟩
        walk_at "rd"
        refine ⟨D, ds, 30, rfl, by omega, hD2, hd0, fun N2 h2 => ?_⟩
        walk_at "rd"
        refine ixL_as (.inl (.inl hD2)) (at_of (j := 51) (by omega) (hdd 51 (by omega))) ?_
        walk_at "rd"
        refine ite2 (fun e => ?_) (fun e => ?_)
        · walk_at "rd"
          have f3 := fin2 (N1 &&& N2) N2 (Nat.lt_of_le_of_lt Nat.and_le_left (by omega)) (by omega)
          rw [show ((N1 &&& N2 : Nat) : Int) = Builtin.bitAnd (N1 : Int) (N2 : Int) by
            rw [bitAnd_pp (by omega) (by omega)]
            rfl] at f3
          exact f3
        · exact fin2 N1 N2 (by omega) (by omega)
      · exact fin2 n k (by omega) (by omega)
    intro D' hD'
    refine ite2 (fun e => ?_) (fun e => ?_)
    · have hkn : k ≤ n := by
        have := of_decide_eq_true e
        omega
      walk_at "rd"
      refine ixL_as (.inl (.inl hR)) (at_of (j := k) rfl (rowV_at (by omega))) ?_
      exact hD' _ _ ⟨rfl, rfl⟩
    · have hkn : n < k := by
        have : ¬ (k : Int) ≤ (n : Int) := fun l => e (decide_eq_true l)
        omega
      refine hD' _ _ ⟨?_, rfl⟩
      rw [ch_gt n k hkn]
      rfl

end
end RR

namespace RR
open PySem PySem.Spec PyProof.Rows L2
theorem all_mk {l : PySem.W.OpenLaw} {w : World} {K : PySem.W.Frag} {h : Heap} {mg : Str → Option Value} {fa : Addr} (X : K.In h) (G : h.Ns mainGlobals mg) (hfa : mg "law" = some (.ref fa))
    {f0 : Addr} {od0 an0 : Option Addr} {sl0 : Array (Option Value)} {oc0 kV0 dc0 pm0 cd0 ct0 : Value}
    {f1 : Addr} {od1 an1 : Option Addr} {sl1 : Array (Option Value)} {oc1 kV1 dc1 pm1 cd1 ct1 : Value}
    {f2 : Addr} {od2 an2 : Option Addr} {sl2 : Array (Option Value)} {oc2 kV2 dc2 pm2 cd2 ct2 : Value}
    {f3 : Addr} {od3 an3 : Option Addr} {sl3 : Array (Option Value)} {oc3 kV3 dc3 pm3 cd3 ct3 : Value}
    {f4 : Addr} {od4 an4 : Option Addr} {sl4 : Array (Option Value)} {oc4 kV4 dc4 pm4 cd4 ct4 : Value}
    {f5 : Addr} {od5 an5 : Option Addr} {sl5 : Array (Option Value)} {oc5 kV5 dc5 pm5 cd5 ct5 : Value}
    {f6 : Addr} {od6 an6 : Option Addr} {sl6 : Array (Option Value)} {oc6 kV6 dc6 pm6 cd6 ct6 : Value}
    {f7 : Addr} {od7 an7 : Option Addr} {sl7 : Array (Option Value)} {oc7 kV7 dc7 pm7 cd7 ct7 : Value}
    {f8 : Addr} {od8 an8 : Option Addr} {sl8 : Array (Option Value)} {oc8 kV8 dc8 pm8 cd8 ct8 : Value}
    {f9 : Addr} {od9 an9 : Option Addr} {sl9 : Array (Option Value)} {oc9 kV9 dc9 pm9 cd9 ct9 : Value}
    {f10 : Addr} {od10 an10 : Option Addr} {sl10 : Array (Option Value)} {oc10 kV10 dc10 pm10 cd10 ct10 : Value}
    (a0 : PySem.W.nsIn K mainGlobals "_law_draws" = some (some (.ref f0)))
    (l0 : K.lookup f0 = some ⟨oc0, od0, .func (PySem.W.fnOf "_law_draws" "_law_draws" (defArgs s__law_draws) (defBody s__law_draws) (defScope s__law_draws) .none kV0 dc0 pm0 an0 cd0 ct0), sl0⟩)
    (c0 : PySem.W.codeIn K cd0 "_law_draws" = true) (k0 : PySem.W.keepIn K (.ref f0) = true)
    (a1 : PySem.W.nsIn K mainGlobals "_law_row" = some (some (.ref f1)))
    (l1 : K.lookup f1 = some ⟨oc1, od1, .func (PySem.W.fnOf "_law_row" "_law_row" (defArgs s__law_row) (defBody s__law_row) (defScope s__law_row) .none kV1 dc1 pm1 an1 cd1 ct1), sl1⟩)
    (c1 : PySem.W.codeIn K cd1 "_law_row" = true) (k1 : PySem.W.keepIn K (.ref f1) = true)
    (a2 : PySem.W.nsIn K mainGlobals "_law_is_number" = some (some (.ref f2)))
    (l2 : K.lookup f2 = some ⟨oc2, od2, .func (PySem.W.fnOf "_law_is_number" "_law_is_number" (defArgs s__law_is_number) (defBody s__law_is_number) (defScope s__law_is_number) .none kV2 dc2 pm2 an2 cd2 ct2), sl2⟩)
    (c2 : PySem.W.codeIn K cd2 "_law_is_number" = true) (k2 : PySem.W.keepIn K (.ref f2) = true)
    (a3 : PySem.W.nsIn K mainGlobals "binomial" = some (some (.ref f3)))
    (l3 : K.lookup f3 = some ⟨oc3, od3, .func (PySem.W.fnOf "binomial" "binomial" (defArgs s_binomial) (defBody s_binomial) (defScope s_binomial) .none kV3 dc3 pm3 an3 cd3 ct3), sl3⟩)
    (c3 : PySem.W.codeIn K cd3 "binomial" = true) (k3 : PySem.W.keepIn K (.ref f3) = true)
    (a4 : PySem.W.nsIn K mainGlobals "_law_great" = some (some (.ref f4)))
    (l4 : K.lookup f4 = some ⟨oc4, od4, .func (PySem.W.fnOf "_law_great" "_law_great" (defArgs s__law_great) (defBody s__law_great) (defScope s__law_great) .none kV4 dc4 pm4 an4 cd4 ct4), sl4⟩)
    (c4 : PySem.W.codeIn K cd4 "_law_great" = true) (k4 : PySem.W.keepIn K (.ref f4) = true)
    (a5 : PySem.W.nsIn K mainGlobals "carries" = some (some (.ref f5)))
    (l5 : K.lookup f5 = some ⟨oc5, od5, .func (PySem.W.fnOf "carries" "carries" (defArgs s_carries) (defBody s_carries) (defScope s_carries) .none kV5 dc5 pm5 an5 cd5 ct5), sl5⟩)
    (c5 : PySem.W.codeIn K cd5 "carries" = true) (k5 : PySem.W.keepIn K (.ref f5) = true)
    (a6 : PySem.W.nsIn K mainGlobals "_law_carries" = some (some (.ref f6)))
    (l6 : K.lookup f6 = some ⟨oc6, od6, .func (PySem.W.fnOf "_law_carries" "_law_carries" (defArgs s__law_carries) (defBody s__law_carries) (defScope s__law_carries) .none kV6 dc6 pm6 an6 cd6 ct6), sl6⟩)
    (c6 : PySem.W.codeIn K cd6 "_law_carries" = true) (k6 : PySem.W.keepIn K (.ref f6) = true)
    (a7 : PySem.W.nsIn K mainGlobals "is_under" = some (some (.ref f7)))
    (l7 : K.lookup f7 = some ⟨oc7, od7, .func (PySem.W.fnOf "is_under" "is_under" (defArgs s_is_under) (defBody s_is_under) (defScope s_is_under) .none kV7 dc7 pm7 an7 cd7 ct7), sl7⟩)
    (c7 : PySem.W.codeIn K cd7 "is_under" = true) (k7 : PySem.W.keepIn K (.ref f7) = true)
    (a8 : PySem.W.nsIn K mainGlobals "_law_under" = some (some (.ref f8)))
    (l8 : K.lookup f8 = some ⟨oc8, od8, .func (PySem.W.fnOf "_law_under" "_law_under" (defArgs s__law_under) (defBody s__law_under) (defScope s__law_under) .none kV8 dc8 pm8 an8 cd8 ct8), sl8⟩)
    (c8 : PySem.W.codeIn K cd8 "_law_under" = true) (k8 : PySem.W.keepIn K (.ref f8) = true)
    (a9 : PySem.W.nsIn K mainGlobals "twos" = some (some (.ref f9)))
    (l9 : K.lookup f9 = some ⟨oc9, od9, .func (PySem.W.fnOf "twos" "twos" (defArgs s_twos) (defBody s_twos) (defScope s_twos) .none kV9 dc9 pm9 an9 cd9 ct9), sl9⟩)
    (c9 : PySem.W.codeIn K cd9 "twos" = true) (k9 : PySem.W.keepIn K (.ref f9) = true)
    (a10 : PySem.W.nsIn K mainGlobals "law" = some (some (.ref f10)))
    (l10 : K.lookup f10 = some ⟨oc10, od10, .func (PySem.W.fnOf "law" "law" (defArgs s_law) (defBody s_law) (defScope s_law) .none kV10 dc10 pm10 an10 cd10 ct10), sl10⟩)
    (c10 : PySem.W.codeIn K cd10 "law" = true) (k10 : PySem.W.keepIn K (.ref f10) = true)
    (z_range : PySem.W.nsIn K mainGlobals "range" = some none)
    (z_abs : PySem.W.nsIn K mainGlobals "abs" = some none)
    (z_len : PySem.W.nsIn K mainGlobals "len" = some none)
    (z_int : PySem.W.nsIn K mainGlobals "int" = some none)
    (z_isinstance : PySem.W.nsIn K mainGlobals "isinstance" = some none)
    (z_bool : PySem.W.nsIn K mainGlobals "bool" = some none)
    (z_comb : PySem.W.nsIn K mainGlobals "comb" = some (some (.builtin "math.comb")))
    : ∃ fd : FuncData, (∀ (s : Shared) (v : Value), BindsTo s fd ⟨[v], []⟩ [("script", v)]) ∧ ∀ base : Heap, K.In base → base.Ns mainGlobals mg → FnOk l.prog w K mg base CX0 2 fa fd ["script"] (sp_law K) := by
  have e := hfa.symm.trans (PySem.W.mg_of X G a10)
  cases e
  have F0 := fun_mk (st := s__law_draws) l0 c0 k0
  have F1 := fun_mk (st := s__law_row) l1 c1 k1
  have F2 := fun_mk (st := s__law_is_number) l2 c2 k2
  have F3 := fun_mk (st := s_binomial) l3 c3 k3
  have F4 := fun_mk (st := s__law_great) l4 c4 k4
  have F5 := fun_mk (st := s_carries) l5 c5 k5
  have F6 := fun_mk (st := s__law_carries) l6 c6 k6
  have F7 := fun_mk (st := s_is_under) l7 c7 k7
  have F8 := fun_mk (st := s__law_under) l8 c8 k8
  have F9 := fun_mk (st := s_twos) l9 c9 k9
  have F10 := fun_mk (st := s_law) l10 c10 k10
  have b0 := F0.binds (ps := ["script", "many"]) fun _ _ _ _ _ _ us hl => match us, hl with | [_, _], _ => rfl
  have b1 := F1.binds (ps := ["n"]) fun _ _ _ _ _ _ us hl => match us, hl with | [_], _ => rfl
  have b2 := F2.binds (ps := ["value"]) fun _ _ _ _ _ _ us hl => match us, hl with | [_], _ => rfl
  have b3 := F3.binds (ps := ["n", "k"]) fun _ _ _ _ _ _ us hl => match us, hl with | [_, _], _ => rfl
  have b4 := F4.binds (ps := ["draws", "at"]) fun _ _ _ _ _ _ us hl => match us, hl with | [_, _], _ => rfl
  have b5 := F5.binds (ps := ["a", "b"]) fun _ _ _ _ _ _ us hl => match us, hl with | [_, _], _ => rfl
  have b6 := F6.binds (ps := ["a", "b"]) fun _ _ _ _ _ _ us hl => match us, hl with | [_, _], _ => rfl
  have b7 := F7.binds (ps := ["a", "b"]) fun _ _ _ _ _ _ us hl => match us, hl with | [_, _], _ => rfl
  have b8 := F8.binds (ps := ["a", "b"]) fun _ _ _ _ _ _ us hl => match us, hl with | [_, _], _ => rfl
  have b9 := F9.binds (ps := ["n"]) fun _ _ _ _ _ _ us hl => match us, hl with | [_], _ => rfl
  refine ⟨PySem.W.fnOf "law" "law" (defArgs s_law) (defBody s_law) (defScope s_law) .none kV10 dc10 pm10 an10 cd10 ct10, fun s v => .of_eq rfl, fun base _ _ => ?_⟩
  have m_range := PySem.W.mg_none_of X G z_range
  have m_abs := PySem.W.mg_none_of X G z_abs
  have m_len := PySem.W.mg_none_of X G z_len
  have m_int := PySem.W.mg_none_of X G z_int
  have m_isinstance := PySem.W.mg_none_of X G z_isinstance
  have m_bool := PySem.W.mg_none_of X G z_bool
  have m_comb := PySem.W.mg_of X G z_comb
  have C__law_draws : Cal l.prog w K mg base "_law_draws" 1 ["script", "many"] (sp__law_draws K) := ⟨_, _, ok__law_draws F0 m_range m_abs m_len m_int, PySem.W.mg_of X G a0, F0.kp, b0⟩
  have C__law_row : Cal l.prog w K mg base "_law_row" 1 ["n"] (sp__law_row K) := ⟨_, _, ok__law_row F1 m_range m_len, PySem.W.mg_of X G a1, F1.kp, b1⟩
  have C__law_is_number : Cal l.prog w K mg base "_law_is_number" 1 ["value"] (sp__law_is_number K) := ⟨_, _, ok__law_is_number F2 m_isinstance m_int m_bool, PySem.W.mg_of X G a2, F2.kp, b2⟩
  have C_binomial : Cal l.prog w K mg base "binomial" 1 ["n", "k"] (sp_binomial K) := ⟨_, _, ok_binomial F3 m_comb, PySem.W.mg_of X G a3, F3.kp, b3⟩
  have C__law_great : Cal l.prog w K mg base "_law_great" 1 ["draws", "at"] (sp__law_great K) := ⟨_, _, ok__law_great F4 m_range, PySem.W.mg_of X G a4, F4.kp, b4⟩
  have C_carries : Cal l.prog w K mg base "carries" 1 ["a", "b"] (sp_carries K) := ⟨_, _, ok_carries F5 , PySem.W.mg_of X G a5, F5.kp, b5⟩
  have C__law_carries : Cal l.prog w K mg base "_law_carries" 1 ["a", "b"] (sp__law_carries K) := ⟨_, _, ok__law_carries F6 m_range m_int, PySem.W.mg_of X G a6, F6.kp, b6⟩
  have C_is_under : Cal l.prog w K mg base "is_under" 1 ["a", "b"] (sp_is_under K) := ⟨_, _, ok_is_under F7 , PySem.W.mg_of X G a7, F7.kp, b7⟩
  have C__law_under : Cal l.prog w K mg base "_law_under" 1 ["a", "b"] (sp__law_under K) := ⟨_, _, ok__law_under F8 m_range m_int, PySem.W.mg_of X G a8, F8.kp, b8⟩
  have C_twos : Cal l.prog w K mg base "twos" 1 ["n"] (sp_twos K) := ⟨_, _, ok_twos F9 , PySem.W.mg_of X G a9, F9.kp, b9⟩
  exact ok_law F10 C__law_draws C__law_row C__law_is_number C_binomial C__law_great C_carries C__law_carries C_is_under C__law_under C_twos m_range
end RR
open PySem PySem.W PyProof.Rows
set_option maxHeartbeats 0 in
theorem PySem.Challenge.cw_runroots_k20_binomials_and_carries_holds : PySem.Challenge.rw_runroots_k20_binomials_and_carries.Holds := by
  w_on; o_law; k_head; (case hw => w_witness2)
  k_fill
  refine L2.walk_of (l := PySem.Challenge.rw_runroots_k20_binomials_and_carries) (n := 63) (k := 2) (x := "script") (CX := fun _ => L2.CX0) (sp := fun w => RR.sp_law _) rfl (by decide) rfl ⟨rfl, by decide, by decide⟩ (fun w h Y => PySem.W.kIn_of Y) ?F (fun _ _ a ns hl _ hS => ⟨a, ns, rfl, hS, hl, fun _ => rfl⟩) (fun _ _ _ _ _ h => h)
  case F =>
    intro w mg fa h KX G hmg
    refine' RR.all_mk KX G hmg ?a0 ?l0 ?c0 ?k0 ?a1 ?l1 ?c1 ?k1 ?a2 ?l2 ?c2 ?k2 ?a3 ?l3 ?c3 ?k3 ?a4 ?l4 ?c4 ?k4 ?a5 ?l5 ?c5 ?k5 ?a6 ?l6 ?c6 ?k6 ?a7 ?l7 ?c7 ?k7 ?a8 ?l8 ?c8 ?k8 ?a9 ?l9 ?c9 ?k9 ?a10 ?l10 ?c10 ?k10 ?z_range ?z_abs ?z_len ?z_int ?z_isinstance ?z_bool ?z_comb
    (case a0 => k_is); (case l0 => k_is); (case c0 => k_is); (case k0 => k_is); (case a1 => k_is); (case l1 => k_is); (case c1 => k_is); (case k1 => k_is); (case a2 => k_is); (case l2 => k_is); (case c2 => k_is); (case k2 => k_is); (case a3 => k_is); (case l3 => k_is); (case c3 => k_is); (case k3 => k_is); (case a4 => k_is); (case l4 => k_is); (case c4 => k_is); (case k4 => k_is); (case a5 => k_is); (case l5 => k_is); (case c5 => k_is); (case k5 => k_is); (case a6 => k_is); (case l6 => k_is); (case c6 => k_is); (case k6 => k_is); (case a7 => k_is); (case l7 => k_is); (case c7 => k_is); (case k7 => k_is); (case a8 => k_is); (case l8 => k_is); (case c8 => k_is); (case k8 => k_is); (case a9 => k_is); (case l9 => k_is); (case c9 => k_is); (case k9 => k_is); (case a10 => k_is); (case l10 => k_is); (case c10 => k_is); (case k10 => k_is); (case z_range => k_is); (case z_abs => k_is); (case z_len => k_is); (case z_int => k_is); (case z_isinstance => k_is); (case z_bool => k_is); (case z_comb => k_is)
