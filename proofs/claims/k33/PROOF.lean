import PyProof.Rows.All
import PyProof.FString3
import PyProof.Rows.StrIntSpec
import HandS.ForMost
import HandS.FStr
import HandS.Wide
import HandS.WideBits
import HandS.Style
import HandS.Star
import HandS.RevRange
import HandS.EndBits
import HandS.IsInst
import HandS.Deep
import PySem.Challenge.RW_runroots_k33_what_divides_a_member
set_option Elab.async false
set_option linter.all false
set_option maxRecDepth 100000
set_option maxHeartbeats 16000000
namespace RR
open PySem PySem.Spec PyProof.Rows L2 PySem.Builtin PySem.Builtin.Float
/-- a number's signs to the base two -/
def binL (n : Nat) : List Nat := (Nat.toDigits 2 n).map Char.toNat
def binS (n : Nat) : Str := ⟨(binL n).toArray⟩
def specB : FormatSpec := { align := 62, type := some 98 }
theorem parse_b (k : String) : parseFormatSpec (Str.ofString "b").cps.toList k 62 = .ok specB := rfl
theorem field_b {D : List Nat} (hD : D ≠ []) : intField' specB false [] D [] 4 = ⟨D.toArray⟩ := by
  have e : D.isEmpty = false := by cases D with
    | nil => exact absurd rfl hD
    | cons _ _ => rfl
  have p : ((-1 : Int) - 0 - (D.length : Int)).toNat = 0 := by omega
  simp [intField', specB, e, p]
theorem binL_ne (n : Nat) : binL n ≠ [] := by
  intro h
  have h2 : Nat.toDigits 2 n = [] := List.map_eq_nil_iff.mp h
  have := Nat.length_toDigits_pos (b := 2) (n := n)
  rw [h2] at this
  exact absurd this (by simp)
section
variable {prog : Program} {w : World} {A : Around} {E : Value → Shared → Prop} {s : Shared}
theorem bin_spec {n : Nat} {t : Tok} {Q : Value → Shared → Prop} (hl : (binS n).length ≤ sizeLine)
    (h : Q (.str (binS n) (s.toks + 1)) { s with toks := s.toks + 1 + 1 }) : wpAny (model prog w) A (formatField (.int (n : Int) t) (Str.ofString "b")) Q E s := by
  show wpAny _ _ (holding [Value.int (n : Int) t] (pyFormat (Value.int (n : Int) t) (Str.ofString "b"))) Q E s
  refine wpAny_holding ?_
  unfold pyFormat
  refine wpAny_bind (wpAny_mkStr ?_ (by decide))
  refine wpAny_bind (m := callSpecial? (.int (n : Int) t) (Str.ofString "__format__") [.str (Str.ofString "b") s.toks])
    (wpAny_callSpecial?_slot (name := Str.ofString "__format__") (typeIs_int _ _ t) slot_int_format ?_)
  refine wpAny_call (codeAny_call_builtin slot_int_format.plain entry_int_format
    (slot_int_format.check _ _ _ _ _ _ _ _ (typeIs_int _ _ t) (args_int_format _ _) ?_))
  unfold Builtin.«int.__format__»
  simp only [selfAndOne, noKeywords, Int.intOfSelf, asInt?, asStr?, List.isEmpty_nil, if_true, pure_bind, bind_assoc, Bool.false_eq_true, if_false,
    show ((Str.ofString "b").length == 0) = false by decide,
    show (((Str.ofString "b").cps.toList.drop 1).any (· ≥ 128) || ((Str.ofString "b").cps.getD 0 0 ≥ 128 && !([60, 62, 61, 94] : List Nat).contains ((Str.ofString "b").cps.getD 1 0))) = false by decide,
    show (Value.str (Str.ofString "b") s.toks == Value.none) = false from rfl]
  refine wpAny_bind (wpAny_typeNameOf (T := "str") (typeIs_str _ _ _) (by decide) fun _ => ?_)
  refine wpAny_bind (wpAny_typeNameOfCut_int ?_)
  obtain ⟨f, hf⟩ : ∃ f, f = specB := ⟨_, rfl⟩
  have hty : f.type.getD (if (Str.ofString "b").cps.back? == some 0 then 0 else 100) = 98 := by rw [hf]; rfl
  have hpr : f.precision.isSome = false := by rw [hf]; rfl
  have hz : f.noNeg0 = false := by rw [hf]; rfl
  have hal : f.alt = false := by rw [hf]; rfl
  have hw : f.width.getD 0 = 0 := by rw [hf]; rfl
  simp only [parse_b, ← hf, hty]
  rw [if_pos (by decide)]
  show wpAny _ _ (if _ then _ else _) _ _ _
  rw [if_neg (by simp [hpr])]
  show wpAny _ _ (if _ then _ else _) _ _ _
  rw [if_neg (by simp [hz])]
  show wpAny _ _ (if _ then _ else _) _ _ _
  rw [if_neg (by decide)]
  show wpAny _ _ (if _ then _ else _) _ _ _
  rw [if_neg (by decide)]
  show wpAny _ _ (if _ then _ else _) _ _ _
  rw [if_neg (by simp [hw])]
  show wpAny _ _ (retStr _) _ _ _
  unfold retStr
  have hneg : decide ((n : Int) < 0) = false := decide_eq_false (by omega)
  have key : intField' f (decide ((n : Int) < 0)) (if f.alt = true then [] else []) ((Nat.toDigits 2 (n : Int).natAbs).map fun c => (if (98 : Nat) == 88 then c.toUpper else c).toNat) [] 4 = binS n := by
    rw [hneg, hf]
    exact field_b (binL_ne n)
  have hl2 := key ▸ hl
  have h2 := key ▸ h
  clear h hl
  subst hf
  refine wpAny_bind (wpAny_mkStr (wpAny_pure ?_) hl2)
  exact wpAny_bind (wpAny_isInstance (typeIs_str _ _ _) isSubtype_str_str (wpAny_pure h2))
end
end RR
namespace RR
open PySem PySem.Spec PyProof.Rows L2
section
variable {X : Cx}
/-- f'{x:b}' of an int from 0 on -/
def tFmtB (te : TE) : TE := fun σ H Q => te σ H fun x H1 => ∃ n : Nat, x = .int n ∧ (binS n).length ≤ sizeLine ∧ Q (.str (binS n)) H1
theorem pe_fmtB {e : Expr} {te : TE} {k : Nat} {p1 p2 p3 p4 : Pos} (he : PE X e te) :
    PE X (.JoinedStr [.FormattedValue e (-1) (some (.JoinedStr [.Constant (.str "b") k p1] p2)) p3] p4) (tFmtB te) := by
  refine pe_joined1 ⟨fun pins s σ H Q I h => ?_⟩
  refine wpAny_FormattedValue_spec (thn (he.run pins s σ H _ I h) fun v s1 hv => ?_)
  obtain ⟨x, H1, I1, r1, n, rfl, hl, q⟩ := hv
  obtain ⟨t, rfl⟩ := r1
  refine wpAny_JoinedStr_one (Calls.Constant_str ⟨_, _, rfl, ?_⟩)
  exact bin_spec hl ⟨.str (binS n), H1, (I1.tok _).tok _, ⟨_, rfl⟩, q⟩
end
end RR

namespace RR
open PySem PySem.Spec PyProof.Rows L2
/-- a def of the text, as callers see it -/
structure Cal (P : Program) (w : World) (K : PySem.W.Frag) (mg : Str → Option Value) (base : Heap) (x : Str) (k : Nat) (ps : List Str) (sp : Sp) : Prop where
  ex : ∃ (f : Addr) (fd : FuncData), FnOk P w K mg base L2.CX0 k f fd ps sp ∧ mg x = some (.ref f) ∧ PySem.W.keepIn K (.ref f) = true ∧ Binds K fd ps []
theorem Cal.mk' {P : Program} {w : World} {K : PySem.W.Frag} {mg : Str → Option Value} {base : Heap} {x : Str} {k : Nat} {ps : List Str} {sp : Sp} {f : Addr} {fd : FuncData}
    (F : FnOk P w K mg base L2.CX0 k f fd ps sp) (g : mg x = some (.ref f)) (kp : PySem.W.keepIn K (.ref f) = true) (b : Binds K fd ps []) : Cal P w K mg base x k ps sp := ⟨f, fd, F, g, kp, b⟩
section
variable {X : Cx}
def tCal (sp : Sp) (t : TA) : TE := fun σ H Q => t σ H fun vs H1 => sp vs H1 Q L2.E0
theorem pe_cal {x : Str} {k : Nat} {ps : List Str} {sp : Sp} {p pos : Pos} {e : Expr} {es : List Expr} {t : TA} (C : Cal X.prog X.w X.K X.mg X.base x k ps sp) (hr : Room k X.A) (hg : Gl X x) (ha : PA X (e :: es) t)
    (hdb : (x == ("__debug__" : Str)) = false := by decide) (he : starEach (e :: es) X.env = (false, eval e X.env) :: starEach es X.env := by rfl) (hpl : (backTo pos (starEach es X.env)).any (·.1) = false := by rfl) :
    PE X (.Call (.Name x p) (e :: es) [] pos) (tCal sp t) := by
  obtain ⟨f, fd, F, g, kp, b⟩ := C.ex
  have h := pe_call (p := p) (pos := pos) F hr hg g kp b .nil L2.pass0 ha hdb he hpl
  refine ⟨fun pins s σ H Q I q => h.run pins s σ H Q I ?_⟩
  have e0 : tCall sp [] L2.E0 t σ H Q = tCal sp t σ H Q := by
    unfold tCall tCal
    simp only [List.append_nil]
  rw [e0]
  exact q
end
/-- int(x) of an int -/
theorem call_intI {X : Cx} : CallR X (.type "int") (fun xs H Q => ∃ i, xs = [.int i] ∧ Q (.int i) H) := fun pins s σ H xs us Q I r h => call_int1 pins s σ H xs us Q I r (.inl h)
/-- a loop over a text's signs -/
theorem for_str {x : Str} {g : TG} {tb : TS} {D : Ends} {σ : L2.St} {H : Hp} (Pv : Nat → L2.St → Hp → Prop) (h0 : Pv 0 σ H)
    (hs : ∀ i c σ H, x.cps[i]? = some c → Pv i σ H → g (.str ⟨#[c]⟩) σ H fun σ2 H2 => tb { D with nx := Pv (i + 1), ct := Pv (i + 1), bk := D.nx } σ2 H2) (hd : ∀ σ H, Pv x.cps.size σ H → D.nx σ H) :
    ∃ W : Nat → Nat → L2.St → Hp → Prop, (∃ m, W 0 m σ H) ∧ ∀ i m σ H, W i m σ H →
      ((Its x).stop i H ∧ D.nx σ H) ∨ ((Its x).go i H ∧ ∃ N : L2.St → Hp → Prop, (∀ σ' H', N σ' H' → ∃ m', m' < m ∧ W (i + 1) m' σ' H') ∧ ∀ v H', (Its x).yld i H v H' → g v σ H' fun σ2 H2 => tb { D with nx := N, ct := N, bk := D.nx } σ2 H2) := by
  refine ⟨fun i m σ H => m = x.cps.size - i ∧ i ≤ x.cps.size ∧ Pv i σ H, ⟨x.cps.size, by simp, Nat.zero_le _, h0⟩, ?_⟩
  rintro i m σ H ⟨rfl, hi, p⟩
  by_cases hlt : i < x.cps.size
  · refine .inr ⟨hlt, Pv (i + 1), fun σ' H' p' => ⟨x.cps.size - (i + 1), by omega, rfl, hlt, p'⟩, fun v H' y => ?_⟩
    obtain ⟨e, c, hc, e2⟩ := y
    subst e e2
    exact hs i c σ _ hc p
  · have e : i = x.cps.size := by omega
    subst e
    exact .inl ⟨Nat.le_refl _, hd σ H p⟩
/-- for k in range(n), the turn's number from 0 on -/
theorem for_rng {n : Nat} {g : TG} {tb : TS} {D : Ends} {σ : L2.St} {H : Hp} (Pv : Nat → L2.St → Hp → Prop) (h0 : Pv 0 σ H)
    (hs : ∀ i σ H, i < n → Pv i σ H → g (.int (i : Int)) σ H fun σ2 H2 => tb { D with nx := Pv (i + 1), ct := Pv (i + 1), bk := D.nx } σ2 H2) (hd : ∀ σ H, Pv n σ H → D.nx σ H) :
    ∃ W : Nat → Nat → L2.St → Hp → Prop, (∃ m, W 0 m σ H) ∧ ∀ i m σ H, W i m σ H →
      ((Itr 0 n).stop i H ∧ D.nx σ H) ∨ ((Itr 0 n).go i H ∧ ∃ N : L2.St → Hp → Prop, (∀ σ' H', N σ' H' → ∃ m', m' < m ∧ W (i + 1) m' σ' H') ∧
        ∀ x H', (Itr 0 n).yld i H x H' → g x σ H' fun σ2 H2 => tb { D with nx := N, ct := N, bk := D.nx } σ2 H2) :=
  for_range (lo := 0) (n := n) (g := g) (tb := tb) (D := D) Pv h0 (fun i σ H hi p => by rw [Int.zero_add]; exact hs i σ H hi p) hd
theorem tC_go {v : V} {σ : L2.St} {H : Hp} {Q : VK} (q : Q v H) : tC v σ H Q := q
theorem tNil_go {σ : L2.St} {H : Hp} {Q : List V → Hp → Prop} (q : Q [] H) : tNil σ H Q := q
theorem dV (x y : Int) : decide (V.int x = V.int y) = decide (x = y) := by
  by_cases h : x = y
  · rw [decide_eq_true h, decide_eq_true (by rw [h])]
  · rw [decide_eq_false h, decide_eq_false (fun e => h (V.int.inj e))]
theorem dB (x y : Bool) : decide (V.bl x = V.bl y) = decide (x = y) := by cases x <;> cases y <;> rfl
/-! heaps -/
theorem same_upd {H : Hp} {p : Addr} {o : HO} (h : H p = none) : Same H (upd H p o) := fun b x e => by
  rw [upd_ne (ne_of_none e h)]
  exact e
theorem sq_new {K : PySem.W.Frag} {H : Hp} {p : Addr} {xs : List V} : SqT K (upd H p (.tup xs)) p xs := .inl (.inl upd_same)
theorem sq_of {K : PySem.W.Frag} {H : Hp} {p : Addr} {xs : List V} (h : H p = some (.tup xs)) : SqT K H p xs := .inl (.inl h)
theorem gTup_new {K : PySem.W.Frag} {n : Nat} {t : TGs} {σ : L2.St} {H : Hp} {Q : L2.St → Hp → Prop} {p : Addr} {xs : List V} (h : xs.length = n) (q : t xs σ (upd H p (.tup xs)) Q) :
    gTup K n t (.ref p) σ (upd H p (.tup xs)) Q := ⟨p, xs, rfl, sq_new, h, q⟩
theorem gTup_as {K : PySem.W.Frag} {n : Nat} {t : TGs} {σ : L2.St} {H : Hp} {Q : L2.St → Hp → Prop} {p : Addr} {xs : List V} (hS : SqT K H p xs) (h : xs.length = n) (q : t xs σ H Q) :
    gTup K n t (.ref p) σ H Q := ⟨p, xs, rfl, hS, h, q⟩
theorem ixT_new {K : PySem.W.Frag} {H : Hp} {Q : VK} {p : Addr} {xs : List V} {i : Int} {v : V} (h : atI xs i = some v) (q : Q v (upd H p (.tup xs))) :
    rIxT K (.ref p) (.int i) (upd H p (.tup xs)) Q := ⟨p, xs, i, v, rfl, rfl, sq_new, h, q⟩
theorem ixT_as {K : PySem.W.Frag} {H : Hp} {Q : VK} {p : Addr} {xs : List V} {i : Int} {v : V} (hS : SqT K H p xs) (h : atI xs i = some v) (q : Q v H) :
    rIxT K (.ref p) (.int i) H Q := ⟨p, xs, i, v, rfl, rfl, hS, h, q⟩
theorem ixL_as {K : PySem.W.Frag} {H : Hp} {Q : VK} {p : Addr} {xs : List V} {i : Int} {v : V} (hS : SqL K H p xs) (h : atI xs i = some v) (q : Q v H) :
    rIxL K (.ref p) (.int i) H Q := ⟨p, xs, i, v, rfl, rfl, hS, h, q⟩
/-! sizes -/
/-- below 2 ^ k -/
def Sm (k : Nat) (x : Int) : Prop := x.natAbs < 2 ^ k
theorem Sm.mono {j k : Nat} {x : Int} (h : Sm j x) (l : j ≤ k) : Sm k x := Nat.lt_of_lt_of_le h (Nat.pow_le_pow_right (by omega) l)
theorem Sm.mul {j k : Nat} {x y : Int} (h : Sm j x) (l : Sm k y) : Sm (j + k) (x * y) := wide_lt h l
theorem Sm.add {k : Nat} {x y : Int} (h : Sm k x) (l : Sm k y) : Sm (k + 1) (x + y) := by
  unfold Sm at *
  have : (x + y).natAbs ≤ x.natAbs + y.natAbs := Int.natAbs_add_le x y
  rw [Nat.pow_succ]
  omega
theorem Sm.neg {k : Nat} {x : Int} (h : Sm k x) : Sm k (-x) := by
  unfold Sm at *
  omega
theorem Sm.sub {k : Nat} {x y : Int} (h : Sm k x) (l : Sm k y) : Sm (k + 1) (x - y) := by
  have := h.add l.neg
  rwa [← Int.sub_eq_add_neg] at this
theorem Sm.ad {j k : Nat} {x y : Int} (h : Sm j x) (l : Sm k y) : Sm (j + k + 1) (x + y) := (h.mono (Nat.le_add_right j k)).add (l.mono (Nat.le_add_left k j))
theorem Sm.sb {j k : Nat} {x y : Int} (h : Sm j x) (l : Sm k y) : Sm (j + k + 1) (x - y) := (h.mono (Nat.le_add_right j k)).sub (l.mono (Nat.le_add_left k j))
theorem Sm.lit {k : Nat} {x : Int} (h : x.natAbs < 2 ^ k := by decide) : Sm k x := h
theorem Sm.le {k : Nat} {x y : Int} (h : Sm k y) (h0 : 0 ≤ x) (h1 : x ≤ y) : Sm k x := by
  unfold Sm at *
  omega
theorem Sm.pw {j : Nat} {x : Int} (h : Sm j x) (n : Nat) : Sm (j * n + 1) (x ^ n) := by
  induction n with
  | zero => rw [Int.pow_zero]; exact (Sm.lit (k := 1)).mono (by omega)
  | succ n ih => rw [Int.pow_succ]; exact (ih.mul h).mono (by rw [Nat.mul_succ]; omega)
/-- what * asks -/
theorem Sm.mx {j k : Nat} {x y : Int} (h : Sm j x) (l : Sm k y) (b : j + k ≤ 134217728) : CMulX x y := mulx_ok h l b
end RR

namespace RR
open PySem PySem.Spec PyProof.Rows L2
/-- a tuple of two ints -/
def Tp (K : PySem.W.Frag) (H : Hp) (v : V) (x y : Int) : Prop := ∃ p, v = .ref p ∧ SqT K H p [.int x, .int y]
theorem Tp.of {K : PySem.W.Frag} {H : Hp} {p : Addr} {x y : Int} (h : H p = some (.tup [.int x, .int y])) : Tp K H (.ref p) x y := ⟨p, rfl, sq_of h⟩
theorem dp2 {K : PySem.W.Frag} {H : Hp} {v : V} {x y : Int} (h : Tp K H v x y) : Dp K H v (.tuple [.int x, .int y]) := by
  obtain ⟨p, rfl, h⟩ := h
  exact .tup h (.cons (.int x) (.cons (.int y) .nil))
theorem eqv2 (x y u v : Int) : PyData.eqv (.tuple [.int x, .int y]) (.tuple [.int u, .int v]) = (decide (x = u) && decide (y = v)) := by
  simp only [PyData.eqv, PyData.eqvAll, Bool.and_true]
  rfl
section
variable {X : Cx}
/-- ==, != of two tuples of two ints -/
theorem op_eq2 (hu : X.A.units + 64 < cLine) : OpR X (compareOp .Eq) (fun x y H Q => ∃ a b c d, Tp X.K H x a b ∧ Tp X.K H y c d ∧ Q (.bl (decide (a = c) && decide (b = d))) H) := by
  intro pins s σ H x y v u Q I rx ry h
  obtain ⟨a, b, c, d, h1, h2, q⟩ := h
  exact op_eqD hu pins s σ H x y v u Q I rx ry ⟨_, _, dp2 h1, dp2 h2, rfl, rfl, by rw [eqv2]; exact q⟩
theorem op_ne2 (hu : X.A.units + 64 < cLine) : OpR X (compareOp .NotEq) (fun x y H Q => ∃ a b c d, Tp X.K H x a b ∧ Tp X.K H y c d ∧ Q (.bl (!(decide (a = c) && decide (b = d)))) H) := by
  intro pins s σ H x y v u Q I rx ry h
  obtain ⟨a, b, c, d, h1, h2, q⟩ := h
  exact op_neD hu pins s σ H x y v u Q I rx ry ⟨_, _, dp2 h1, dp2 h2, rfl, rfl, by rw [eqv2]; exact q⟩
/-- a ** b of a great int -/
def CPowW (i j : Int) : Prop := 0 ≤ j ∧ (Builtin.Int.intBits i : Int) * j ≤ 2 ^ 27
theorem op_powW : OpR X (binaryOp .Pow) (rI CPowW fun i j => .int (i ^ j.toNat)) := opI fun i j _ _ _ _ _ hc q => pow_int hc.1 hc.2 q
/-- isinstance of an int -/
theorem isi_int : CallR X (.builtin "isinstance") (fun xs H Q => ∃ i : Int, xs = [.int i, .ty "int"] ∧ Q (.bl true) H) := by
  intro pins s σ H xs us Q I r h
  obtain ⟨i, rfl, q⟩ := h
  exact call_isi pins s σ H _ us Q I r ⟨.int i, .ty "int", .type "int", .type "int", true, rfl, .ty "int", .base (.int i), kit_ty (by decide +kernel), q⟩
theorem isi_bool : CallR X (.builtin "isinstance") (fun xs H Q => ∃ i : Int, xs = [.int i, .ty "bool"] ∧ Q (.bl false) H) := by
  intro pins s σ H xs us Q I r h
  obtain ⟨i, rfl, q⟩ := h
  exact call_isi pins s σ H _ us Q I r ⟨.int i, .ty "bool", .type "int", .type "bool", false, rfl, .ty "bool", .base (.int i), kit_ty (by decide +kernel), q⟩
theorem isi_list : CallR X (.builtin "isinstance") (fun xs H Q => ∃ (a : Addr) (ys : List V), xs = [.ref a, .ty "list"] ∧ H a = some (.lst ys) ∧ Q (.bl true) H) := by
  intro pins s σ H xs us Q I r h
  obtain ⟨a, ys, rfl, e, q⟩ := h
  exact call_isi pins s σ H _ us Q I r ⟨.ref a, .ty "list", .type "list", .type "list", true, rfl, .ty "list", .base (.lst e), kit_ty (by decide +kernel), q⟩
theorem isi_tup : CallR X (.builtin "isinstance") (fun xs H Q => ∃ (a : Addr) (ys : List V), xs = [.ref a, .ty "tuple"] ∧ H a = some (.tup ys) ∧ Q (.bl true) H) := by
  intro pins s σ H xs us Q I r h
  obtain ⟨a, ys, rfl, e, q⟩ := h
  exact call_isi pins s σ H _ us Q I r ⟨.ref a, .ty "tuple", .type "tuple", .type "tuple", true, rfl, .ty "tuple", .base (.tup e), kit_ty (by decide +kernel), q⟩
end
/-- an if and what follows it, once -/
theorem split_if {c : Prop} [Decidable c] {t u : TS} {D : Ends} {σ : L2.St} {H : Hp} (R : L2.St → Hp → Prop) (hR : ∀ σ' H', R σ' H' → D.nx σ' H')
    (h : ∀ D' : Ends, (∀ σ' H', R σ' H' → D'.nx σ' H') → if c then t D' σ H else u D' σ H) : if c then t D σ H else u D σ H := h D hR
theorem sm_bits {z : Int} {k : Nat} (h : Builtin.Int.intBits z ≤ k) : Sm k z := by
  unfold Builtin.Int.intBits at h
  unfold Sm
  split at h
  · rename_i e
    have e0 : z = 0 := by simpa using e
    subst e0
    exact Nat.two_pow_pos k
  · exact Nat.lt_of_lt_of_le Nat.lt_log2_self (Nat.pow_le_pow_right (by decide) h)
theorem getD_bits {ns : List Int} {k : Nat} (h : ∀ z ∈ ns, Builtin.Int.intBits z ≤ k) (i : Nat) : Sm k (ns.getD i 0) := by
  rw [List.getD_eq_getElem?_getD]
  cases e : ns[i]? with
  | none => exact Nat.two_pow_pos k
  | some z => exact sm_bits (h z (List.mem_of_getElem? e))
end RR

namespace RR
/-! the pairs of a base -/
def XY (a : Int) : Nat → Int × Int
  | 0 => (1, 0)
  | n + 1 => (a * (XY a n).1 + (a * a - 1) * (XY a n).2, (XY a n).1 + a * (XY a n).2)
def px (a : Int) (n : Nat) : Int := (XY a n).1
def py (a : Int) (n : Nat) : Int := (XY a n).2
theorem px0 (a : Int) : px a 0 = 1 := rfl
theorem py0 (a : Int) : py a 0 = 0 := rfl
theorem px1 (a : Int) (n : Nat) : px a (n + 1) = a * px a n + (a * a - 1) * py a n := rfl
theorem py1 (a : Int) (n : Nat) : py a (n + 1) = px a n + a * py a n := rfl
theorem pell (a : Int) (n : Nat) : px a n * px a n - (a * a - 1) * (py a n * py a n) = 1 := by
  induction n with
  | zero => rw [px0, py0]; omega
  | succ n ih => rw [px1, py1]; grind
theorem pxy_add (a : Int) (m n : Nat) : px a (m + n) = px a m * px a n + (a * a - 1) * (py a m * py a n) ∧ py a (m + n) = px a m * py a n + py a m * px a n := by
  induction n with
  | zero => rw [px0, py0, Nat.add_zero]; constructor <;> grind
  | succ n ih =>
    obtain ⟨h1, h2⟩ := ih
    rw [← Nat.add_assoc, px1, py1, px1, py1, h1, h2]
    constructor <;> grind
theorem px_dbl (a : Int) (n : Nat) : px a (2 * n) = 2 * px a n * px a n - 1 := by
  rw [Nat.two_mul, (pxy_add a n n).1]
  have := pell a n
  grind
theorem py_dbl (a : Int) (n : Nat) : py a (2 * n) = 2 * px a n * py a n := by
  rw [Nat.two_mul, (pxy_add a n n).2]
  grind
theorem pxy_pos {a : Int} (ha : 2 ≤ a) (n : Nat) : 0 ≤ py a n ∧ py a n < px a n := by
  induction n with
  | zero => rw [px0, py0]; omega
  | succ n ih =>
    obtain ⟨h1, h2⟩ := ih
    rw [px1, py1]
    have e1 : a * a ≥ 2 * a := Int.mul_le_mul_of_nonneg_right ha (by omega)
    have e2 : a * px a n ≥ 2 * px a n := Int.mul_le_mul_of_nonneg_right ha (by omega)
    have e3 : (a * a - 1) * py a n ≥ a * py a n := Int.mul_le_mul_of_nonneg_right (by omega) h1
    have e4 : 0 ≤ a * py a n := Int.mul_nonneg (by omega) h1
    omega
theorem px_mono1 {a : Int} (ha : 2 ≤ a) (n : Nat) : px a n ≤ px a (n + 1) := by
  obtain ⟨h1, h2⟩ := pxy_pos ha n
  rw [px1]
  have e1 : a * a ≥ 2 * a := Int.mul_le_mul_of_nonneg_right ha (by omega)
  have e2 : a * px a n ≥ 2 * px a n := Int.mul_le_mul_of_nonneg_right ha (by omega)
  have e3 : 0 ≤ (a * a - 1) * py a n := Int.mul_nonneg (by omega) h1
  omega
theorem px_mono {a : Int} (ha : 2 ≤ a) {m n : Nat} (h : m ≤ n) : px a m ≤ px a n := by
  induction h with
  | refl => exact Int.le_refl _
  | step _ ih => exact Int.le_trans ih (px_mono1 ha _)
/-! signs to the base two -/
def bval (l : List Nat) : Nat := l.foldl (fun v c => 2 * v + (c - 48)) 0
theorem bval_snoc (l : List Nat) (c : Nat) : bval (l ++ [c]) = 2 * bval l + (c - 48) := by
  unfold bval
  rw [List.foldl_append]
  rfl
theorem dig2 {d : Nat} (h : d < 2) : (Nat.digitChar d).toNat = 48 + d := by
  match d, h with
  | 0, _ => rfl
  | 1, _ => rfl
theorem binL_lt {n : Nat} (h : n < 2) : binL n = [48 + n] := by
  unfold binL
  rw [Nat.toDigits_of_lt_base h, List.map_singleton, dig2 h]
theorem binL_ge {n : Nat} (h : 2 ≤ n) : binL n = binL (n / 2) ++ [48 + n % 2] := by
  unfold binL
  rw [Nat.toDigits_of_base_le (by decide) h, List.map_append, List.map_singleton, dig2 (Nat.mod_lt _ (by decide))]
theorem bval_bin (n : Nat) : bval (binL n) = n := by
  induction n using Nat.strongRecOn with
  | ind n ih =>
    by_cases h : n < 2
    · rw [binL_lt h]
      show 2 * 0 + (48 + n - 48) = n
      omega
    · rw [binL_ge (by omega), bval_snoc, ih (n / 2) (by omega)]
      omega
theorem bin_mem (n : Nat) : ∀ c ∈ binL n, c = 48 ∨ c = 49 := by
  induction n using Nat.strongRecOn with
  | ind n ih =>
    intro c hc
    by_cases h : n < 2
    · rw [binL_lt h, List.mem_singleton] at hc
      omega
    · rw [binL_ge (by omega), List.mem_append, List.mem_singleton] at hc
      rcases hc with hc | hc
      · exact ih (n / 2) (by omega) c hc
      · omega
theorem bval_take {l : List Nat} {i c : Nat} (h : l[i]? = some c) : bval (l.take (i + 1)) = 2 * bval (l.take i) + (c - 48) := by
  rw [List.take_add_one, h]
  exact bval_snoc _ c
theorem fold_ge (m : List Nat) : ∀ v : Nat, v ≤ m.foldl (fun v c => 2 * v + (c - 48)) v := by
  induction m with
  | nil => intro v; exact Nat.le_refl _
  | cons c m ih =>
    intro v
    have := ih (2 * v + (c - 48))
    rw [List.foldl_cons]
    omega
theorem bval_app (l m : List Nat) : bval l ≤ bval (l ++ m) := by
  unfold bval
  rw [List.foldl_append]
  exact fold_ge m _
theorem bval_le (l : List Nat) (i : Nat) : bval (l.take i) ≤ bval l := by
  have := bval_app (l.take i) (l.drop i)
  rwa [List.take_append_drop] at this
theorem bin_len {n k : Nat} (h : n < 2 ^ k) (hk : 0 < k) : (binS n).length ≤ k := by
  show (binL n).toArray.size ≤ k
  rw [List.size_toArray]
  unfold binL
  rw [List.length_map]
  exact (Nat.length_toDigits_le_iff (by decide) hk).mpr h
end RR
namespace RR
theorem rest_dx (a : Int) (v : Nat) (m : Int) : (2 * (px a v % m) * (px a v % m) - 1) % m = (2 * px a v * px a v - 1) % m := by
  rw [Int.sub_emod, Int.mul_emod, Int.mul_emod 2, Int.emod_emod, ← Int.mul_emod 2, ← Int.mul_emod, ← Int.sub_emod]
theorem rest_dy (a : Int) (v : Nat) (m : Int) : (2 * (px a v % m) * (py a v % m)) % m = (2 * px a v * py a v) % m := by
  rw [Int.mul_emod, Int.mul_emod 2, Int.emod_emod, Int.emod_emod, ← Int.mul_emod 2, ← Int.mul_emod]
theorem modeq {m a b : Int} (k : Int) (h : a - b = m * k) : a % m = b % m :=
  Int.emod_eq_emod_iff_emod_sub_eq_zero.mpr (Int.emod_eq_zero_of_dvd ⟨k, h⟩)
theorem rest_nx (a x y m : Int) : (a * x + (a * a - 1) * y) % m = ((a % m) * (x % m) + ((a % m) * (a % m) - 1) * (y % m)) % m := by
  have h1 := Int.mul_ediv_add_emod a m
  have h2 := Int.mul_ediv_add_emod x m
  have h3 := Int.mul_ediv_add_emod y m
  generalize a % m = A at *
  generalize x % m = X at *
  generalize y % m = Y at *
  generalize a / m = q1 at *
  generalize x / m = q2 at *
  generalize y / m = q3 at *
  exact modeq (q1 * x + A * q2 + (a * a - 1) * q3 + q1 * (a + A) * Y) (by grind)
theorem rest_ny (a x y m : Int) : (x + a * y) % m = ((x % m) + (a % m) * (y % m)) % m := by
  have h1 := Int.mul_ediv_add_emod a m
  have h2 := Int.mul_ediv_add_emod x m
  have h3 := Int.mul_ediv_add_emod y m
  generalize a % m = A at *
  generalize x % m = X at *
  generalize y % m = Y at *
  generalize a / m = q1 at *
  generalize x / m = q2 at *
  generalize y / m = q3 at *
  exact modeq (q2 + q1 * y + A * q3) (by grind)
end RR
namespace RR
theorem px_step {a : Int} (ha : 2 ≤ a) (n : Nat) : (a * a - 1) * py a n ≤ a * px a n := by
  induction n with
  | zero => rw [px0, py0]; omega
  | succ n ih =>
    obtain ⟨h1, h2⟩ := pxy_pos ha n
    rw [px1, py1]
    have : a * (a * px a n + (a * a - 1) * py a n) - (a * a - 1) * (px a n + a * py a n) = px a n := by grind
    omega
theorem px_pow {a : Int} (ha : 2 ≤ a) (n : Nat) : px a n ≤ (2 * a) ^ n := by
  induction n with
  | zero => rw [px0, Int.pow_zero]; exact Int.le_refl _
  | succ n ih =>
    have h := px_step ha n
    rw [px1, Int.pow_succ]
    have e := Int.mul_le_mul_of_nonneg_right ih (show 0 ≤ 2 * a by omega)
    have : px a n * (2 * a) = a * px a n + a * px a n := by grind
    omega
theorem px_nat {a : Int} (ha : 2 ≤ a) (n B : Nat) (hB : 2 * a ≤ 2 ^ B) : (px a n).natAbs < 2 ^ (B * n + 1) := by
  have h := px_pow ha n
  have h0 := pxy_pos ha n
  have h2 : (2 * a) ^ n ≤ ((2 : Int) ^ B) ^ n := by
    have hp : ∀ k : Nat, (2 * a) ^ k ≤ ((2 : Int) ^ B) ^ k ∧ 0 ≤ (2 * a) ^ k := by
      intro k
      induction k with
      | zero => exact ⟨by rw [Int.pow_zero, Int.pow_zero]; exact Int.le_refl _, by rw [Int.pow_zero]; decide⟩
      | succ k ih =>
        rw [Int.pow_succ, Int.pow_succ]
        exact ⟨Int.mul_le_mul ih.1 hB (by omega) (Int.le_trans ih.2 ih.1), Int.mul_nonneg ih.2 (by omega)⟩
    exact (hp n).1
  have e : ((2 : Int) ^ B) ^ n = ((2 ^ (B * n) : Nat) : Int) := by
    rw [← Int.pow_mul]
    exact (Int.natCast_pow 2 (B * n)).symm
  rw [e] at h2
  rw [Nat.pow_succ]
  generalize (2 : Nat) ^ (B * n) = P at *
  omega
/-- what a power of x leaves -/
theorem px_power (a x : Int) (n : Nat) : ∃ k, px a n - py a n * (a - x) - x ^ n = (2 * a * x - x * x - 1) * k := by
  induction n with
  | zero => exact ⟨0, by rw [px0, py0, Int.pow_zero]; omega⟩
  | succ n ih =>
    obtain ⟨k, hk⟩ := ih
    refine ⟨x * k + py a n, ?_⟩
    rw [px1, py1, Int.pow_succ]
    grind
theorem px_cong (a b m : Int) (k : Int) (h : a - b = m * k) (n : Nat) : (∃ q, px a n - px b n = m * q) ∧ ∃ q, py a n - py b n = m * q := by
  induction n with
  | zero => exact ⟨⟨0, by rw [px0, px0]; omega⟩, ⟨0, by rw [py0, py0]; omega⟩⟩
  | succ n ih =>
    obtain ⟨⟨q, hq⟩, ⟨r, hr⟩⟩ := ih
    refine ⟨⟨k * px a n + b * q + (a * a - 1) * r + k * (a + b) * py b n, ?_⟩, ⟨q + k * py a n + b * r, ?_⟩⟩
    · rw [px1, px1]; grind
    · rw [py1, py1]; grind
end RR
namespace RR
theorem px_rec (a : Int) (k : Nat) : px a (k + 2) = 2 * a * px a (k + 1) - px a k := by
  rw [px1 a (k + 1), px1, py1]; grind
theorem py_rec (a : Int) (k : Nat) : py a (k + 2) = 2 * a * py a (k + 1) - py a k := by
  rw [py1 a (k + 1), px1, py1]; grind
theorem rest_rec {a m x2 X2 x1 X1 : Int} (h2 : x2 % m = X2 % m) (h1 : x1 % m = X1 % m) : (2 * a * x2 - x1) % m = (2 * a * X2 - X1) % m := by
  have e1 := Int.mul_ediv_add_emod x2 m
  have e2 := Int.mul_ediv_add_emod X2 m
  have e3 := Int.mul_ediv_add_emod x1 m
  have e4 := Int.mul_ediv_add_emod X1 m
  rw [h2] at e1
  rw [h1] at e3
  generalize X2 % m = A at *
  generalize X1 % m = B at *
  exact modeq (2 * a * (x2 / m - X2 / m) - (x1 / m - X1 / m)) (by grind)
theorem rest_dx' {a x : Int} {v : Nat} {m : Int} (h : x % m = px a v % m) : (2 * x * x - 1) % m = px a (2 * v) % m := by
  rw [px_dbl, ← rest_dx a v m, ← h]
  have e1 := Int.mul_ediv_add_emod x m
  generalize x % m = A at *
  exact modeq (2 * (x / m) * (x + A)) (by grind)
theorem rest_dy' {a x y : Int} {v : Nat} {m : Int} (h : x % m = px a v % m) (h' : y % m = py a v % m) : (2 * x * y) % m = py a (2 * v) % m := by
  rw [py_dbl, ← rest_dy a v m, ← h, ← h']
  have e1 := Int.mul_ediv_add_emod x m
  have e2 := Int.mul_ediv_add_emod y m
  generalize x % m = A at *
  generalize y % m = B at *
  exact modeq (2 * (x / m) * y + 2 * A * (y / m)) (by grind)
theorem rest_nx' {a x y : Int} {v : Nat} {m : Int} (h : x % m = px a v % m) (h' : y % m = py a v % m) : (a * x + (a * a - 1) * y) % m = px a (v + 1) % m := by
  rw [px1, rest_nx a x y, rest_nx a (px a v), h, h']
theorem rest_ny' {a x y : Int} {v : Nat} {m : Int} (h : x % m = px a v % m) (h' : y % m = py a v % m) : (x + a * y) % m = py a (v + 1) % m := by
  rw [py1, rest_ny a x y, rest_ny a (px a v), h, h']
/-- the value of signs, the lowest first -/
def lval : List Int → Nat
  | [] => 0
  | d :: r => d.toNat + 2 * lval r
theorem lval_app (l : List Int) (d : Int) : lval (l ++ [d]) = lval l + 2 ^ l.length * d.toNat := by
  induction l with
  | nil => show d.toNat + 2 * 0 = 0 + 2 ^ 0 * d.toNat; omega
  | cons c l ih =>
    show c.toNat + 2 * lval (l ++ [d]) = c.toNat + 2 * lval l + 2 ^ (l.length + 1) * d.toNat
    rw [ih, Nat.pow_succ, Nat.mul_add, Nat.mul_comm (2 ^ l.length) 2, Nat.mul_assoc]
    omega
theorem lval_drop {l : List Int} {i : Nat} {d : Int} (h : l[i]? = some d) : lval (l.drop i) = d.toNat + 2 * lval (l.drop (i + 1)) := by
  obtain ⟨hi, e⟩ := List.getElem?_eq_some_iff.mp h
  rw [List.drop_eq_getElem_cons hi, e]
  rfl
end RR
namespace RR
theorem rest_addx (a m : Int) (i j : Nat) : ((px a i % m) * (px a j % m) + (a * a - 1) * (py a i % m) * (py a j % m)) % m = px a (i + j) % m := by
  rw [(pxy_add a i j).1]
  have e1 := Int.mul_ediv_add_emod (px a i) m
  have e2 := Int.mul_ediv_add_emod (px a j) m
  have e3 := Int.mul_ediv_add_emod (py a i) m
  have e4 := Int.mul_ediv_add_emod (py a j) m
  generalize px a i % m = A at *
  generalize px a j % m = B at *
  generalize py a i % m = C at *
  generalize py a j % m = D at *
  exact (modeq ((px a i / m) * px a j + A * (px a j / m) + (a * a - 1) * ((py a i / m) * py a j + C * (py a j / m))) (by grind)).symm
theorem rest_addy (a m : Int) (i j : Nat) : ((px a i % m) * (py a j % m) + (py a i % m) * (px a j % m)) % m = py a (i + j) % m := by
  rw [(pxy_add a i j).2]
  have e1 := Int.mul_ediv_add_emod (px a i) m
  have e2 := Int.mul_ediv_add_emod (px a j) m
  have e3 := Int.mul_ediv_add_emod (py a i) m
  have e4 := Int.mul_ediv_add_emod (py a j) m
  generalize px a i % m = A at *
  generalize px a j % m = B at *
  generalize py a i % m = C at *
  generalize py a j % m = D at *
  exact (modeq ((px a i / m) * py a j + A * (py a j / m) + (py a i / m) * px a j + C * (px a j / m)) (by grind)).symm
end RR
namespace RR
theorem sq_lt {g k e : Nat} (h : g < 2 ^ e) (hk : k < 4) (he : 3 ≤ e) : g * g + k < 2 ^ (e * 2) := by
  have h8 : 2 ^ 3 ≤ 2 ^ e := Nat.pow_le_pow_right (by decide) he
  rw [Nat.pow_mul, Nat.pow_two]
  generalize 2 ^ e = P at *
  have h1 := Nat.mul_le_mul (show g + 1 ≤ P from h) (show g + 1 ≤ P from h)
  have h2 := Nat.mul_le_mul h8 h8
  have h3 : (g + 1) * (g + 1) = g * g + 2 * g + 1 := by grind
  by_cases hg : g < 2
  · have : g * g ≤ 1 * 1 := Nat.mul_le_mul (by omega) (by omega)
    omega
  · omega
end RR

namespace RR
open PySem PySem.Spec PyProof.Rows L2
section
variable {X : Cx}
/-- f(*y) -/
theorem pe_calS {x : Str} {k : Nat} {ps : List Str} {sp : Sp} {p pos sp_ : Pos} {e : Expr} {te : TE} (C : Cal X.prog X.w X.K X.mg X.base x k ps sp) (hr : Room k X.A) (hg : Gl X x) (he : PE X e te)
    (hd : (x == ("__debug__" : Str)) = false := by decide) (hst : starEach [.Starred e sp_] X.env = [(true, eval e X.env)] := by rfl) :
    PE X (.Call (.Name x p) [.Starred e sp_] [] pos) (fun σ H Q => te σ H fun y H1 => ∃ a xs, y = V.ref a ∧ (SqT X.K H1 a xs ∨ SqL X.K H1 a xs) ∧ sp xs H1 Q L2.E0) := by
  obtain ⟨f, fd, F, g, kp, b⟩ := C.ex
  have h := StX.pe_callS1 (p := p) (pos := pos) (sp_ := sp_) (F.raw b .nil) hr kp hg g L2.pass0 he hd hst
  refine ⟨fun pins s σ H Q I q => h.run pins s σ H Q I ?_⟩
  simp only [List.append_nil]
  exact q
end
/-- for x in reversed(xs) -/
theorem for_rev {K : PySem.W.Frag} {a : Addr} {xs : List V} {g : TG} {tb : TS} {D : Ends} {σ : L2.St} {H : Hp} (Pv : Nat → L2.St → Hp → Prop) (h0 : Pv 0 σ H) (hl : ∀ i σ H, i ≤ xs.length → Pv i σ H → SqL K H a xs)
    (hs : ∀ i x σ H, i < xs.length → xs[xs.length - 1 - i]? = some x → Pv i σ H → g x σ H fun σ2 H2 => tb { D with nx := Pv (i + 1), ct := Pv (i + 1), bk := D.nx } σ2 H2) (hd : ∀ σ H, Pv xs.length σ H → D.nx σ H) :
    ∃ W : Nat → Nat → L2.St → Hp → Prop, (∃ m, W 0 m σ H) ∧ ∀ i m σ H, W i m σ H →
      ((Itv K a xs.length).stop i H ∧ D.nx σ H) ∨ ((Itv K a xs.length).go i H ∧ ∃ N : L2.St → Hp → Prop, (∀ σ' H', N σ' H' → ∃ m', m' < m ∧ W (i + 1) m' σ' H') ∧
        ∀ x H', (Itv K a xs.length).yld i H x H' → g x σ H' fun σ2 H2 => tb { D with nx := N, ct := N, bk := D.nx } σ2 H2) := by
  refine ⟨fun i m σ H => m = xs.length - i ∧ i ≤ xs.length ∧ Pv i σ H, ⟨xs.length, by simp, Nat.zero_le _, h0⟩, ?_⟩
  rintro i m σ H ⟨rfl, hi, p⟩
  have q := hl i σ H hi p
  by_cases hlt : i < xs.length
  · have hix : xs[xs.length - 1 - i]? = some (xs[xs.length - 1 - i]'(by omega)) := List.getElem?_eq_getElem (by omega)
    refine .inr ⟨⟨hlt, xs, _, q, hix⟩, Pv (i + 1), fun σ' H' p' => ⟨xs.length - (i + 1), by omega, rfl, hlt, p'⟩, fun x H' y => ?_⟩
    obtain ⟨e, y⟩ := y
    subst e
    exact hs i x σ _ hlt (y xs q) p
  · have e : i = xs.length := by omega
    subst e
    exact .inl ⟨Nat.le_refl _, hd σ H p⟩
theorem Same.new {H H1 : Hp} {p : Addr} {o : HO} (s : Same H H1) (h : H p = none) : Same H (upd H1 p o) := fun b u e => by
  rw [upd_ne (ne_of_none e h)]
  exact s b u e
theorem px_ge {a : Int} (ha : 2 ≤ a) (n : Nat) : ((2 ^ n : Nat) : Int) ≤ px a n := by
  induction n with
  | zero => rw [px0]; decide
  | succ n ih =>
    obtain ⟨h1, h2⟩ := pxy_pos ha n
    rw [px1]
    have e1 : a * a ≥ 2 * a := Int.mul_le_mul_of_nonneg_right ha (by omega)
    have e2 : a * px a n ≥ 2 * px a n := Int.mul_le_mul_of_nonneg_right ha (by omega)
    have e3 : 0 ≤ (a * a - 1) * py a n := Int.mul_nonneg (by omega) h1
    rw [Nat.pow_succ]
    push_cast at *
    omega
theorem px_ix {a : Int} (ha : 2 ≤ a) {n B : Nat} (h : Sm B (px a n)) : n < B := by
  have h1 := px_ge ha n
  have h2 := pxy_pos ha n
  unfold Sm at h
  by_cases c : n < B
  · exact c
  · have := Nat.pow_le_pow_right (n := 2) (by decide) (show B ≤ n by omega)
    omega
theorem app_go {H : Hp} {Q : VK} {p : Addr} {v : V} {xs : List V} (h : H p = some (.lst xs)) (hl : xs.length < sizeLine) (q : Q .non (upd H p (.lst (xs ++ [v])))) : rAppend (.ref p) [v] H Q :=
  ⟨p, xs, v, rfl, rfl, h, hl, q⟩
theorem atI_neg {α : Type} {xs : List α} {k : Nat} {v : α} (h0 : 0 < k) (hk : k ≤ xs.length) (h : xs[xs.length - k]? = some v) : atI xs (-(k : Int)) = some v := by
  unfold atI ixN
  rw [if_neg (by omega), if_pos (by omega)]
  show xs[(-(k : Int) + xs.length).toNat]? = some v
  rw [show (-(k : Int) + xs.length).toNat = xs.length - k by omega]
  exact h
theorem cut_take (xs : List V) (n : Nat) (h : n ≤ xs.length) : cutV xs none (some (n : Int)) = xs.take n := by
  unfold cutV
  rw [HT.sIx_none, HT.sIx_nat, Nat.min_eq_left h, List.drop_zero, Nat.sub_zero]
theorem cut_mid (xs : List V) (i j : Nat) (hi : i ≤ xs.length) (hj : j ≤ xs.length) : cutV xs (some (i : Int)) (some (j : Int)) = (xs.drop i).take (j - i) := by
  unfold cutV
  rw [HT.sIx_nat, HT.sIx_nat, Nat.min_eq_left hi, Nat.min_eq_left hj]
/-- at L a list of the pairs with the indexes 0, 1, .. -/
def PL (a : Int) (H : Hp) (L : Addr) (n : Nat) : Prop := ∃ ps : List Addr, ps.length = n ∧ H L = some (.lst (ps.map V.ref)) ∧ ∀ (i : Nat) (p : Addr), ps[i]? = some p → H p = some (.tup [.int (px a i), .int (py a i)])
theorem PL.keep {a : Int} {H H' : Hp} {L : Addr} {n : Nat} (h : PL a H L n) (s : Same H H') : PL a H' L n := by
  obtain ⟨ps, e, hL, hp⟩ := h
  exact ⟨ps, e, s _ _ hL, fun i p hi => s _ _ (hp i p hi)⟩
theorem PL.at {K : PySem.W.Frag} {a : Int} {H : Hp} {L : Addr} {n : Nat} (h : PL a H L n) {Q : VK} {i : Nat} (hi : i < n) (q : ∀ p, H p = some (.tup [.int (px a i), .int (py a i)]) → Q (.ref p) H) :
    rIxL K (.ref L) (.int (i : Int)) H Q := by
  obtain ⟨ps, e, hL, hp⟩ := h
  have h1 : ps[i]? = some (ps[i]'(by omega)) := List.getElem?_eq_getElem (by omega)
  exact ixL_as (.inl (.inl hL)) (atI_nat (by rw [List.getElem?_map, h1]; rfl)) (q _ (hp i _ h1))
theorem PL.at' {K : PySem.W.Frag} {a : Int} {H : Hp} {L : Addr} {n : Nat} (h : PL a H L n) {Q : VK} {i : Nat} {z : Int} (e : z = (i : Int)) (hi : i < n) (q : ∀ p, H p = some (.tup [.int (px a i), .int (py a i)]) → Q (.ref p) H) :
    rIxL K (.ref L) (.int z) H Q := by
  subst e
  exact h.at hi q
theorem ne_self {x y : V} (h : x = y) : ¬ (!decide (x = y)) = true := by
  rw [decide_eq_true h]
  decide
theorem ne2_self {a b c d : Int} (h : a = c) (h' : b = d) : ¬ (!(decide (a = c) && decide (b = d))) = true := by
  rw [decide_eq_true h, decide_eq_true h']
  decide
theorem PL.push {a : Int} {H : Hp} {L : Addr} {ps : List Addr} (hL : H L = some (.lst (ps.map V.ref))) (hp : ∀ (i : Nat) (p : Addr), ps[i]? = some p → H p = some (.tup [.int (px a i), .int (py a i)])) {p : Addr}
    (h : H p = some (.tup [.int (px a ps.length), .int (py a ps.length)])) : PL a (upd H L (.lst (ps.map V.ref ++ [V.ref p]))) L (ps.length + 1) := by
  refine ⟨ps ++ [p], by rw [List.length_append]; rfl, by rw [upd_same, List.map_append]; rfl, fun i t hi => ?_⟩
  by_cases hj : i < ps.length
  · rw [List.getElem?_append_left hj] at hi
    have h1 := hp i t hi
    rw [upd_ne (ne_of hL h1 (by intro z; cases z)).symm]
    exact h1
  · rw [List.getElem?_append_right (by omega)] at hi
    have h3 : i - ps.length < 1 := (List.getElem?_eq_some_iff.mp hi).1
    have h4 : i = ps.length := by omega
    rw [h4, Nat.sub_self] at hi
    have h5 : p = t := Option.some.inj hi
    rw [← h5, h4, upd_ne (ne_of hL h (by intro z; cases z)).symm]
    exact h
/-! more on pairs -/
theorem py_lt1 {a : Int} (ha : 2 ≤ a) (n : Nat) : py a n < py a (n + 1) := by
  obtain ⟨h1, h2⟩ := pxy_pos ha n
  rw [py1]
  have : 2 * py a n ≤ a * py a n := Int.mul_le_mul_of_nonneg_right ha h1
  omega
theorem py_lt {a : Int} (ha : 2 ≤ a) {m n : Nat} (h : m < n) : py a m < py a n := by
  induction n with
  | zero => omega
  | succ n ih =>
    by_cases e : m = n
    · rw [e]; exact py_lt1 ha n
    · exact Int.lt_trans (ih (by omega)) (py_lt1 ha n)
theorem py_le_iff {a : Int} (ha : 2 ≤ a) (m n : Nat) : py a m ≤ py a n ↔ m ≤ n := by
  constructor
  · intro h
    by_cases e : m ≤ n
    · exact e
    · exact absurd (py_lt ha (show n < m by omega)) (by omega)
  · intro h
    by_cases e : m = n
    · rw [e]; exact Int.le_refl _
    · exact Int.le_of_lt (py_lt ha (by omega))
theorem pxy_sub (a : Int) (s t : Nat) : px a (t + s) * px a s - (a * a - 1) * py a (t + s) * py a s = px a t ∧ py a (t + s) * px a s - px a (t + s) * py a s = py a t := by
  rw [(pxy_add a t s).1, (pxy_add a t s).2]
  have := pell a s
  constructor <;> grind
/-- every two squares one apart are a pair's -/
theorem pell_all {a : Int} (ha : 2 ≤ a) : ∀ (k : Nat) (x y : Int), y.toNat ≤ k → 0 ≤ x → 0 ≤ y → x * x - (a * a - 1) * y * y = 1 → ∃ n, x = px a n ∧ y = py a n := by
  intro k
  induction k with
  | zero =>
    intro x y hk hx hy h
    have e : y = 0 := by omega
    subst e
    refine ⟨0, ?_, rfl⟩
    rw [px0]
    have h2 : x * x = 1 := by grind
    have h3 : x < 2 := by
      by_cases c : x < 2
      · exact c
      · have := Int.mul_le_mul (a := 2) (b := 2) (c := x) (d := x) (by omega) (by omega) (by omega) hx
        omega
    have h4 : x ≠ 0 := by
      intro z
      rw [z] at h2
      exact absurd h2 (by decide)
    omega
  | succ k ih =>
    intro x y hk hx hy h
    by_cases e : y = 0
    · exact ih x y (by omega) hx hy h
    · have y1 : 1 ≤ y := by omega
      have hyy : 1 ≤ y * y := by
        have := Int.mul_le_mul (a := 1) (b := 1) (c := y) (d := y) y1 y1 (by omega) hy
        omega
      have hxy : x ≤ a * y := by
        by_cases c : x ≤ a * y
        · exact c
        · have c2 : a * y + 1 ≤ x := by omega
          have p0 : 0 ≤ a * y := Int.mul_nonneg (by omega) hy
          have := Int.mul_le_mul (a := a * y + 1) (b := a * y + 1) (c := x) (d := x) c2 c2 (by omega) hx
          have e1 : (a * y + 1) * (a * y + 1) = a * a * y * y + 2 * (a * y) + 1 := by grind
          have e2 : x * x = a * a * y * y - y * y + 1 := by grind
          omega
      have hlt : a * y - x < y := by
        by_cases c : a * y - x < y
        · exact c
        · have c2 : x ≤ (a - 1) * y := by
            have : (a - 1) * y = a * y - y := by grind
            omega
          have p0 : 0 ≤ (a - 1) * y := Int.mul_nonneg (by omega) hy
          have := Int.mul_le_mul c2 c2 hx p0
          have e1 : (a - 1) * y * ((a - 1) * y) = a * a * y * y - y * y - 2 * (a - 1) * (y * y) := by grind
          have e2 : x * x = a * a * y * y - y * y + 1 := by grind
          have e3 : 0 ≤ (a - 1) * (y * y) := Int.mul_nonneg (by omega) (by omega)
          have e4 : 2 * (a - 1) * (y * y) = 2 * ((a - 1) * (y * y)) := by grind
          omega
      have hx0 : 0 ≤ a * x - (a * a - 1) * y := by
        by_cases c : 0 ≤ a * x - (a * a - 1) * y
        · exact c
        · have c2 : a * x ≤ (a * a - 1) * y := by omega
          have p1 : 0 ≤ a * x := Int.mul_nonneg (by omega) hx
          have p2 : 2 * a ≤ a * a := Int.mul_le_mul_of_nonneg_right ha (by omega)
          have p0 : 0 ≤ (a * a - 1) * y := Int.mul_nonneg (by omega) hy
          have := Int.mul_le_mul c2 c2 p1 p0
          have e1 : a * x * (a * x) = a * a * (x * x) := by grind
          have e2 : (a * a - 1) * y * ((a * a - 1) * y) = (a * a - 1) * (x * x - 1) := by
            rw [← h]; grind
          have e3 : (a * a - 1) * (x * x - 1) = a * a * (x * x) - x * x - (a * a - 1) := by grind
          have e4 : 0 ≤ x * x := Int.mul_nonneg hx hx
          omega
      obtain ⟨n, e1, e2⟩ := ih (a * x - (a * a - 1) * y) (a * y - x) (by omega) hx0 (by omega) (by grind)
      refine ⟨n + 1, ?_, ?_⟩
      · rw [px1, ← e1, ← e2]; grind
      · rw [py1, ← e1, ← e2]; grind
theorem pell_only {a x y : Int} (ha : 2 ≤ a) (hx : 0 ≤ x) (hy : 0 ≤ y) (h : x * x - (a * a - 1) * y * y = 1) : ∃ n, x = px a n ∧ y = py a n := pell_all ha _ x y (Nat.le_refl _) hx hy h
theorem py_ge {a : Int} (ha : 2 ≤ a) (n : Nat) : (n : Int) ≤ py a n := by
  induction n with
  | zero => rw [py0]; decide
  | succ n ih =>
    have := py_lt1 ha n
    omega
end RR

namespace RR
theorem pigeon : ∀ (M : Nat) (f : Nat → Nat), (∀ k, k ≤ M → f k < M) → ∃ i j, i < j ∧ j ≤ M ∧ f i = f j := by
  intro M
  induction M with
  | zero =>
    intro f h
    exact absurd (h 0 (Nat.le_refl 0)) (Nat.not_lt_zero _)
  | succ M ih =>
    intro f h
    by_cases c : ∃ i, i ≤ M ∧ f i = f (M + 1)
    · obtain ⟨i, hi, e⟩ := c
      exact ⟨i, M + 1, by omega, Nat.le_refl _, e⟩
    · have hne : ∀ i, i ≤ M → f i ≠ f (M + 1) := fun i hi e => c ⟨i, hi, e⟩
      have hv := h (M + 1) (Nat.le_refl _)
      obtain ⟨i, j, h1, h2, h3⟩ := ih (fun k => if f (M + 1) < f k then f k - 1 else f k) (fun k hk => by
        have a1 := h k (by omega)
        have a2 := hne k hk
        show (if f (M + 1) < f k then f k - 1 else f k) < M
        split <;> omega)
      refine ⟨i, j, h1, by omega, ?_⟩
      have a1 := hne i (by omega)
      have a2 := hne j h2
      have h3' : (if f (M + 1) < f i then f i - 1 else f i) = (if f (M + 1) < f j then f j - 1 else f j) := h3
      split at h3' <;> split at h3' <;> omega
theorem mul_ad {m x y u v : Nat} (hx : x < m) (hu : u < m) (hy : y < m) (hv : v < m) (h : x * m + y = u * m + v) : x = u ∧ y = v := by
  have h1 : (x * m + y) / m = x := by rw [Nat.mul_comm, Nat.mul_add_div (by omega), Nat.div_eq_of_lt hy, Nat.add_zero]
  have h2 : (u * m + v) / m = u := by rw [Nat.mul_comm, Nat.mul_add_div (by omega), Nat.div_eq_of_lt hv, Nat.add_zero]
  have : x = u := by rw [← h1, h, h2]
  subst this
  exact ⟨rfl, by omega⟩
/-- there is an index from 1 on whose member the number divides -/
theorem rank_ex (a : Int) (m : Nat) (hm : 0 < m) : ∃ r : Nat, 1 ≤ r ∧ r ≤ m * m ∧ py a r % m = 0 := by
  have hm' : (0 : Int) < m := by omega
  have b : ∀ z : Int, (z % (m : Int)).toNat < m := fun z => by
    have h1 := Int.emod_nonneg z (show (m : Int) ≠ 0 by omega)
    have h2 := Int.emod_lt_of_pos z hm'
    omega
  obtain ⟨i, j, h1, h2, h3⟩ := pigeon (m * m) (fun k => (px a k % m).toNat * m + (py a k % m).toNat) (fun k _ => by
    have b1 := b (px a k)
    have b2 := b (py a k)
    show (px a k % m).toNat * m + (py a k % m).toNat < m * m
    have := Nat.mul_le_mul (show (px a k % m).toNat + 1 ≤ m by omega) (Nat.le_refl m)
    rw [Nat.add_mul] at this
    omega)
  obtain ⟨e1, e2⟩ := mul_ad (b (px a i)) (b (px a j)) (b (py a i)) (b (py a j)) h3
  have f1 : px a i % m = px a j % m := by
    have p1 := Int.emod_nonneg (px a i) (show (m : Int) ≠ 0 by omega)
    have p2 := Int.emod_nonneg (px a j) (show (m : Int) ≠ 0 by omega)
    omega
  have f2 : py a i % m = py a j % m := by
    have p1 := Int.emod_nonneg (py a i) (show (m : Int) ≠ 0 by omega)
    have p2 := Int.emod_nonneg (py a j) (show (m : Int) ≠ 0 by omega)
    omega
  refine ⟨j - i, by omega, by omega, ?_⟩
  have g := (pxy_sub a i (j - i)).2
  rw [show j - i + i = j by omega] at g
  rw [← g]
  have d1 := Int.mul_ediv_add_emod (px a i) m
  have d2 := Int.mul_ediv_add_emod (px a j) m
  have d3 := Int.mul_ediv_add_emod (py a i) m
  have d4 := Int.mul_ediv_add_emod (py a j) m
  rw [← f1] at d2
  rw [← f2] at d4
  have key : py a j * px a i - px a j * py a i = (m : Int) * ((py a j / m - py a i / m) * px a i - (px a j / m - px a i / m) * py a i) := by
    generalize px a i % (m : Int) = A at *
    generalize py a i % (m : Int) = C at *
    grind
  rw [key]
  exact Int.mul_emod_right _ _
theorem half_sm {a : Int} (ha : 2 ≤ a) {v n B : Nat} (hv : 2 * v ≤ n) (h : Sm B (px a n)) : Sm ((B + 1) / 2) (px a v) := by
  have h1 := pxy_pos ha v
  have h2 := px_mono ha hv
  rw [px_dbl] at h2
  have h3 := pxy_pos ha n
  unfold Sm at *
  by_cases c : (px a v).natAbs < 2 ^ ((B + 1) / 2)
  · exact c
  · have c1 : 2 ^ ((B + 1) / 2) ≤ (px a v).natAbs := by omega
    have c2 := Nat.mul_le_mul c1 c1
    rw [← Nat.pow_add] at c2
    have c3 := Nat.pow_le_pow_right (n := 2) (by decide) (show B ≤ (B + 1) / 2 + (B + 1) / 2 by omega)
    have e : ((px a v).natAbs * (px a v).natAbs : Nat) = (px a v * px a v).natAbs := (Int.natAbs_mul _ _).symm
    have e2 : 1 ≤ px a v * px a v := by
      have := Int.mul_le_mul (a := 1) (b := 1) (c := px a v) (d := px a v) (by omega) (by omega) (by omega) (by omega)
      omega
    have e3 : 2 * px a v * px a v = 2 * (px a v * px a v) := by grind
    omega
/-- Euclid's steps of law k33 -/
def common : Nat → Int → Int → Int
  | 0, x, _ => x
  | f + 1, x, y => if 0 < y then common f y (x - x / y * y) else common f x y
/-- the rests of the members by k against an index r -/
def goR (a : Int) (k : Int) (r : Int) : Nat → Int → Int → Int → Bool
  | 0, _, _, _ => true
  | f + 1, j, y, y' => ((y % k == 0) == (j % r == 0)) && goR a k r f (j + 1) y' ((2 * a * y' - y) % k)
def rk (a k : Int) : Nat → Int → Int → Int → Int
  | 0, _, _, n => n
  | f + 1, y, y', n => if y' % k = 0 then n else rk a k f y' ((2 * a * y' - y) % k) (n + 1)
end RR
namespace RR
def chkR : Bool := (List.range 8).all fun a => (List.range 60).all fun k =>
  let A : Int := a + 2
  let K : Int := k + 1
  let r := rk A K 200 0 (1 % K) 1
  decide (1 ≤ r) && decide (r < 150) && goR A K r 149 1 1 (2 * A)
set_option maxHeartbeats 0 in
theorem chkR_ok : chkR = true := by decide +kernel
theorem rest2 (a m y y' : Int) : (2 * a * (y' % m) - y % m) % m = (2 * a * y' - y) % m := by
  have h1 := Int.mul_ediv_add_emod y' m
  have h2 := Int.mul_ediv_add_emod y m
  generalize y' % m = A at *
  generalize y % m = C at *
  exact (modeq (2 * a * (y' / m) - y / m) (by grind)).symm
theorem goR_spec {a k r : Int} : ∀ (f j : Nat) (y y' : Int), y % k = py a j % k → y' % k = py a (j + 1) % k → goR a k r f j y y' = true →
    ∀ i : Nat, i < f → decide (py a (j + i) % k = 0) = decide (((j + i : Nat) : Int) % r = 0) := by
  intro f
  induction f with
  | zero => intro _ _ _ _ _ _ i hi; omega
  | succ f ih =>
    intro j y y' hy hy' h i hi
    unfold goR at h
    rw [Bool.and_eq_true] at h
    obtain ⟨h1, h2⟩ := h
    match i with
    | 0 =>
      rw [hy] at h1
      exact eq_of_beq h1
    | i + 1 =>
      have h3 : ((2 * a * y' - y) % k) % k = py a (j + 1 + 1) % k := by
        rw [Int.emod_emod, py_rec, ← rest2 a k y (y'), ← rest2 a k (py a j) (py a (j + 1)), hy, hy']
      have := ih (j + 1) _ _ hy' h3 (by exact_mod_cast h2) i (by omega)
      rw [show j + (i + 1) = j + 1 + i by omega]
      exact this
/-- the rank of law k33's small numbers -/
theorem rankS {a k : Nat} (ha : a < 8) (hk : k < 60) : ∃ r : Nat, 1 ≤ r ∧ r < 150 ∧ ∀ j : Nat, 1 ≤ j → j < 150 → decide (py (a + 2) j % (k + 1) = 0) = decide ((j : Int) % (r : Int) = 0) := by
  have h := chkR_ok
  unfold chkR at h
  have h1 := List.all_eq_true.mp h a (List.mem_range.mpr ha)
  have h2 := List.all_eq_true.mp h1 k (List.mem_range.mpr hk)
  simp only [Bool.and_eq_true, decide_eq_true_eq] at h2
  obtain ⟨⟨g1, g2⟩, g3⟩ := h2
  generalize rk ((a : Int) + 2) ((k : Int) + 1) 200 0 (1 % ((k : Int) + 1)) 1 = r at *
  refine ⟨r.toNat, by omega, by omega, fun j h1 h2 => ?_⟩
  have := goR_spec 149 1 1 (2 * ((a : Int) + 2)) (by rw [show py ((a : Int) + 2) 1 = 1 by rw [py1, px0, py0]; omega]) (by rw [show py ((a : Int) + 2) (1 + 1) = 2 * ((a : Int) + 2) by rw [py1, px1, py1, px0, py0]; omega]) g3 (j - 1) (by omega)
  rw [show 1 + (j - 1) = j by omega] at this
  rw [this, Int.toNat_of_nonneg (by omega)]
def goB (a m here : Int) : Nat → Int → Int → Int → Int → Bool
  | 0, _, _, _, _ => true
  | f + 1, p, y, y', w => ((y % here == 0) == (p % m == 0)) && ((y % 2 == 0) == (p % 2 == 0)) && ((y % (here * here) == 0) == (p % (m * here) == 0)) && (a == 2 || (y - p) % (a - 1) == 0) &&
      decide (p ≤ y) && decide (w ≤ y') && goB a m here f (p + 1) y' (2 * a * y' - y) (w * (2 * a - 1))
def chkB : Bool := (List.range 8).all fun a => (List.range 6).all fun m => goB (a + 2) (m + 1) (py (a + 2) (m + 1)) 60 0 0 1 1
set_option maxHeartbeats 0 in
theorem chkB_ok : chkB = true := by decide +kernel
theorem goB_spec {a m here : Int} : ∀ (f p : Nat) (w : Int), goB a m here f p (py a p) (py a (p + 1)) w = true → ∀ i : Nat, i < f →
    decide (py a (p + i) % here = 0) = decide (((p + i : Nat) : Int) % m = 0) ∧ decide (py a (p + i) % 2 = 0) = decide (((p + i : Nat) : Int) % 2 = 0) ∧
    decide (py a (p + i) % (here * here) = 0) = decide (((p + i : Nat) : Int) % (m * here) = 0) ∧ (a = 2 ∨ (py a (p + i) - ((p + i : Nat) : Int)) % (a - 1) = 0) ∧
    ((p + i : Nat) : Int) ≤ py a (p + i) ∧ w * (2 * a - 1) ^ i ≤ py a (p + i + 1) := by
  intro f
  induction f with
  | zero => intro _ _ _ i hi; omega
  | succ f ih =>
    intro p w h i hi
    unfold goB at h
    simp only [Bool.and_eq_true, Bool.or_eq_true, decide_eq_true_eq] at h
    obtain ⟨⟨⟨⟨⟨⟨h1, h2⟩, h3⟩, h4⟩, h5⟩, h6⟩, h7⟩ := h
    match i with
    | 0 =>
      refine ⟨eq_of_beq h1, eq_of_beq h2, eq_of_beq h3, ?_, h5, by rw [Int.pow_zero, Int.mul_one]; exact h6⟩
      rcases h4 with h4 | h4
      · exact .inl (eq_of_beq h4)
      · exact .inr (eq_of_beq h4)
    | i + 1 =>
      rw [← py_rec] at h7
      have := ih (p + 1) _ (by exact_mod_cast h7) i (by omega)
      rw [show p + (i + 1) = p + 1 + i by omega, Int.pow_succ, Int.mul_comm ((2 * a - 1) ^ i), ← Int.mul_assoc]
      exact this
theorem loopB {a m : Nat} (ha : a < 8) (hm : m < 6) (i : Nat) (hi : i < 60) :
    decide (py (a + 2) i % py (a + 2) (m + 1) = 0) = decide ((i : Int) % (m + 1) = 0) ∧ decide (py (a + 2) i % 2 = 0) = decide ((i : Int) % 2 = 0) ∧
    decide (py (a + 2) i % (py (a + 2) (m + 1) * py (a + 2) (m + 1)) = 0) = decide ((i : Int) % ((m + 1) * py (a + 2) (m + 1)) = 0) ∧ ((a : Int) + 2 = 2 ∨ (py (a + 2) i - (i : Int)) % ((a : Int) + 2 - 1) = 0) ∧
    (i : Int) ≤ py (a + 2) i ∧ (2 * ((a : Int) + 2) - 1) ^ i ≤ py (a + 2) (i + 1) := by
  have h := chkB_ok
  unfold chkB at h
  have h1 := List.all_eq_true.mp h a (List.mem_range.mpr ha)
  have h2 := List.all_eq_true.mp h1 m (List.mem_range.mpr hm)
  have := goB_spec 60 0 1 h2 i hi
  simp only [Nat.zero_add, Int.one_mul] at this
  exact this
def chkC : Bool := (List.range 8).all fun a => (List.range 25).all fun n => common 400 (px (a + 2) n) (py (a + 2) n) == 1
set_option maxHeartbeats 0 in
theorem chkC_ok : chkC = true := by decide +kernel
theorem commonC {a n : Nat} (ha : a < 8) (hn : n < 25) : common 400 (px (a + 2) n) (py (a + 2) n) = 1 := by
  have h := chkC_ok
  unfold chkC at h
  have h1 := List.all_eq_true.mp h a (List.mem_range.mpr ha)
  exact eq_of_beq (List.all_eq_true.mp h1 n (List.mem_range.mpr hn))
end RR

namespace RR
open PySem PySem.Spec PyProof.Rows L2
def topS (i : Nat) : Stmt := PySem.Challenge.pw_runroots_k33_what_divides_a_member.main.body.getD i (.Pass ⟨0, 0, 0, 0⟩)
abbrev s__law_pairs : Stmt := topS 10
theorem sc__law_pairs : FnScope ["a", "count", "found", "k", "one", "two"] ["a", "count"] (defScope s__law_pairs) := ⟨rfl, rfl, rfl, by decide +kernel, rfl, by decide +kernel, by decide +kernel⟩
abbrev s_rank : Stmt := topS 4
theorem sc_rank : FnScope ["a", "m", "double", "before", "here", "n"] ["a", "m"] (defScope s_rank) := ⟨rfl, rfl, rfl, by decide +kernel, rfl, by decide +kernel, by decide +kernel⟩
abbrev s__doubled : Stmt := topS 2
theorem sc__doubled : FnScope ["x", "y"] ["x", "y"] (defScope s__doubled) := ⟨rfl, rfl, rfl, by decide +kernel, rfl, by decide +kernel, by decide +kernel⟩
abbrev s__next : Stmt := topS 3
theorem sc__next : FnScope ["x", "y", "a"] ["x", "y", "a"] (defScope s__next) := ⟨rfl, rfl, rfl, by decide +kernel, rfl, by decide +kernel, by decide +kernel⟩
abbrev s_pair : Stmt := topS 1
theorem sc_pair : FnScope ["n", "a", "x", "y", "digit"] ["n", "a"] (defScope s_pair) := ⟨rfl, rfl, rfl, by decide +kernel, rfl, by decide +kernel, by decide +kernel⟩
abbrev s__law_cell : Stmt := topS 7
theorem sc__law_cell : FnScope ["script", "k"] ["script", "k"] (defScope s__law_cell) := ⟨rfl, rfl, rfl, by decide +kernel, rfl, by decide +kernel, by decide +kernel⟩
abbrev s__law_is_integer : Stmt := topS 6
theorem sc__law_is_integer : FnScope ["actual"] ["actual"] (defScope s__law_is_integer) := ⟨rfl, rfl, rfl, by decide +kernel, rfl, by decide +kernel, by decide +kernel⟩
abbrev s__law_divides : Stmt := topS 11
theorem sc__law_divides : FnScope ["small", "great"] ["small", "great"] (defScope s__law_divides) := ⟨rfl, rfl, rfl, by decide +kernel, rfl, by decide +kernel, by decide +kernel⟩
abbrev s__law_common : Stmt := topS 12
theorem sc__law_common : FnScope ["x", "y", "k"] ["x", "y"] (defScope s__law_common) := ⟨rfl, rfl, rfl, by decide +kernel, rfl, by decide +kernel, by decide +kernel⟩
abbrev s_law : Stmt := topS 13
theorem sc_law : FnScope ["script", "number", "a", "m", "n", "k", "pairs", "here", "place", "found", "power", "x", "y", "one"] ["script"] (defScope s_law) := ⟨rfl, rfl, rfl, by decide +kernel, rfl, by decide +kernel, by decide +kernel⟩
local macro_rules | `(tactic| walk_at "sm") => `(tactic| first
  | assumption
  | exact Sm.lit (k := 64)
  | (refine' Sm.mul ?h1 ?h2; (case h1 => walk_at "sm"); (case h2 => walk_at "sm"))
  | (refine' Sm.ad ?h1 ?h2; (case h1 => walk_at "sm"); (case h2 => walk_at "sm"))
  | (refine' Sm.sb ?h1 ?h2; (case h1 => walk_at "sm"); (case h2 => walk_at "sm"))
  | (refine' Sm.neg ?h1; (case h1 => walk_at "sm"))
  | fail "sm")
local macro_rules | `(tactic| walk_at "rd") => `(tactic| repeat' first
  | (refine ⟨_, rfl, ?_⟩)
  | (refine ⟨_, _, rfl, rfl, ?_⟩)
  | (with_reducible refine tC_go ?_)
  | (with_reducible refine tNil_go ?_)
  | (with_reducible refine gTup_new (by with_unfolding_all rfl) ?_)
  | (with_reducible refine gTup_as (by first | exact sq_of (by assumption) | assumption) (by with_unfolding_all rfl) ?_)
  | (with_reducible refine ixT_new (by with_unfolding_all rfl) ?_)
  | (with_reducible refine ixT_as (by first | exact sq_of (by assumption) | assumption) (by with_unfolding_all rfl) ?_)
  | (refine ⟨_, _, (rfl : _ :: _ = _ :: _), ?_⟩)
  | (refine ⟨_, _, _, (rfl : _ :: _ = _ :: _), ?_⟩)
  | (refine ⟨rfl, ?_⟩)
  | (show _ ∧ _; refine And.intro (by omega) ?_)
  | ((with_reducible show CMulX _ _ ∧ _); refine And.intro (Sm.mx (by walk_at "sm") (by walk_at "sm") (by omega)) ?_)
  | ((with_reducible show CPow _ _ ∧ _); refine And.intro ⟨by decide, by decide, by decide⟩ ?_)
  | ((with_reducible show CDivW _ _ ∧ _); refine And.intro ⟨by first | omega | decide, by decide⟩ ?_)
  | (show _ ∧ _; refine And.intro (by assumption) ?_)
  | (show _ ∧ _; refine And.intro (Nat.le_of_ble_eq_true rfl) ?_)
  | ((with_reducible show tyV _ "list" _ _ ∧ _); refine And.intro (.inl ⟨rfl, _, .inl (.inl (by assumption))⟩) ?_)
  | fail "rd")

section
variable {P : Program} {w : World} {K : PySem.W.Frag} {mg : Str → Option Value} {base : Heap}
def sp__law_pairs (K : PySem.W.Frag) : Sp := fun vs H Q _ => ∃ (a : Int) (count B : Nat), vs = [.int a, .int count] ∧ 2 ≤ a ∧ Sm B a ∧ Sm B (px a (count + 1)) ∧ B ≤ 1000000 ∧ count ≤ 1000 ∧
  ∀ H' L, Same H H' → H L = none → PL a H' L count → Q (.ref L) H'
theorem ok__law_pairs {f : Addr} {fd : FuncData} (F : Fun K "_law_pairs" "_law_pairs" s__law_pairs f fd) (m_range : mg "range" = none) : FnOk P w K mg base CX0 1 f fd ["a", "count"] (sp__law_pairs K) := by
  refine F.ok sc__law_pairs (fun vs H Q E h => ?_) (fun cdv A outer s H vs Q E hr h => ?_)
  · obtain ⟨a, count, B, rfl, _⟩ := h
    rfl
  · obtain ⟨a, count, B, rfl, ha, sa, sx, hB, hc, q⟩ := h
    refine ⟨_, (pss_cons (ps_set (i := 2) sc__law_pairs.nd rfl (.inl rfl) (pe_lst (pa_cons (pe_tup (pa_cons pe_int (pa_cons pe_int pa_nil))) (pa_cons (pe_tup (pa_cons (pv 0) (pa_cons pe_int pa_nil))) pa_nil))))
      (pss_cons (ps_for PassesOwn.never rfl (pi_range1 (by rfl) m_range (pa_cons (pv 1) pa_nil)) (pg_name (i := 3) sc__law_pairs.nd rfl (.inl rfl)) (pss_cons (ps_par (by rfl) sc__law_pairs.nd (i := 4) (j := 5) rfl rfl (by decide) rfl rfl (pa_cons (pe_ix ix_list (pv 2) (pe_un un_neg pe_int) (fun _ _ => rfl)) (pa_cons (pe_ix ix_list (pv 2) (pe_un un_neg pe_int) (fun _ _ => rfl)) pa_nil)) (by rfl))
      (pss_one (ps_expr (pe_bm PySem.F.plainAttrs_list PySem.F.slot_list_append PySem.F.type_list_append mt_append (pv 2) (pa_cons (pe_tup (pa_cons (pe_op op_sub (pe_op op_mulX (pe_op op_mulX pe_int (pv 0)) (pe_ix ix_tup (pv 5) pe_int (fun _ _ => rfl))) (pe_ix ix_tup (pv 4) pe_int (fun _ _ => rfl))) (pa_cons (pe_op op_sub (pe_op op_mulX (pe_op op_mulX pe_int (pv 0)) (pe_ix ix_tup (pv 5) pe_int (fun _ _ => rfl))) (pe_ix ix_tup (pv 4) pe_int (fun _ _ => rfl))) pa_nil))) pa_nil))))))
      (pss_one (ps_ret (pe_slice sl_list (pv 2) po_none (po_some (pv 1))))))), ?_⟩
    walk_at "rd"
    intro p1 n1
    walk_at "rd"
    intro p2 n2
    walk_at "rd"
    intro L nL
    walk_at "rd"
    have h1 := same_upd (o := .lst [.ref p1, .ref p2]) nL _ _ (same_upd (o := .tup [.int a, .int 1]) n2 p1 (.tup [.int 1, .int 0]) upd_same)
    have h2 := same_upd (o := .lst [.ref p1, .ref p2]) nL p2 (.tup [.int a, .int 1]) upd_same
    have hL0 : H L = none := by
      cases e : H L with
      | none => rfl
      | some o => rw [same_upd n2 _ _ (same_upd n1 _ _ e)] at nL; cases nL
    have small : ∀ j : Nat, j ≤ count + 1 → Sm B (px a j) ∧ Sm B (py a j) := fun j hj =>
      ⟨sx.le (by have := pxy_pos ha j; omega) (px_mono ha hj), sx.le (pxy_pos ha j).1 (Int.le_trans (Int.le_of_lt (pxy_pos ha j).2) (px_mono ha hj))⟩
    refine for_rng (n := count) (fun k σ H' => ∃ (c3 c4 c5 : Option V), σ = [some (.int a), some (.int count), some (.ref L), c3, c4, c5] ∧ PL a H' L (k + 2) ∧ Same H H') ?_ ?_ ?_
    · refine ⟨none, none, none, rfl, ⟨[p1, p2], rfl, upd_same, fun i p hi => ?_⟩, ((same_upd n1).trans (same_upd n2)).trans (same_upd nL)⟩
      match i, hi with
      | 0, hi =>
        rw [← (Option.some.inj hi : p1 = p)]
        exact h1
      | 1, hi =>
        rw [← (Option.some.inj hi : p2 = p)]
        rw [py1, px1, px0, py0, Int.mul_one, Int.mul_zero, Int.mul_zero, Int.add_zero, Int.add_zero]
        exact h2
    · intro k σ H1 hk hP
      obtain ⟨c3, c4, c5, rfl, ⟨ps, eps, hL, hp⟩, sH⟩ := hP
      have i1 : ps[k]? = some (ps[k]'(by omega)) := List.getElem?_eq_getElem (by omega)
      have i2 : ps[k + 1]? = some (ps[k + 1]'(by omega)) := List.getElem?_eq_getElem (by omega)
      have t1 := hp _ _ i1
      have t2 := hp _ _ i2
      have s1 := small k (by omega)
      have s2 := small (k + 1) (by omega)
      obtain ⟨u1, u2⟩ := s1
      obtain ⟨u3, u4⟩ := s2
      generalize ps[k]'(by omega) = q1 at *
      generalize ps[k + 1]'(by omega) = q2 at *
      walk_at "rd"
      refine ixL_as (.inl (.inl hL)) (atI_neg (k := 2) (by decide) (by rw [List.length_map]; omega) (by rw [List.length_map, List.getElem?_map, show ps.length - 2 = k by omega, i1]; rfl)) ?_
      walk_at "rd"
      refine ixL_as (.inl (.inl hL)) (atI_neg (k := 1) (by decide) (by rw [List.length_map]; omega) (by rw [List.length_map, List.getElem?_map, show ps.length - 1 = k + 1 by omega, i2]; rfl)) ?_
      walk_at "rd"
      intro p3 n3
      walk_at "rd"
      have hL3 := same_upd (o := .tup [.int (2 * a * px a (k + 1) - px a k), .int (2 * a * py a (k + 1) - py a k)]) n3 _ _ hL
      refine app_go hL3 (by rw [List.length_map]; exact Nat.lt_of_le_of_lt (show ps.length ≤ 2000 by omega) (by decide)) ?_
      have hnew : (upd H1 p3 (.tup [.int (2 * a * px a (k + 1) - px a k), .int (2 * a * py a (k + 1) - py a k)])) p3 = some (.tup [.int (px a ps.length), .int (py a ps.length)]) := by
        rw [upd_same, eps, px_rec, py_rec]
      have hPL := PL.push hL3 (fun i t hi => same_upd (o := .tup [.int (2 * a * px a (k + 1) - px a k), .int (2 * a * py a (k + 1) - py a k)]) n3 _ _ (hp i t hi)) hnew
      rw [eps] at hPL
      exact ⟨_, _, _, rfl, hPL, Same.new (sH.trans (same_upd n3)) hL0⟩
    · intro σ H1 hP
      obtain ⟨c3, c4, c5, rfl, ⟨ps, eps, hL, hp⟩, sH⟩ := hP
      walk_at "rd"
      refine ⟨L, _, rfl, .inl (.inl hL), fun p np => ?_⟩
      refine q _ p (sH.trans (same_upd np)) (sH.free np) ⟨ps.take count, by rw [List.length_take]; omega, ?_, fun i t hi => ?_⟩
      · rw [upd_same, cut_take _ _ (by rw [List.length_map]; omega), List.map_take]
      · rw [List.getElem?_take] at hi
        split at hi
        · exact same_upd np _ _ (hp i t hi)
        · cases hi

def sp_rank (K : PySem.W.Frag) : Sp := fun vs H Q _ => ∃ (a : Int) (m : Nat), vs = [.int a, .int m] ∧ Sm 64 a ∧ 0 < m ∧ m ≤ 5000 ∧
  ∀ r : Nat, 1 ≤ r → r ≤ m * m → py a r % m = 0 → (∀ j, 1 ≤ j → j < r → py a j % m ≠ 0) → Q (.int r) H
theorem ok_rank {f : Addr} {fd : FuncData} (F : Fun K "rank" "rank" s_rank f fd)  : FnOk P w K mg base CX0 1 f fd ["a", "m"] (sp_rank K) := by
  refine F.ok sc_rank (fun vs H Q E h => ?_) (fun cdv A outer s H vs Q E hr h => ?_)
  · obtain ⟨a, m, rfl, _⟩ := h
    rfl
  · obtain ⟨a, m, rfl, sa, hm, hm2, q⟩ := h
    refine ⟨_, (pss_cons (ps_set (i := 2) sc_rank.nd rfl (.inl rfl) (pe_op op_mod (pe_op op_mulX pe_int (pv 0)) (pv 1)))
      (pss_cons (ps_par3 (by rfl) sc_rank.nd (i := 3) (j := 4) (l := 5) rfl rfl rfl (by decide) (by decide) (by decide) rfl rfl rfl (pa_cons pe_int (pa_cons (pe_op op_mod pe_int (pv 1)) (pa_cons pe_int pa_nil))) (by rfl))
      (pss_cons (ps_while PassesOwn.never (pt_cmpR op_ne (pv 4) pe_int (nomark _)) (pss_one (ps_par3 (by rfl) sc_rank.nd (i := 3) (j := 4) (l := 5) rfl rfl rfl (by decide) (by decide) (by decide) rfl rfl rfl (pa_cons (pv 4) (pa_cons (pe_op op_mod (pe_op op_sub (pe_op op_mulX (pv 2) (pv 4)) (pv 3)) (pv 1)) (pa_cons (pe_op op_add (pv 5) pe_int) pa_nil))) (by rfl))))
      (pss_one (ps_ret (pv 5)))))), ?_⟩
    have hm' : (0 : Int) < m := by omega
    have sm : Sm 64 (m : Int) := Sm.le (y := 5000) (Sm.lit (k := 64)) (by omega) (by omega)
    have st : ∀ z : Int, Sm 64 (z % (m : Int)) := fun z => sm.le (Int.emod_nonneg z (by omega)) (Int.le_of_lt (Int.emod_lt_of_pos z hm'))
    obtain ⟨r0, hr1, hr2, hr3⟩ := rank_ex a m hm
    walk_at "rd"
    refine ⟨fun k σ H' => ∃ (n : Nat), σ = [some (.int a), some (.int m), some (.int (2 * a % m)), some (.int (py a (n - 1) % m)), some (.int (py a n % m)), some (.int n)] ∧ 1 ≤ n ∧ n ≤ r0 ∧
      (∀ j, 1 ≤ j → j < n → py a j % m ≠ 0) ∧ k = r0 - n ∧ H' = H, ⟨_, 1, ?_, by decide, hr1, fun j h1 h2 => by omega, rfl, rfl⟩, ?_⟩
    · rw [show py a 1 = 1 by rw [py1, px0, py0]; omega, show py a (1 - 1) = 0 from rfl, Int.zero_emod]
      rfl
    · intro k σ H1 hP
      obtain ⟨n, rfl, hn1, hn2, hmin, rfl, rfl⟩ := hP
      walk_at "rd"
      refine ite2 (fun e => ?_) (fun e => ?_)
      · have hne : py a n % m ≠ 0 := fun z => by
          rw [z] at e
          exact absurd e (by decide)
        have hlt : n < r0 := by
          by_cases c : n < r0
          · exact c
          · have : n = r0 := by omega
            rw [this] at hne
            exact absurd hr3 hne
        have s1 := st (2 * a)
        have s2 := st (py a n)
        refine ⟨fun σ' H' => σ' = [some (.int a), some (.int m), some (.int (2 * a % m)), some (.int (py a n % m)), some (.int (py a (n + 1) % m)), some (.int ((n + 1 : Nat) : Int))] ∧ H' = H1, ?_, ?_⟩
        · intro σ' H' hN
          obtain ⟨rfl, rfl⟩ := hN
          refine ⟨_, show r0 - (n + 1) < r0 - n by omega, n + 1, rfl, by omega, by omega, fun j h1 h2 => ?_, rfl, rfl⟩
          by_cases c : j < n
          · exact hmin j h1 c
          · have : j = n := by omega
            rw [this]
            exact hne
        · walk_at "rd"
          refine ⟨?_, rfl⟩
          have key : (2 * a % (m : Int) * (py a n % m) - py a (n - 1) % m) % m = py a (n + 1) % m := by
            have e1 := py_rec a (n - 1)
            rw [show n - 1 + 2 = n + 1 by omega, show n - 1 + 1 = n by omega] at e1
            rw [e1]
            have d1 := Int.mul_ediv_add_emod (2 * a) m
            have d2 := Int.mul_ediv_add_emod (py a n) m
            have d3 := Int.mul_ediv_add_emod (py a (n - 1)) m
            generalize 2 * a % (m : Int) = A at *
            generalize py a n % (m : Int) = C at *
            generalize py a (n - 1) % (m : Int) = D at *
            exact (modeq ((2 * a / m) * py a n + A * (py a n / m) - py a (n - 1) / m) (by grind)).symm
          rw [← key]
          rfl
      · have h0 : py a n % m = 0 := by
          by_cases c : py a n % (m : Int) = 0
          · exact c
          · refine absurd ?_ e
            show (!decide (V.int (py a n % m) = V.int 0)) = true
            rw [dV, decide_eq_false c]
            rfl
        walk_at "rd"
        exact q n hn1 (by omega) h0 hmin

def sp__doubled (K : PySem.W.Frag) : Sp := fun vs H Q _ => ∃ (x y : Int) (B : Nat), vs = [.int x, .int y] ∧ Sm B x ∧ Sm B y ∧ B ≤ 67108800 ∧
  ∀ p, H p = none → Q (.ref p) (upd H p (.tup [.int (2 * x * x - 1), .int (2 * x * y)]))
theorem ok__doubled {f : Addr} {fd : FuncData} (F : Fun K "_doubled" "_doubled" s__doubled f fd)  : FnOk P w K mg base CX0 1 f fd ["x", "y"] (sp__doubled K) := by
  refine F.ok sc__doubled (fun vs H Q E h => ?_) (fun cdv A outer s H vs Q E hr h => ?_)
  · obtain ⟨x, y, B, rfl, _⟩ := h
    rfl
  · obtain ⟨x, y, B, rfl, hx, hy, hB, q⟩ := h
    refine ⟨_, (pss_one (ps_ret (pe_tup (pa_cons (pe_op op_sub (pe_op op_mulX (pe_op op_mulX pe_int (pv 0)) (pv 0)) pe_int) (pa_cons (pe_op op_mulX (pe_op op_mulX pe_int (pv 0)) (pv 1)) pa_nil))))), ?_⟩
    walk_at "rd"
    exact q

def sp__next (K : PySem.W.Frag) : Sp := fun vs H Q _ => ∃ (x y a : Int) (A B : Nat), vs = [.int x, .int y, .int a] ∧ Sm B x ∧ Sm B y ∧ Sm A a ∧ 3 * A + B + 200 ≤ 134217728 ∧
  ∀ p, H p = none → Q (.ref p) (upd H p (.tup [.int (a * x + (a * a - 1) * y), .int (x + a * y)]))
theorem ok__next {f : Addr} {fd : FuncData} (F : Fun K "_next" "_next" s__next f fd)  : FnOk P w K mg base CX0 1 f fd ["x", "y", "a"] (sp__next K) := by
  refine F.ok sc__next (fun vs H Q E h => ?_) (fun cdv A outer s H vs Q E hr h => ?_)
  · obtain ⟨x, y, a, C, B, rfl, _⟩ := h
    rfl
  · obtain ⟨x, y, a, C, B, rfl, hx, hy, ha, hB, q⟩ := h
    refine ⟨_, (pss_one (ps_ret (pe_tup (pa_cons (pe_op op_add (pe_op op_mulX (pv 2) (pv 0)) (pe_op op_mulX (pe_op op_sub (pe_op op_mulX (pv 2) (pv 2)) pe_int) (pv 1))) (pa_cons (pe_op op_add (pv 0) (pe_op op_mulX (pv 2) (pv 1))) pa_nil))))), ?_⟩
    walk_at "rd"
    exact q

def sp_pair (K : PySem.W.Frag) : Sp := fun vs H Q _ => ∃ (n : Nat) (a : Int) (B : Nat), vs = [.int n, .int a] ∧ 2 ≤ a ∧ Sm 64 a ∧ Sm B (px a n) ∧ B ≤ 134217000 ∧ n < 2 ^ 10000 ∧
  ∀ H' p, Same H H' → H p = none → H' p = some (.tup [.int (px a n), .int (py a n)]) → Q (.ref p) H'
theorem ok_pair {f : Addr} {fd : FuncData} (F : Fun K "pair" "pair" s_pair f fd) (C__doubled : Cal P w K mg base "_doubled" 1 ["x", "y"] (sp__doubled K)) (C__next : Cal P w K mg base "_next" 1 ["x", "y", "a"] (sp__next K)) : FnOk P w K mg base CX0 2 f fd ["n", "a"] (sp_pair K) := by
  refine F.ok sc_pair (fun vs H Q E h => ?_) (fun cdv A outer s H vs Q E hr h => ?_)
  · obtain ⟨n, a, B, rfl, _⟩ := h
    rfl
  · obtain ⟨n, a, B, rfl, ha, sa, sx, hB, hn, q⟩ := h
    refine ⟨_, (pss_cons (ps_asg (pe_tup (pa_cons pe_int (pa_cons pe_int pa_nil))) (pg_tup (by rfl) (pgs_cons (pg_name (i := 2) sc_pair.nd rfl (.inl rfl)) (pgs_cons (pg_name (i := 3) sc_pair.nd rfl (.inl rfl)) pgs_nil))))
      (pss_cons (ps_for PassesOwn.never rfl (pi_str (pe_fmtB (pv 0))) (pg_name (i := 4) sc_pair.nd rfl (.inl rfl)) (pss_cons (ps_asg (pe_cal C__doubled hr (by rfl) (pa_cons (pv 2) (pa_cons (pv 3) pa_nil))) (pg_tup (by rfl) (pgs_cons (pg_name (i := 2) sc_pair.nd rfl (.inl rfl)) (pgs_cons (pg_name (i := 3) sc_pair.nd rfl (.inl rfl)) pgs_nil))))
      (pss_one (ps_if (pt_cmpR op_eq (pv 4) pe_str (nomark _)) (pss_one (ps_asg (pe_cal C__next hr (by rfl) (pa_cons (pv 2) (pa_cons (pv 3) (pa_cons (pv 1) pa_nil)))) (pg_tup (by rfl) (pgs_cons (pg_name (i := 2) sc_pair.nd rfl (.inl rfl)) (pgs_cons (pg_name (i := 3) sc_pair.nd rfl (.inl rfl)) pgs_nil))))) pss_nil))))
      (pss_one (ps_ret (pe_tup (pa_cons (pv 2) (pa_cons (pv 3) pa_nil))))))), ?_⟩
    walk_at "rd"
    intro c nc
    walk_at "rd"
    refine ⟨Nat.le_trans (bin_len hn (by decide)) (by decide), _, rfl, ?_⟩
    refine for_str (fun i σ H' => ∃ (c5 : Option V), σ = [some (.int n), some (.int a), some (.int (px a (bval ((binL n).take i)))), some (.int (py a (bval ((binL n).take i)))), c5] ∧ Same H H') ?_ ?_ ?_
    · exact ⟨none, rfl, same_upd nc⟩
    · intro i d σ H1 hd hP
      obtain ⟨c5, rfl, sm⟩ := hP
      have hd1 : (binL n)[i]? = some d := by rw [← hd]; exact (List.getElem?_toArray).symm
      have hb := bval_take hd1
      have hle := bval_le (binL n) (i + 1)
      rw [bval_bin] at hle
      obtain ⟨v, hv⟩ : ∃ v, v = bval ((binL n).take i) := ⟨_, rfl⟩
      rw [← hv] at hb ⊢
      have s1 : Sm ((B + 1) / 2) (px a v) := half_sm ha (by omega) sx
      have s2 : Sm ((B + 1) / 2) (py a v) := s1.le (pxy_pos ha v).1 (Int.le_of_lt (pxy_pos ha v).2)
      walk_at "rd"
      refine ⟨_, _, (B + 1) / 2, rfl, s1, s2, by omega, fun p1 n1 => ?_⟩
      walk_at "rd"
      have m1 := sm.trans (same_upd (o := .tup [.int (2 * px a v * px a v - 1), .int (2 * px a v * py a v)]) n1)
      rcases bin_mem n d (List.mem_of_getElem? hd1) with rfl | rfl
      · refine ite2 (fun e => absurd e (by decide)) (fun _ => ?_)
        refine ⟨some (.str ⟨#[48]⟩), ?_, m1⟩
        rw [hb, show 2 * v + (48 - 48) = 2 * v by omega, px_dbl, py_dbl]
        rfl
      · refine ite2 (fun _ => ?_) (fun e => absurd (by decide) e)
        have e1 : bval ((binL n).take (i + 1)) = 2 * v + 1 := by omega
        have s3 : Sm B (2 * px a v * px a v - 1) := by
          rw [← px_dbl]
          exact sx.le (by have := pxy_pos ha (2 * v); omega) (px_mono ha (by omega))
        have s4 : Sm B (2 * px a v * py a v) := by
          rw [← py_dbl]
          exact sx.le (pxy_pos ha (2 * v)).1 (Int.le_trans (Int.le_of_lt (pxy_pos ha (2 * v)).2) (px_mono ha (by omega)))
        walk_at "rd"
        refine ⟨_, _, _, 64, B, rfl, s3, s4, sa, by omega, fun p2 n2 => ?_⟩
        walk_at "rd"
        refine ⟨some (.str ⟨#[49]⟩), ?_, m1.trans (same_upd n2)⟩
        rw [e1, px1, py1, px_dbl, py_dbl]
        rfl
    · intro σ H1 hP
      obtain ⟨c5, rfl, sm⟩ := hP
      have e : (binL n).take (binS n).cps.size = binL n := List.take_of_length_le (by show _ ≤ (binL n).toArray.size; simp)
      rw [e, bval_bin]
      walk_at "rd"
      intro p np
      exact q _ p (sm.trans (same_upd np)) (sm.free np) upd_same

def sp__law_cell (K : PySem.W.Frag) : Sp := fun vs H Q _ => ∃ (a : Addr) (ns : List Int) (k : Nat), vs = [.ref a, .int k] ∧ SqL K H a (ns.map V.int) ∧ Q (.int (ns.getD k 0)) H
theorem ok__law_cell {f : Addr} {fd : FuncData} (F : Fun K "_law_cell" "_law_cell" s__law_cell f fd) (m_len : mg "len" = none) : FnOk P w K mg base CX0 1 f fd ["script", "k"] (sp__law_cell K) := by
  refine F.ok sc__law_cell (fun vs H Q E h => ?_) (fun cdv A outer s H vs Q E hr h => ?_)
  · obtain ⟨a, ns, k, rfl, _⟩ := h
    rfl
  · obtain ⟨a, ns, k, rfl, hS, q⟩ := h
    refine ⟨_, (pss_cons (ps_if (pt_cmpR op_lt (pv 1) (pe_callB call_len_seq (by rfl) m_len (by decide +kernel) (pa_cons (pv 0) pa_nil)) (nomark _)) (pss_one (ps_ret (pe_ix ix_list (pv 0) (pv 1) (fun _ _ => rfl)))) pss_nil)
      (pss_one (ps_ret pe_int))), ?_⟩
    walk_at "rd"
    refine ⟨_, _, rfl, .inl hS, ?_⟩
    walk_at "rd"
    refine ite2 (fun e => ?_) (fun e => ?_)
    · have h1 : k < ns.length := by
        have := of_decide_eq_true e
        rw [List.length_map] at this
        omega
      walk_at "rd"
      refine ⟨_, _, _, .int ns[k], rfl, rfl, hS, atI_nat (by rw [List.getElem?_map, List.getElem?_eq_getElem h1]; rfl), ?_⟩
      rw [List.getD_eq_getElem?_getD, List.getElem?_eq_getElem h1] at q
      exact q
    · have h1 : ¬ k < ns.length := fun l => e (decide_eq_true (by rw [List.length_map]; omega))
      walk_at "rd"
      rw [List.getD_eq_getElem?_getD, List.getElem?_eq_none (by omega)] at q
      exact q

def sp__law_is_integer (K : PySem.W.Frag) : Sp := fun vs H Q _ => ∃ (i : Int), vs = [.int i] ∧ Q (.bl true) H
theorem ok__law_is_integer {f : Addr} {fd : FuncData} (F : Fun K "_law_is_integer" "_law_is_integer" s__law_is_integer f fd) (m_isinstance : mg "isinstance" = none) (m_int : mg "int" = none) (m_bool : mg "bool" = none) : FnOk P w K mg base CX0 1 f fd ["actual"] (sp__law_is_integer K) := by
  refine F.ok sc__law_is_integer (fun vs H Q E h => ?_) (fun cdv A outer s H vs Q E hr h => ?_)
  · obtain ⟨i, rfl, _⟩ := h
    rfl
  · obtain ⟨i, rfl, q⟩ := h
    refine ⟨_, (pss_one (ps_ret (pe_and (pe_callB isi_int (by rfl) m_isinstance (by decide +kernel) (pa_cons (pv 0) (pa_cons (pe_bltn (v := .ty "int") rfl m_int (by decide +kernel) rfl) pa_nil))) (pe_one (pe_not (pe_callB isi_bool (by rfl) m_isinstance (by decide +kernel) (pa_cons (pv 0) (pa_cons (pe_bltn (v := .ty "bool") rfl m_bool (by decide +kernel) rfl) pa_nil)))))))), ?_⟩
    walk_at "rd"
    exact q

def sp__law_divides (K : PySem.W.Frag) : Sp := fun vs H Q _ => ∃ (s g : Int), vs = [.int s, .int g] ∧ 0 < s ∧ Q (.bl (decide (g % s = 0))) H
theorem ok__law_divides {f : Addr} {fd : FuncData} (F : Fun K "_law_divides" "_law_divides" s__law_divides f fd) (m_int : mg "int" = none) : FnOk P w K mg base CX0 1 f fd ["small", "great"] (sp__law_divides K) := by
  refine F.ok sc__law_divides (fun vs H Q E h => ?_) (fun cdv A outer s H vs Q E hr h => ?_)
  · obtain ⟨s, g, rfl, _⟩ := h
    rfl
  · obtain ⟨s, g, rfl, hs, q⟩ := h
    refine ⟨_, (pss_cons (ps_if (pt_cmpR op_eq (pv 0) pe_int (nomark _)) (pss_one (ps_ret (pe_cmpR op_eq (pv 1) pe_int (nomark _)))) pss_nil)
      (pss_one (ps_ret (pe_cmpR op_eq (pe_op op_mod (pe_callTy call_intI (by rfl) m_int (by decide +kernel) (pa_cons (pv 1) pa_nil)) (pv 0)) pe_int (nomark _))))), ?_⟩
    walk_at "rd"
    refine ite2 (fun e => ?_) (fun _ => ?_)
    · have := V.int.inj (of_decide_eq_true e)
      omega
    · walk_at "rd"
      rw [← dV] at q
      exact q

def sp__law_common (K : PySem.W.Frag) : Sp := fun vs H Q _ => ∃ (x y : Int), vs = [.int x, .int y] ∧ 0 ≤ x ∧ 0 ≤ y ∧ Sm 1000 x ∧ Sm 1000 y ∧ Q (.int (common 400 x y)) H
theorem ok__law_common {f : Addr} {fd : FuncData} (F : Fun K "_law_common" "_law_common" s__law_common f fd) (m_range : mg "range" = none) : FnOk P w K mg base CX0 1 f fd ["x", "y"] (sp__law_common K) := by
  refine F.ok sc__law_common (fun vs H Q E h => ?_) (fun cdv A outer s H vs Q E hr h => ?_)
  · obtain ⟨x, y, rfl, _⟩ := h
    rfl
  · obtain ⟨x, y, rfl, hx, hy, sx, sy, q⟩ := h
    refine ⟨_, (pss_cons (ps_for PassesOwn.never rfl (pi_range1 (by rfl) m_range (pa_cons pe_int pa_nil)) (pg_name (i := 2) sc__law_common.nd rfl (.inl rfl)) (pss_one (ps_if (pt_cmpR op_gt (pv 1) pe_int (nomark _)) (pss_one (ps_par (by rfl) sc__law_common.nd (i := 0) (j := 1) rfl rfl (by decide) rfl rfl (pa_cons (pv 1) (pa_cons (pe_op op_sub (pv 0) (pe_op op_mulX (pe_op op_fdivW (pv 0) (pv 1)) (pv 1))) pa_nil)) (by rfl))) pss_nil)))
      (pss_one (ps_ret (pv 0)))), ?_⟩
    walk_at "rd"
    refine for_rng (n := 400) (fun k σ H' => ∃ (u v : Int) (c2 : Option V), σ = [some (.int u), some (.int v), c2] ∧ 0 ≤ u ∧ 0 ≤ v ∧ Sm 1000 u ∧ Sm 1000 v ∧ common (400 - k) u v = common 400 x y ∧ H' = H) ?_ ?_ ?_
    · exact ⟨x, y, none, rfl, hx, hy, sx, sy, rfl, rfl⟩
    · intro k σ H1 hk hP
      obtain ⟨u, v, c2, rfl, hu, hv, su, sv, hc, rfl⟩ := hP
      obtain ⟨f, hf⟩ : ∃ f, 400 - k = f + 1 := ⟨399 - k, by omega⟩
      rw [hf] at hc
      unfold common at hc
      rw [show 400 - (k + 1) = f by omega]
      walk_at "rd"
      refine ite2 (fun e => ?_) (fun e => ?_)
      · have hv0 : 0 < v := of_decide_eq_true e
        rw [if_pos hv0] at hc
        have em : u - u / v * v = u % v := by
          have := Int.mul_ediv_add_emod u v
          rw [Int.mul_comm] at this
          omega
        have r1 := Int.emod_nonneg u (show v ≠ 0 by omega)
        have r2 := Int.emod_lt_of_pos u hv0
        have sq : Sm 1000 (u / v) := su.le (Int.ediv_nonneg hu hv) (Int.ediv_le_self v hu)
        walk_at "rd"
        refine ⟨wide_div hv0 sv (by decide) (by decide), ?_⟩
        walk_at "rd"
        rw [em] at hc ⊢
        exact ⟨sv.le r1 (Int.le_of_lt r2), hc, rfl⟩
      · have hv0 : ¬ 0 < v := fun l => e (decide_eq_true l)
        rw [if_neg hv0] at hc
        walk_at "rd"
        rfl
    · intro σ H1 hP
      obtain ⟨u, v, c2, rfl, hu, hv, su, sv, hc, rfl⟩ := hP
      rw [← hc] at q
      walk_at "rd"
      exact q

def sp_law (K : PySem.W.Frag) : Sp := fun vs H Q _ => ∃ (a : Addr) (ns : List Int), vs = [.ref a] ∧ SqL K H a (ns.map V.int) ∧ ns.length ≤ 63 ∧ ∀ H', Q (.bl true) H'
theorem ok_law {f : Addr} {fd : FuncData} (F : Fun K "law" "law" s_law f fd) (C__law_pairs : Cal P w K mg base "_law_pairs" 1 ["a", "count"] (sp__law_pairs K)) (C_rank : Cal P w K mg base "rank" 1 ["a", "m"] (sp_rank K)) (C_pair : Cal P w K mg base "pair" 2 ["n", "a"] (sp_pair K)) (C__law_cell : Cal P w K mg base "_law_cell" 1 ["script", "k"] (sp__law_cell K)) (C__law_is_integer : Cal P w K mg base "_law_is_integer" 1 ["actual"] (sp__law_is_integer K)) (C__law_divides : Cal P w K mg base "_law_divides" 1 ["small", "great"] (sp__law_divides K)) (C__law_common : Cal P w K mg base "_law_common" 1 ["x", "y"] (sp__law_common K)) (m_range : mg "range" = none) (m_int : mg "int" = none) (m_any : mg "any" = none) (m_min : mg "min" = none) : FnOk P w K mg base CX0 3 f fd ["script"] (sp_law K) := by
  refine F.ok sc_law (fun vs H Q E h => ?_) (fun cdv A outer s H vs Q E hr h => ?_)
  · obtain ⟨a, ns, rfl, _⟩ := h
    rfl
  · obtain ⟨sa, ns, rfl, hS, hlen, q⟩ := h
    refine ⟨_, (pss_cons (ps_set (i := 1) sc_law.nd rfl (.inl rfl) (pe_op op_mod (pe_callTy call_intI (by rfl) m_int (by decide +kernel) (pa_cons (pe_cal C__law_cell (hr.mono (by decide)) (by rfl) (pa_cons (pv 0) (pa_cons pe_int pa_nil))) pa_nil)) pe_int))
      (pss_cons (ps_set (i := 2) sc_law.nd rfl (.inl rfl) (pe_op op_add pe_int (pe_op op_mod (pv 1) pe_int)))
      (pss_cons (ps_par (by rfl) sc_law.nd (i := 3) (j := 4) rfl rfl (by decide) rfl rfl (pa_cons (pe_op op_add pe_int (pe_op op_mod (pe_op op_fdivW (pv 1) pe_int) pe_int)) (pa_cons (pe_op op_mod (pe_op op_fdivW (pv 1) pe_int) pe_int) pa_nil)) (by rfl))
      (pss_cons (ps_set (i := 5) sc_law.nd rfl (.inr rfl) (pe_op op_add pe_int (pe_op op_mod (pe_op op_fdivW (pv 1) pe_int) pe_int)))
      (pss_cons (ps_set (i := 6) sc_law.nd rfl (.inl rfl) (pe_cal C__law_pairs (hr.mono (by decide)) (by rfl) (pa_cons (pv 2) (pa_cons pe_int pa_nil))))
      (pss_cons (ps_par (by rfl) sc_law.nd (i := 7) (j := 8) rfl rfl (by decide) rfl rfl (pa_cons (pe_ix ix_tup (pe_ix ix_list (pv 6) pe_int (fun _ _ => rfl)) pe_int (fun _ _ => rfl)) (pa_cons pe_int pa_nil)) (by rfl))
      (pss_cons (ps_set (i := 9) sc_law.nd rfl (.inl rfl) (pe_cal C_rank (hr.mono (by decide)) (by rfl) (pa_cons (pv 2) (pa_cons (pv 5) pa_nil))))
      (pss_cons (ps_if (PW.pt (pw_or (pt_not (pt_val (pe_cal C__law_is_integer (hr.mono (by decide)) (by rfl) (pa_cons (pv 9) pa_nil)))) (pw_or1 (pt_cmpR op_lt (pv 9) pe_int (nomark _))))) (pss_one (ps_ret pe_bl)) pss_nil)
      (pss_cons (ps_if (pt_cmpR op_eq (pe_op op_mod (pe_op op_fdivW (pv 1) pe_int) pe_int) pe_int (nomark _)) (pss_cons (ps_set (i := 5) sc_law.nd rfl (.inr rfl) (pe_op op_add pe_int (pe_op op_mod (pv 1) pe_int)))
      (pss_cons (ps_set (i := 9) sc_law.nd rfl (.inl rfl) (pe_cal C_rank (hr.mono (by decide)) (by rfl) (pa_cons (pv 2) (pa_cons (pv 5) pa_nil))))
      (pss_one (ps_ret (pe_and (pe_cmpR op_ge (pv 9) pe_int (nomark _)) (pe_and (pe_cal C__law_divides (hr.mono (by decide)) (by rfl) (pa_cons (pv 5) (pa_cons (pe_ix ix_tup (pe_cal C_pair hr (by rfl) (pa_cons (pv 9) (pa_cons (pv 2) pa_nil))) pe_int (fun _ _ => rfl)) pa_nil))) (pe_one (pe_not (pe_callB (cr_any rfl) (by rfl) m_any (by decide +kernel) (pa_cons (pe_lc (own := [("one", 13)]) (g := gName 13) (by rfl) sc_law.nd (pi_list (pe_slice sl_list (pv 6) (po_some pe_int) (po_some (pe_callB (call_min2 rfl) (by rfl) m_min (by decide +kernel) (pa_cons (pv 9) (pa_cons pe_int pa_nil)))))) (blkOk_by (own := [("one", 13)]) (N := ["script", "number", "a", "m", "n", "k", "pairs", "here", "place", "found", "power", "x", "y", "one"]) (sc := defScope s_law) (by decide +kernel)) (fun _ _ _ _ _ => pg_name (i := 13) sc_law.nd rfl (Or.inl rfl)) (fun _ _ _ _ _ => pts_nil) (fun _ _ _ _ _ => (pe_cal C__law_divides (hr.mono (by decide)) (by rfl) (pa_cons (pv 5) (pa_cons (pe_ix (show IxR _ (rIxT K) from ix_tup) (pv 13) pe_int (fun _ _ => rfl)) pa_nil))))) pa_nil)))))))))) pss_nil)
      (pss_cons (ps_for PassesOwn.never rfl (pi_range2 (by rfl) m_range (pa_cons pe_int (pa_cons pe_int pa_nil))) (pg_name (i := 8) sc_law.nd rfl (.inl rfl)) (pss_one (ps_if (pt_cmpR op_ne (pe_cal C__law_divides (hr.mono (by decide)) (by rfl) (pa_cons (pv 5) (pa_cons (pe_ix ix_tup (pe_ix ix_list (pv 6) (pv 8) (fun _ _ => rfl)) pe_int (fun _ _ => rfl)) pa_nil))) (pe_cmpR op_eq (pe_op op_mod (pe_callTy call_intI (by rfl) m_int (by decide +kernel) (pa_cons (pv 8) pa_nil)) (pv 9)) pe_int (nomark _)) (nomark _)) (pss_one (ps_ret pe_bl)) pss_nil)))
      (pss_cons (ps_set (i := 7) sc_law.nd rfl (.inl rfl) (pe_ix ix_tup (pe_cal C_pair hr (by rfl) (pa_cons (pv 3) (pa_cons (pv 2) pa_nil))) pe_int (fun _ _ => rfl)))
      (pss_cons (ps_set (i := 10) sc_law.nd rfl (.inl rfl) pe_int)
      (pss_cons (ps_for PassesOwn.never rfl (pi_range1 (by rfl) m_range (pa_cons pe_int pa_nil)) (pg_name (i := 8) sc_law.nd rfl (.inl rfl)) (pss_cons (ps_asg (pe_ix ix_list (pv 6) (pv 8) (fun _ _ => rfl)) (pg_tup (by rfl) (pgs_cons (pg_name (i := 11) sc_law.nd rfl (.inl rfl)) (pgs_cons (pg_name (i := 12) sc_law.nd rfl (.inl rfl)) pgs_nil))))
      (pss_cons (ps_if (PW.pt (pw_or (pt_cmpR op_ne (pe_cal C__law_divides (hr.mono (by decide)) (by rfl) (pa_cons (pv 7) (pa_cons (pv 12) pa_nil))) (pe_cmpR op_eq (pe_op op_mod (pe_callTy call_intI (by rfl) m_int (by decide +kernel) (pa_cons (pv 8) pa_nil)) (pv 3)) pe_int (nomark _)) (nomark _)) (pw_or1 (pt_cmpR op_ne (pe_cmpR op_eq (pe_op op_mod (pe_callTy call_intI (by rfl) m_int (by decide +kernel) (pa_cons (pv 12) pa_nil)) pe_int) pe_int (nomark _)) (pe_cmpR op_eq (pe_op op_mod (pe_callTy call_intI (by rfl) m_int (by decide +kernel) (pa_cons (pv 8) pa_nil)) pe_int) pe_int (nomark _)) (nomark _))))) (pss_one (ps_ret pe_bl)) pss_nil)
      (pss_cons (ps_if (pt_cmpR op_ne (pe_cal C__law_divides (hr.mono (by decide)) (by rfl) (pa_cons (pe_op op_mulX (pv 7) (pv 7)) (pa_cons (pv 12) pa_nil))) (pe_cal C__law_divides (hr.mono (by decide)) (by rfl) (pa_cons (pe_op op_mulX (pv 3) (pv 7)) (pa_cons (pv 8) pa_nil))) (nomark _)) (pss_one (ps_ret pe_bl)) pss_nil)
      (pss_cons (ps_if (PW.pt (pw_or (PW.pt (pw_and (pt_cmpR op_gt (pv 2) pe_int (nomark _)) (pw_and1 (pt_cmpR op_ne (pe_op op_mod (pe_callTy call_intI (by rfl) m_int (by decide +kernel) (pa_cons (pe_op op_sub (pv 12) (pv 8)) pa_nil)) (pe_op op_sub (pv 2) pe_int)) pe_int (nomark _))))) (pw_or (pt_cmpR op_lt (pv 12) (pv 8) (nomark _)) (pw_or1 (pt_cmpR op_lt (pe_ix ix_tup (pe_ix ix_list (pv 6) (pe_op op_add (pv 8) pe_int) (fun _ _ => rfl)) pe_int (fun _ _ => rfl)) (pv 10) (nomark _)))))) (pss_one (ps_ret pe_bl)) pss_nil)
      (pss_one (ps_set (i := 10) sc_law.nd rfl (.inl rfl) (pe_op op_mulX (pv 10) (pe_op op_sub (pe_op op_mulX pe_int (pv 2)) pe_int)))))))))
      (pss_one (ps_ret (pe_and (pe_cmpR (op_eq2 hr.units) (pe_cal C_pair hr (by rfl) (pa_cons (pv 4) (pa_cons (pv 2) pa_nil))) (pe_ix ix_list (pv 6) (pv 4) (fun _ _ => rfl)) (nomark _)) (pe_one (pe_cmpR op_eq (pe_cal C__law_common (hr.mono (by decide)) (by rfl) (pa_cons (pe_ix ix_tup (pe_ix ix_list (pv 6) (pv 4) (fun _ _ => rfl)) pe_int (fun _ _ => rfl)) (pa_cons (pe_ix ix_tup (pe_ix ix_list (pv 6) (pv 4) (fun _ _ => rfl)) pe_int (fun _ _ => rfl)) pa_nil))) pe_int (nomark _))))))))))))))))))), ?_⟩
    walk_at "rd"
    refine ⟨_, _, 0, rfl, hS, ?_⟩
    generalize ns.getD 0 0 = z
    obtain ⟨N, eN⟩ : ∃ N : Nat, z % 900000 = N := ⟨(z % 900000).toNat, by omega⟩
    obtain ⟨a', ea'⟩ : ∃ a' : Nat, a' = N % 8 := ⟨_, rfl⟩
    obtain ⟨m', em'⟩ : ∃ m' : Nat, m' = N / 8 % 6 := ⟨_, rfl⟩
    obtain ⟨n', en'⟩ : ∃ n' : Nat, n' = N / 48 % 25 := ⟨_, rfl⟩
    obtain ⟨k', ek'⟩ : ∃ k' : Nat, k' = N / 1200 % 60 := ⟨_, rfl⟩
    have ea : 2 + z % 900000 % 8 = (a' : Int) + 2 := by omega
    have em : 1 + z % 900000 / 8 % 6 = ((m' + 1 : Nat) : Int) := by omega
    have en : z % 900000 / 48 % 25 = (n' : Int) := by omega
    have ek : 1 + z % 900000 / 1200 % 60 = ((k' + 1 : Nat) : Int) := by omega
    have ha8 : a' < 8 := by omega
    have hm6 : m' < 6 := by omega
    have hn25 : n' < 25 := by omega
    have hk60 : k' < 60 := by omega
    have ha : (2 : Int) ≤ (a' : Int) + 2 := by omega
    have s64 : Sm 64 ((a' : Int) + 2) := Sm.le (y := 1000) (Sm.lit (k := 64)) (by omega) (by omega)
    have sx : ∀ j : Nat, j ≤ 151 → Sm 1000 (px ((a' : Int) + 2) j) := fun j hj => Nat.lt_of_lt_of_le (px_nat ha j 5 (by omega)) (Nat.pow_le_pow_right (by decide) (by omega))
    have sy : ∀ j : Nat, j ≤ 151 → Sm 1000 (py ((a' : Int) + 2) j) := fun j hj => (sx j hj).le (pxy_pos ha j).1 (Int.le_of_lt (pxy_pos ha j).2)
    have small : ∀ j : Nat, j < 2 ^ 30 → j < 2 ^ 10000 := fun j hj => Nat.lt_of_lt_of_le hj (Nat.pow_le_pow_right (by decide) (by decide))
    walk_at "rd"
    refine ⟨(a' : Int) + 2, 150, 1000, ?_, ha, s64.mono (by decide), sx _ (by decide), by decide, by decide, fun H1 L m1 f1 hPL => ?_⟩
    · show [V.int (2 + z % 900000 % 8), V.int 150] = _
      rw [ea]
      rfl
    walk_at "rd"
    refine PL.at' hPL (i := 1) rfl (by decide) (fun t0 ht0 => ?_)
    walk_at "rd"
    refine ⟨(a' : Int) + 2, k' + 1, ?_, s64, by omega, by omega, fun r hr1 hr2 hr3 hr4 => ?_⟩
    · show [V.int (2 + z % 900000 % 8), V.int (1 + z % 900000 / 1200 % 60)] = _
      rw [ea, ek]
    walk_at "rd"
    refine ite2 (fun e => absurd (of_decide_eq_true e) (by omega)) (fun _ => ?_)
    walk_at "rd"
    refine ite2 (fun e => ?_) (fun e => ?_)
    · obtain ⟨k, ek2⟩ : ∃ k : Nat, k = 1 + N % 5000 := ⟨_, rfl⟩
      have ek3 : 1 + z % 900000 % 5000 = (k : Int) := by omega
      walk_at "rd"
      refine ⟨(a' : Int) + 2, k, ?_, s64, by omega, by omega, fun r hr1 hr2 hr3 hr4 => ?_⟩
      · show [V.int (2 + z % 900000 % 8), V.int (1 + z % 900000 % 5000)] = _
        rw [ea, ek3]
      have hk5 : k ≤ 5000 := by omega
      have hr5 : r ≤ 25000000 := Nat.le_trans hr2 (Nat.le_trans (Nat.mul_le_mul hk5 hk5) (by decide))
      walk_at "rd"
      refine ite2 (fun _ => ?_) (fun e2 => absurd (decide_eq_true (by omega)) e2)
      walk_at "rd"
      refine ⟨r, (a' : Int) + 2, 125000001, ?_, ha, s64, Nat.lt_of_lt_of_le (px_nat ha r 5 (by omega)) (Nat.pow_le_pow_right (by decide) (by omega)), by decide, small r (by omega), fun H2 p2 m2 f2 h2 => ?_⟩
      · show [V.int (r : Int), V.int (2 + z % 900000 % 8)] = _
        rw [ea]
      have hPL2 := hPL.keep m2
      walk_at "rd"
      refine ite2 (fun _ => ?_) (fun e2 => absurd (decide_eq_true (by rw [ek3]; exact hr3)) e2)
      obtain ⟨ps, eps, hL2, hp⟩ := hPL2
      walk_at "rd"
      refine ⟨L, _, rfl, .inl (.inl hL2), fun c nc => ?_⟩
      obtain ⟨t, et⟩ : ∃ t : Nat, t = min r 150 := ⟨_, rfl⟩
      have et2 : (if (150 : Int) < (r : Int) then 150 else (r : Int)) = (t : Int) := by split <;> omega
      have ec : cutV (ps.map V.ref) (some 1) (some (t : Int)) = ((ps.map V.ref).drop 1).take (t - 1) := cut_mid _ 1 t (by rw [List.length_map]; omega) (by rw [List.length_map]; omega)
      rw [et2, ec]
      refine ⟨c, rfl, ⟨_, .inl (.inl upd_same)⟩, fun D nD => ?_⟩
      have hlenc : ((ps.map V.ref).drop 1).length = 149 := by rw [List.length_drop, List.length_map]; omega
      refine lc_list (K := K) (a := c) (xs := ((ps.map V.ref).drop 1).take (t - 1)) (fun i H' => H' D = some (.lst ((List.replicate i false).map V.bl)) ∧ Same (upd H2 c (.lst (((ps.map V.ref).drop 1).take (t - 1)))) H') ?_ ?_ ?_ ?_
      · exact ⟨upd_same, same_upd nD⟩
      · intro i H' _ hP
        exact .inl (.inl (hP.2 _ _ upd_same))
      · intro i v H' hv hP
        obtain ⟨hD, sH⟩ := hP
        have hi := (List.getElem?_eq_some_iff.mp hv).1
        rw [List.length_take, hlenc] at hi
        have h1 : ps[i + 1]? = some (ps[i + 1]'(by omega)) := List.getElem?_eq_getElem (by omega)
        have hv2 : v = .ref (ps[i + 1]'(by omega)) := by
          rw [List.getElem?_take_of_lt (by omega), List.getElem?_drop, List.getElem?_map, Nat.add_comm 1 i, h1] at hv
          exact (Option.some.inj hv).symm
        have h3 := sH _ _ (same_upd nc _ _ (hp _ _ h1))
        generalize ps[i + 1]'(by omega) = u at *
        subst hv2
        have hne := hr4 (i + 1) (by omega) (by omega)
        walk_at "rd"
        refine ⟨_, hD, Nat.lt_of_lt_of_le (show _ < 200 by rw [List.length_map, List.length_replicate]; omega) (by decide), ?_, Same.new sH nD⟩
        rw [upd_same, List.replicate_succ', List.map_append, ek3, decide_eq_false hne]
        rfl
      · intro H4 hP
        obtain ⟨hD, sH4⟩ := hP
        walk_at "rd"
        refine ⟨_, _, rfl, .inl (.inl hD), ?_⟩
        walk_at "rd"
        rw [show (List.replicate (((ps.map V.ref).drop 1).take (t - 1)).length false).any id = false by simp]
        exact q _
    · have hr1' : (0 : Int) < (r : Int) := by omega
      obtain ⟨r', g1, g2, g3⟩ := rankS ha8 hk60
      have hk' : ((k' + 1 : Nat) : Int) = (k' : Int) + 1 := by omega
      rw [hk'] at hr3 hr4
      have hrr : r = r' := by
        have u1 : ¬ r < r' := fun l => by
          have := g3 r hr1 (by omega)
          rw [decide_eq_true hr3] at this
          have h5 := of_decide_eq_true this.symm
          rw [Int.emod_eq_of_lt (by omega) (by omega)] at h5
          omega
        have u2 : ¬ r' < r := fun l => by
          have := g3 r' g1 g2
          rw [decide_eq_true (show (r' : Int) % (r' : Int) = 0 from Int.emod_self)] at this
          exact hr4 r' g1 l (of_decide_eq_true this)
        omega
      subst hrr
      obtain ⟨k, ek2⟩ : ∃ k : Int, k = (k' : Int) + 1 := ⟨_, rfl⟩
      have hk0 : 0 < k := by omega
      walk_at "rd"
      refine for_range (lo := 1) (n := 149) (fun t σ H' => ∃ (c8 : Option V), σ = [some (.ref sa), some (.int N), some (.int ((a' : Int) + 2)), some (.int ((m' + 1 : Nat) : Int)), some (.int (n' : Int)), some (.int k), some (.ref L), some (.int (py ((a' : Int) + 2) 1)), c8, some (.int (r : Int)), none, none, none, none] ∧ H' = H1) ?_ ?_ ?_
      · refine ⟨some (.int 1), ?_, rfl⟩
        rw [← ea, ← en, ek2, ← hk', ← ek, ← em, ← eN]
        rfl
      · intro t σ H2 ht hP
        obtain ⟨c8, rfl, rfl⟩ := hP
        walk_at "rd"
        refine PL.at' hPL (i := t + 1) (by push_cast; omega) (by omega) (fun u hu => ?_)
        walk_at "rd"
        refine ite2 (fun e2 => absurd e2 (ne_self (congrArg V.bl ?_))) (fun _ => ?_)
        · have := g3 (t + 1) (by omega) (by omega)
          rw [ek2, this, show (1 : Int) + (t : Int) = ((t + 1 : Nat) : Int) by omega]
          exact (dV _ _).symm
        · exact ⟨_, rfl, rfl⟩
      · intro σ H2 hP
        obtain ⟨c8, rfl, rfl⟩ := hP
        walk_at "rd"
        refine ⟨m' + 1, (a' : Int) + 2, 1000, rfl, ha, s64, sx _ (by omega), by decide, small _ (by omega), fun H3 p3 m3 f3 h3 => ?_⟩
        have hPL3 := hPL.keep m3
        have hh1 : 1 ≤ py ((a' : Int) + 2) (m' + 1) := by
          have := py_ge ha (m' + 1)
          omega
        have shere := sy (m' + 1) (by omega)
        have sm1 : Sm 64 ((m' + 1 : Nat) : Int) := Sm.le (y := 1000) (Sm.lit (k := 64)) (by omega) (by omega)
        walk_at "rd"
        obtain ⟨hr0, ehr⟩ : ∃ hr0, hr0 = py ((a' : Int) + 2) (m' + 1) := ⟨_, rfl⟩
        rw [← ehr] at hh1 shere
        refine for_rng (n := 60) (fun t σ H' => ∃ (c8 c11 c12 : Option V), σ = [some (.ref sa), some (.int N), some (.int ((a' : Int) + 2)), some (.int ((m' + 1 : Nat) : Int)), some (.int (n' : Int)), some (.int k), some (.ref L), some (.int hr0), c8, some (.int (r : Int)), some (.int ((2 * ((a' : Int) + 2) - 1) ^ t)), c11, c12, none] ∧ H' = H3) ?_ ?_ ?_
        · refine ⟨c8, none, none, ?_, rfl⟩
          rw [ehr, Int.pow_zero]
          rfl
        · intro t σ H4 ht hP
          obtain ⟨c8, c11, c12, rfl, rfl⟩ := hP
          obtain ⟨l1, l2, l3, l4, l5, l6⟩ := loopB ha8 hm6 t ht
          rw [show (m' : Int) + 1 = ((m' + 1 : Nat) : Int) by omega, ← ehr] at l1 l3
          have hhm : 0 < ((m' + 1 : Nat) : Int) * hr0 := Int.mul_pos (by omega) (by omega)
          have hhh : 0 < hr0 * hr0 := Int.mul_pos (by omega) (by omega)
          have spw : Sm 1000 ((2 * ((a' : Int) + 2) - 1) ^ t) := ((Sm.le (y := 31) (Sm.lit (k := 5)) (by omega) (by omega) : Sm 5 (2 * ((a' : Int) + 2) - 1)).pw t).mono (by omega)
          walk_at "rd"
          refine PL.at' hPL3 (i := t) rfl (by omega) (fun u hu => ?_)
          walk_at "rd"
          refine ite2 (fun e2 => absurd e2 (ne_self (congrArg V.bl (l1.trans (dV _ _).symm)))) (fun _ => ?_)
          walk_at "rd"
          refine ite2 (fun e2 => absurd e2 (ne_self (congrArg V.bl ((dV _ _).trans (l2.trans (dV _ _).symm))))) (fun _ => ?_)
          walk_at "rd"
          refine ite2 (fun e2 => absurd e2 (ne_self (congrArg V.bl l3))) (fun _ => ?_)
          walk_at "rd"
          have hlow : py ((a' : Int) + 2) t < (t : Int) → False := fun l => by omega
          refine ite2 (fun e2 => ?_) (fun e2 => ?_)
          · have h2a : (2 : Int) < (a' : Int) + 2 := of_decide_eq_true e2
            have l4' : (py ((a' : Int) + 2) t - (t : Int)) % ((a' : Int) + 2 - 1) = 0 := by
              rcases l4 with l4 | l4
              · omega
              · exact l4
            walk_at "rd"
            refine ite2 (fun e3 => absurd e3 (ne_self (congrArg V.int l4'))) (fun _ => ?_)
            walk_at "rd"
            refine ite2 (fun e3 => absurd (of_decide_eq_true e3) (fun l => hlow l)) (fun _ => ?_)
            walk_at "rd"
            refine PL.at' hPL3 (i := t + 1) (by push_cast; rfl) (by omega) (fun u2 hu2 => ?_)
            walk_at "rd"
            refine ite2 (fun e3 => absurd (of_decide_eq_true e3) (by omega)) (fun _ => ?_)
            walk_at "rd"
            exact ⟨_, _, _, by rw [Int.pow_succ]; rfl, rfl⟩
          · walk_at "rd"
            refine ite2 (fun e3 => absurd (of_decide_eq_true e3) (fun l => hlow l)) (fun _ => ?_)
            walk_at "rd"
            refine PL.at' hPL3 (i := t + 1) (by push_cast; rfl) (by omega) (fun u2 hu2 => ?_)
            walk_at "rd"
            refine ite2 (fun e3 => absurd (of_decide_eq_true e3) (by omega)) (fun _ => ?_)
            walk_at "rd"
            exact ⟨_, _, _, by rw [Int.pow_succ]; rfl, rfl⟩
        · intro σ H4 hP
          obtain ⟨c8, c11, c12, rfl, rfl⟩ := hP
          walk_at "rd"
          refine ⟨n', (a' : Int) + 2, 1000, rfl, ha, s64, sx _ (by omega), by decide, small _ (by omega), fun H5 p5 m5 f5 h5 => ?_⟩
          have hPL5 := hPL3.keep m5
          walk_at "rd"
          refine PL.at' hPL5 (i := n') rfl (by omega) (fun u hu => ?_)
          refine ⟨_, _, _, _, Tp.of h5, Tp.of hu, ?_⟩
          walk_at "rd"
          refine ite2 (fun _ => ?_) (fun e2 => absurd (by simp) e2)
          walk_at "rd"
          refine PL.at' hPL5 (i := n') rfl (by omega) (fun u2 hu2 => ?_)
          walk_at "rd"
          refine PL.at' hPL5 (i := n') rfl (by omega) (fun u3 hu3 => ?_)
          have hpn := pxy_pos ha n'
          have sxn := sx n' (by omega)
          have syn := sy n' (by omega)
          have hpx : 0 ≤ px ((a' : Int) + 2) n' := by omega
          have hpy := hpn.1
          walk_at "rd"
          rw [commonC ha8 hn25]
          exact q _

end
end RR

namespace RR
open PySem PySem.Spec PyProof.Rows L2
theorem all_mk {l : PySem.W.OpenLaw} {w : World} {K : PySem.W.Frag} {h : Heap} {mg : Str → Option Value} {fa : Addr} (X : K.In h) (G : h.Ns mainGlobals mg) (hfa : mg "law" = some (.ref fa))
    {f0 : Addr} {od0 an0 : Option Addr} {sl0 : Array (Option Value)} {oc0 kV0 dc0 pm0 cd0 ct0 : Value}
    {f1 : Addr} {od1 an1 : Option Addr} {sl1 : Array (Option Value)} {oc1 kV1 dc1 pm1 cd1 ct1 : Value}
    {f2 : Addr} {od2 an2 : Option Addr} {sl2 : Array (Option Value)} {oc2 kV2 dc2 pm2 cd2 ct2 : Value}
    {f3 : Addr} {od3 an3 : Option Addr} {sl3 : Array (Option Value)} {oc3 kV3 dc3 pm3 cd3 ct3 : Value}
    {f4 : Addr} {od4 an4 : Option Addr} {sl4 : Array (Option Value)} {oc4 kV4 dc4 pm4 cd4 ct4 : Value}
    {f5 : Addr} {od5 an5 : Option Addr} {sl5 : Array (Option Value)} {oc5 kV5 dc5 pm5 cd5 ct5 : Value}
    {f6 : Addr} {od6 an6 : Option Addr} {sl6 : Array (Option Value)} {oc6 kV6 dc6 pm6 cd6 ct6 : Value}
    {f7 : Addr} {od7 an7 : Option Addr} {sl7 : Array (Option Value)} {oc7 kV7 dc7 pm7 cd7 ct7 : Value}
    {f8 : Addr} {od8 an8 : Option Addr} {sl8 : Array (Option Value)} {oc8 kV8 dc8 pm8 cd8 ct8 : Value}
    {f9 : Addr} {od9 an9 : Option Addr} {sl9 : Array (Option Value)} {oc9 kV9 dc9 pm9 cd9 ct9 : Value}
    (a0 : PySem.W.nsIn K mainGlobals "_law_pairs" = some (some (.ref f0)))
    (l0 : K.lookup f0 = some ⟨oc0, od0, .func (PySem.W.fnOf "_law_pairs" "_law_pairs" (defArgs s__law_pairs) (defBody s__law_pairs) (defScope s__law_pairs) .none kV0 dc0 pm0 an0 cd0 ct0), sl0⟩)
    (c0 : PySem.W.codeIn K cd0 "_law_pairs" = true) (k0 : PySem.W.keepIn K (.ref f0) = true)
    (a1 : PySem.W.nsIn K mainGlobals "rank" = some (some (.ref f1)))
    (l1 : K.lookup f1 = some ⟨oc1, od1, .func (PySem.W.fnOf "rank" "rank" (defArgs s_rank) (defBody s_rank) (defScope s_rank) .none kV1 dc1 pm1 an1 cd1 ct1), sl1⟩)
    (c1 : PySem.W.codeIn K cd1 "rank" = true) (k1 : PySem.W.keepIn K (.ref f1) = true)
    (a2 : PySem.W.nsIn K mainGlobals "_doubled" = some (some (.ref f2)))
    (l2 : K.lookup f2 = some ⟨oc2, od2, .func (PySem.W.fnOf "_doubled" "_doubled" (defArgs s__doubled) (defBody s__doubled) (defScope s__doubled) .none kV2 dc2 pm2 an2 cd2 ct2), sl2⟩)
    (c2 : PySem.W.codeIn K cd2 "_doubled" = true) (k2 : PySem.W.keepIn K (.ref f2) = true)
    (a3 : PySem.W.nsIn K mainGlobals "_next" = some (some (.ref f3)))
    (l3 : K.lookup f3 = some ⟨oc3, od3, .func (PySem.W.fnOf "_next" "_next" (defArgs s__next) (defBody s__next) (defScope s__next) .none kV3 dc3 pm3 an3 cd3 ct3), sl3⟩)
    (c3 : PySem.W.codeIn K cd3 "_next" = true) (k3 : PySem.W.keepIn K (.ref f3) = true)
    (a4 : PySem.W.nsIn K mainGlobals "pair" = some (some (.ref f4)))
    (l4 : K.lookup f4 = some ⟨oc4, od4, .func (PySem.W.fnOf "pair" "pair" (defArgs s_pair) (defBody s_pair) (defScope s_pair) .none kV4 dc4 pm4 an4 cd4 ct4), sl4⟩)
    (c4 : PySem.W.codeIn K cd4 "pair" = true) (k4 : PySem.W.keepIn K (.ref f4) = true)
    (a5 : PySem.W.nsIn K mainGlobals "_law_cell" = some (some (.ref f5)))
    (l5 : K.lookup f5 = some ⟨oc5, od5, .func (PySem.W.fnOf "_law_cell" "_law_cell" (defArgs s__law_cell) (defBody s__law_cell) (defScope s__law_cell) .none kV5 dc5 pm5 an5 cd5 ct5), sl5⟩)
    (c5 : PySem.W.codeIn K cd5 "_law_cell" = true) (k5 : PySem.W.keepIn K (.ref f5) = true)
    (a6 : PySem.W.nsIn K mainGlobals "_law_is_integer" = some (some (.ref f6)))
    (l6 : K.lookup f6 = some ⟨oc6, od6, .func (PySem.W.fnOf "_law_is_integer" "_law_is_integer" (defArgs s__law_is_integer) (defBody s__law_is_integer) (defScope s__law_is_integer) .none kV6 dc6 pm6 an6 cd6 ct6), sl6⟩)
    (c6 : PySem.W.codeIn K cd6 "_law_is_integer" = true) (k6 : PySem.W.keepIn K (.ref f6) = true)
    (a7 : PySem.W.nsIn K mainGlobals "_law_divides" = some (some (.ref f7)))
    (l7 : K.lookup f7 = some ⟨oc7, od7, .func (PySem.W.fnOf "_law_divides" "_law_divides" (defArgs s__law_divides) (defBody s__law_divides) (defScope s__law_divides) .none kV7 dc7 pm7 an7 cd7 ct7), sl7⟩)
    (c7 : PySem.W.codeIn K cd7 "_law_divides" = true) (k7 : PySem.W.keepIn K (.ref f7) = true)
    (a8 : PySem.W.nsIn K mainGlobals "_law_common" = some (some (.ref f8)))
    (l8 : K.lookup f8 = some ⟨oc8, od8, .func (PySem.W.fnOf "_law_common" "_law_common" (defArgs s__law_common) (defBody s__law_common) (defScope s__law_common) .none kV8 dc8 pm8 an8 cd8 ct8), sl8⟩)
    (c8 : PySem.W.codeIn K cd8 "_law_common" = true) (k8 : PySem.W.keepIn K (.ref f8) = true)
    (a9 : PySem.W.nsIn K mainGlobals "law" = some (some (.ref f9)))
    (l9 : K.lookup f9 = some ⟨oc9, od9, .func (PySem.W.fnOf "law" "law" (defArgs s_law) (defBody s_law) (defScope s_law) .none kV9 dc9 pm9 an9 cd9 ct9), sl9⟩)
    (c9 : PySem.W.codeIn K cd9 "law" = true) (k9 : PySem.W.keepIn K (.ref f9) = true)
    (z_range : PySem.W.nsIn K mainGlobals "range" = some none)
    (z_len : PySem.W.nsIn K mainGlobals "len" = some none)
    (z_isinstance : PySem.W.nsIn K mainGlobals "isinstance" = some none)
    (z_int : PySem.W.nsIn K mainGlobals "int" = some none)
    (z_bool : PySem.W.nsIn K mainGlobals "bool" = some none)
    (z_any : PySem.W.nsIn K mainGlobals "any" = some none)
    (z_min : PySem.W.nsIn K mainGlobals "min" = some none)
    : ∃ fd : FuncData, (∀ (s : Shared) (v : Value), BindsTo s fd ⟨[v], []⟩ [("script", v)]) ∧ ∀ base : Heap, K.In base → base.Ns mainGlobals mg → FnOk l.prog w K mg base CX0 3 fa fd ["script"] (sp_law K) := by
  have e := hfa.symm.trans (PySem.W.mg_of X G a9)
  cases e
  have F0 := fun_mk (st := s__law_pairs) l0 c0 k0
  have F1 := fun_mk (st := s_rank) l1 c1 k1
  have F2 := fun_mk (st := s__doubled) l2 c2 k2
  have F3 := fun_mk (st := s__next) l3 c3 k3
  have F4 := fun_mk (st := s_pair) l4 c4 k4
  have F5 := fun_mk (st := s__law_cell) l5 c5 k5
  have F6 := fun_mk (st := s__law_is_integer) l6 c6 k6
  have F7 := fun_mk (st := s__law_divides) l7 c7 k7
  have F8 := fun_mk (st := s__law_common) l8 c8 k8
  have F9 := fun_mk (st := s_law) l9 c9 k9
  have b0 := F0.binds (ps := ["a", "count"]) fun _ _ _ _ _ _ us hl => match us, hl with | [_, _], _ => rfl
  have b1 := F1.binds (ps := ["a", "m"]) fun _ _ _ _ _ _ us hl => match us, hl with | [_, _], _ => rfl
  have b2 := F2.binds (ps := ["x", "y"]) fun _ _ _ _ _ _ us hl => match us, hl with | [_, _], _ => rfl
  have b3 := F3.binds (ps := ["x", "y", "a"]) fun _ _ _ _ _ _ us hl => match us, hl with | [_, _, _], _ => rfl
  have b4 := F4.binds (ps := ["n", "a"]) fun _ _ _ _ _ _ us hl => match us, hl with | [_, _], _ => rfl
  have b5 := F5.binds (ps := ["script", "k"]) fun _ _ _ _ _ _ us hl => match us, hl with | [_, _], _ => rfl
  have b6 := F6.binds (ps := ["actual"]) fun _ _ _ _ _ _ us hl => match us, hl with | [_], _ => rfl
  have b7 := F7.binds (ps := ["small", "great"]) fun _ _ _ _ _ _ us hl => match us, hl with | [_, _], _ => rfl
  have b8 := F8.binds (ps := ["x", "y"]) fun _ _ _ _ _ _ us hl => match us, hl with | [_, _], _ => rfl
  refine ⟨PySem.W.fnOf "law" "law" (defArgs s_law) (defBody s_law) (defScope s_law) .none kV9 dc9 pm9 an9 cd9 ct9, fun s v => .of_eq rfl, fun base _ _ => ?_⟩
  have m_range := PySem.W.mg_none_of X G z_range
  have m_len := PySem.W.mg_none_of X G z_len
  have m_isinstance := PySem.W.mg_none_of X G z_isinstance
  have m_int := PySem.W.mg_none_of X G z_int
  have m_bool := PySem.W.mg_none_of X G z_bool
  have m_any := PySem.W.mg_none_of X G z_any
  have m_min := PySem.W.mg_none_of X G z_min
  have C__law_pairs : Cal l.prog w K mg base "_law_pairs" 1 ["a", "count"] (sp__law_pairs K) := ⟨_, _, ok__law_pairs F0 m_range, PySem.W.mg_of X G a0, F0.kp, b0⟩
  have C_rank : Cal l.prog w K mg base "rank" 1 ["a", "m"] (sp_rank K) := ⟨_, _, ok_rank F1 , PySem.W.mg_of X G a1, F1.kp, b1⟩
  have C__doubled : Cal l.prog w K mg base "_doubled" 1 ["x", "y"] (sp__doubled K) := ⟨_, _, ok__doubled F2 , PySem.W.mg_of X G a2, F2.kp, b2⟩
  have C__next : Cal l.prog w K mg base "_next" 1 ["x", "y", "a"] (sp__next K) := ⟨_, _, ok__next F3 , PySem.W.mg_of X G a3, F3.kp, b3⟩
  have C_pair : Cal l.prog w K mg base "pair" 2 ["n", "a"] (sp_pair K) := ⟨_, _, ok_pair F4 C__doubled C__next, PySem.W.mg_of X G a4, F4.kp, b4⟩
  have C__law_cell : Cal l.prog w K mg base "_law_cell" 1 ["script", "k"] (sp__law_cell K) := ⟨_, _, ok__law_cell F5 m_len, PySem.W.mg_of X G a5, F5.kp, b5⟩
  have C__law_is_integer : Cal l.prog w K mg base "_law_is_integer" 1 ["actual"] (sp__law_is_integer K) := ⟨_, _, ok__law_is_integer F6 m_isinstance m_int m_bool, PySem.W.mg_of X G a6, F6.kp, b6⟩
  have C__law_divides : Cal l.prog w K mg base "_law_divides" 1 ["small", "great"] (sp__law_divides K) := ⟨_, _, ok__law_divides F7 m_int, PySem.W.mg_of X G a7, F7.kp, b7⟩
  have C__law_common : Cal l.prog w K mg base "_law_common" 1 ["x", "y"] (sp__law_common K) := ⟨_, _, ok__law_common F8 m_range, PySem.W.mg_of X G a8, F8.kp, b8⟩
  exact ok_law F9 C__law_pairs C_rank C_pair C__law_cell C__law_is_integer C__law_divides C__law_common m_range m_int m_any m_min
end RR
open PySem PySem.W PyProof.Rows
set_option maxHeartbeats 0 in
theorem PySem.Challenge.cw_runroots_k33_what_divides_a_member_holds : PySem.Challenge.rw_runroots_k33_what_divides_a_member.Holds := by
  w_on; o_law; k_head; (case hw => w_witness2)
  k_fill
  refine L2.walk_of (l := PySem.Challenge.rw_runroots_k33_what_divides_a_member) (n := 63) (k := 3) (x := "script") (CX := fun _ => L2.CX0) (sp := fun w => RR.sp_law _) rfl (by decide) rfl ⟨rfl, by decide, by decide⟩ (fun w h Y => PySem.W.kIn_of Y) ?F (fun _ _ a ns hl _ hS => ⟨a, ns, rfl, hS, hl, fun _ => rfl⟩) (fun _ _ _ _ _ h => h)
  case F =>
    intro w mg fa h KX G hmg
    refine' RR.all_mk KX G hmg ?a0 ?l0 ?c0 ?k0 ?a1 ?l1 ?c1 ?k1 ?a2 ?l2 ?c2 ?k2 ?a3 ?l3 ?c3 ?k3 ?a4 ?l4 ?c4 ?k4 ?a5 ?l5 ?c5 ?k5 ?a6 ?l6 ?c6 ?k6 ?a7 ?l7 ?c7 ?k7 ?a8 ?l8 ?c8 ?k8 ?a9 ?l9 ?c9 ?k9 ?z_range ?z_len ?z_isinstance ?z_int ?z_bool ?z_any ?z_min
    (case a0 => k_is); (case l0 => k_is); (case c0 => k_is); (case k0 => k_is); (case a1 => k_is); (case l1 => k_is); (case c1 => k_is); (case k1 => k_is); (case a2 => k_is); (case l2 => k_is); (case c2 => k_is); (case k2 => k_is); (case a3 => k_is); (case l3 => k_is); (case c3 => k_is); (case k3 => k_is); (case a4 => k_is); (case l4 => k_is); (case c4 => k_is); (case k4 => k_is); (case a5 => k_is); (case l5 => k_is); (case c5 => k_is); (case k5 => k_is); (case a6 => k_is); (case l6 => k_is); (case c6 => k_is); (case k6 => k_is); (case a7 => k_is); (case l7 => k_is); (case c7 => k_is); (case k7 => k_is); (case a8 => k_is); (case l8 => k_is); (case c8 => k_is); (case k8 => k_is); (case a9 => k_is); (case l9 => k_is); (case c9 => k_is); (case k9 => k_is); (case z_range => k_is); (case z_len => k_is); (case z_isinstance => k_is); (case z_int => k_is); (case z_bool => k_is); (case z_any => k_is); (case z_min => k_is)
