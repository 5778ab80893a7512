import PyProof.Rows.All
import PyProof.FString3
import PyProof.Rows.StrIntSpec
import HandS.ForMost
import HandS.FStr
import HandS.Wide
import HandS.WideBits
import HandS.Style
import HandS.Star
import HandS.RevRange
import HandS.EndBits
import HandS.IsInst
import HandS.Deep
import PySem.Challenge.RW_runroots_k32_rests_of_pairs
set_option Elab.async false
set_option linter.all false
set_option maxRecDepth 100000
set_option maxHeartbeats 1000000
namespace RR
open PySem PySem.Spec PyProof.Rows L2 PySem.Builtin PySem.Builtin.Float
/-- a number's signs to the base two -/
def binL (n : Nat) : List Nat := (Nat.toDigits 2 n).map Char.toNat
def binS (n : Nat) : Str := ⟨(binL n).toArray⟩
def specB : FormatSpec := { align := 62, type := some 98 }
theorem parse_b (k : String) : parseFormatSpec (Str.ofString "b").cps.toList k 62 = .ok specB := rfl
theorem field_b {D : List Nat} (hD : D ≠ []) : intField' specB false [] D [] 4 = ⟨D.toArray⟩ := by
  have e : D.isEmpty = false := by cases D with
    | nil => exact absurd rfl hD
    | cons _ _ => rfl
  have p : ((-1 : Int) - 0 - (D.length : Int)).toNat = 0 := by omega
  simp [intField', specB, e, p]
theorem binL_ne (n : Nat) : binL n ≠ [] := by
  intro h
  have h2 : Nat.toDigits 2 n = [] := List.map_eq_nil_iff.mp h
  have := Nat.length_toDigits_pos (b := 2) (n := n)
  rw [h2] at this
  exact absurd this (by simp)
section
variable {prog : Program} {w : World} {A : Around} {E : Value → Shared → Prop} {s : Shared}
theorem bin_spec {n : Nat} {t : Tok} {Q : Value → Shared → Prop} (hl : (binS n).length ≤ sizeLine)
    (h : Q (.str (binS n) (s.toks + 1)) { s with toks := s.toks + 1 + 1 }) : wpAny (model prog w) A (formatField (.int (n : Int) t) (Str.ofString "b")) Q E s := by
  show wpAny _ _ (holding [Value.int (n : Int) t] (pyFormat (Value.int (n : Int) t) (Str.ofString "b"))) Q E s
  refine wpAny_holding ?_
  unfold pyFormat
  refine wpAny_bind (wpAny_mkStr ?_ (by decide))
  refine wpAny_bind (m := callSpecial? (.int (n : Int) t) (Str.ofString "__format__") [.str (Str.ofString "b") s.toks])
    (wpAny_callSpecial?_slot (name := Str.ofString "__format__") (typeIs_int _ _ t) slot_int_format ?_)
  refine wpAny_call (codeAny_call_builtin slot_int_format.plain entry_int_format
    (slot_int_format.check _ _ _ _ _ _ _ _ (typeIs_int _ _ t) (args_int_format _ _) ?_))
  unfold Builtin.«int.__format__»
  simp only [selfAndOne, noKeywords, Int.intOfSelf, asInt?, asStr?, List.isEmpty_nil, if_true, pure_bind, bind_assoc, Bool.false_eq_true, if_false,
    show ((Str.ofString "b").length == 0) = false by decide,
    show (((Str.ofString "b").cps.toList.drop 1).any (· ≥ 128) || ((Str.ofString "b").cps.getD 0 0 ≥ 128 && !([60, 62, 61, 94] : List Nat).contains ((Str.ofString "b").cps.getD 1 0))) = false by decide,
    show (Value.str (Str.ofString "b") s.toks == Value.none) = false from rfl]
  refine wpAny_bind (wpAny_typeNameOf (T := "str") (typeIs_str _ _ _) (by decide) fun _ => ?_)
  refine wpAny_bind (wpAny_typeNameOfCut_int ?_)
  obtain ⟨f, hf⟩ : ∃ f, f = specB := ⟨_, rfl⟩
  have hty : f.type.getD (if (Str.ofString "b").cps.back? == some 0 then 0 else 100) = 98 := by rw [hf]; rfl
  have hpr : f.precision.isSome = false := by rw [hf]; rfl
  have hz : f.noNeg0 = false := by rw [hf]; rfl
  have hal : f.alt = false := by rw [hf]; rfl
  have hw : f.width.getD 0 = 0 := by rw [hf]; rfl
  simp only [parse_b, ← hf, hty]
  rw [if_pos (by decide)]
  show wpAny _ _ (if _ then _ else _) _ _ _
  rw [if_neg (by simp [hpr])]
  show wpAny _ _ (if _ then _ else _) _ _ _
  rw [if_neg (by simp [hz])]
  show wpAny _ _ (if _ then _ else _) _ _ _
  rw [if_neg (by decide)]
  show wpAny _ _ (if _ then _ else _) _ _ _
  rw [if_neg (by decide)]
  show wpAny _ _ (if _ then _ else _) _ _ _
  rw [if_neg (by simp [hw])]
  show wpAny _ _ (retStr _) _ _ _
  unfold retStr
  have hneg : decide ((n : Int) < 0) = false := decide_eq_false (by omega)
  have key : intField' f (decide ((n : Int) < 0)) (if f.alt = true then [] else []) ((Nat.toDigits 2 (n : Int).natAbs).map fun c => (if (98 : Nat) == 88 then c.toUpper else c).toNat) [] 4 = binS n := by
    rw [hneg, hf]
    exact field_b (binL_ne n)
  have hl2 := key ▸ hl
  have h2 := key ▸ h
  clear h hl
  subst hf
  refine wpAny_bind (wpAny_mkStr (wpAny_pure ?_) hl2)
  exact wpAny_bind (wpAny_isInstance (typeIs_str _ _ _) isSubtype_str_str (wpAny_pure h2))
end
end RR
namespace RR
open PySem PySem.Spec PyProof.Rows L2
section
variable {X : Cx}
/-- f'{x:b}' of an int from 0 on -/
def tFmtB (te : TE) : TE := fun σ H Q => te σ H fun x H1 => ∃ n : Nat, x = .int n ∧ (binS n).length ≤ sizeLine ∧ Q (.str (binS n)) H1
theorem pe_fmtB {e : Expr} {te : TE} {k : Nat} {p1 p2 p3 p4 : Pos} (he : PE X e te) :
    PE X (.JoinedStr [.FormattedValue e (-1) (some (.JoinedStr [.Constant (.str "b") k p1] p2)) p3] p4) (tFmtB te) := by
  refine pe_joined1 ⟨fun pins s σ H Q I h => ?_⟩
  refine wpAny_FormattedValue_spec (thn (he.run pins s σ H _ I h) fun v s1 hv => ?_)
  obtain ⟨x, H1, I1, r1, n, rfl, hl, q⟩ := hv
  obtain ⟨t, rfl⟩ := r1
  refine wpAny_JoinedStr_one (Calls.Constant_str ⟨_, _, rfl, ?_⟩)
  exact bin_spec hl ⟨.str (binS n), H1, (I1.tok _).tok _, ⟨_, rfl⟩, q⟩
end
end RR

namespace RR
open PySem PySem.Spec PyProof.Rows L2
/-- a def of the text, as callers see it -/
structure Cal (P : Program) (w : World) (K : PySem.W.Frag) (mg : Str → Option Value) (base : Heap) (x : Str) (k : Nat) (ps : List Str) (sp : Sp) : Prop where
  ex : ∃ (f : Addr) (fd : FuncData), FnOk P w K mg base L2.CX0 k f fd ps sp ∧ mg x = some (.ref f) ∧ PySem.W.keepIn K (.ref f) = true ∧ Binds K fd ps []
theorem Cal.mk' {P : Program} {w : World} {K : PySem.W.Frag} {mg : Str → Option Value} {base : Heap} {x : Str} {k : Nat} {ps : List Str} {sp : Sp} {f : Addr} {fd : FuncData}
    (F : FnOk P w K mg base L2.CX0 k f fd ps sp) (g : mg x = some (.ref f)) (kp : PySem.W.keepIn K (.ref f) = true) (b : Binds K fd ps []) : Cal P w K mg base x k ps sp := ⟨f, fd, F, g, kp, b⟩
section
variable {X : Cx}
def tCal (sp : Sp) (t : TA) : TE := fun σ H Q => t σ H fun vs H1 => sp vs H1 Q L2.E0
theorem pe_cal {x : Str} {k : Nat} {ps : List Str} {sp : Sp} {p pos : Pos} {e : Expr} {es : List Expr} {t : TA} (C : Cal X.prog X.w X.K X.mg X.base x k ps sp) (hr : Room k X.A) (hg : Gl X x) (ha : PA X (e :: es) t)
    (hdb : (x == ("__debug__" : Str)) = false := by decide) (he : starEach (e :: es) X.env = (false, eval e X.env) :: starEach es X.env := by rfl) (hpl : (backTo pos (starEach es X.env)).any (·.1) = false := by rfl) :
    PE X (.Call (.Name x p) (e :: es) [] pos) (tCal sp t) := by
  obtain ⟨f, fd, F, g, kp, b⟩ := C.ex
  have h := pe_call (p := p) (pos := pos) F hr hg g kp b .nil L2.pass0 ha hdb he hpl
  refine ⟨fun pins s σ H Q I q => h.run pins s σ H Q I ?_⟩
  have e0 : tCall sp [] L2.E0 t σ H Q = tCal sp t σ H Q := by
    unfold tCall tCal
    simp only [List.append_nil]
  rw [e0]
  exact q
end
/-- int(x) of an int -/
theorem call_intI {X : Cx} : CallR X (.type "int") (fun xs H Q => ∃ i, xs = [.int i] ∧ Q (.int i) H) := fun pins s σ H xs us Q I r h => call_int1 pins s σ H xs us Q I r (.inl h)
/-- a loop over a text's signs -/
theorem for_str {x : Str} {g : TG} {tb : TS} {D : Ends} {σ : L2.St} {H : Hp} (Pv : Nat → L2.St → Hp → Prop) (h0 : Pv 0 σ H)
    (hs : ∀ i c σ H, x.cps[i]? = some c → Pv i σ H → g (.str ⟨#[c]⟩) σ H fun σ2 H2 => tb { D with nx := Pv (i + 1), ct := Pv (i + 1), bk := D.nx } σ2 H2) (hd : ∀ σ H, Pv x.cps.size σ H → D.nx σ H) :
    ∃ W : Nat → Nat → L2.St → Hp → Prop, (∃ m, W 0 m σ H) ∧ ∀ i m σ H, W i m σ H →
      ((Its x).stop i H ∧ D.nx σ H) ∨ ((Its x).go i H ∧ ∃ N : L2.St → Hp → Prop, (∀ σ' H', N σ' H' → ∃ m', m' < m ∧ W (i + 1) m' σ' H') ∧ ∀ v H', (Its x).yld i H v H' → g v σ H' fun σ2 H2 => tb { D with nx := N, ct := N, bk := D.nx } σ2 H2) := by
  refine ⟨fun i m σ H => m = x.cps.size - i ∧ i ≤ x.cps.size ∧ Pv i σ H, ⟨x.cps.size, by simp, Nat.zero_le _, h0⟩, ?_⟩
  rintro i m σ H ⟨rfl, hi, p⟩
  by_cases hlt : i < x.cps.size
  · refine .inr ⟨hlt, Pv (i + 1), fun σ' H' p' => ⟨x.cps.size - (i + 1), by omega, rfl, hlt, p'⟩, fun v H' y => ?_⟩
    obtain ⟨e, c, hc, e2⟩ := y
    subst e e2
    exact hs i c σ _ hc p
  · have e : i = x.cps.size := by omega
    subst e
    exact .inl ⟨Nat.le_refl _, hd σ H p⟩
/-- for k in range(n), the turn's number from 0 on -/
theorem for_rng {n : Nat} {g : TG} {tb : TS} {D : Ends} {σ : L2.St} {H : Hp} (Pv : Nat → L2.St → Hp → Prop) (h0 : Pv 0 σ H)
    (hs : ∀ i σ H, i < n → Pv i σ H → g (.int (i : Int)) σ H fun σ2 H2 => tb { D with nx := Pv (i + 1), ct := Pv (i + 1), bk := D.nx } σ2 H2) (hd : ∀ σ H, Pv n σ H → D.nx σ H) :
    ∃ W : Nat → Nat → L2.St → Hp → Prop, (∃ m, W 0 m σ H) ∧ ∀ i m σ H, W i m σ H →
      ((Itr 0 n).stop i H ∧ D.nx σ H) ∨ ((Itr 0 n).go i H ∧ ∃ N : L2.St → Hp → Prop, (∀ σ' H', N σ' H' → ∃ m', m' < m ∧ W (i + 1) m' σ' H') ∧
        ∀ x H', (Itr 0 n).yld i H x H' → g x σ H' fun σ2 H2 => tb { D with nx := N, ct := N, bk := D.nx } σ2 H2) :=
  for_range (lo := 0) (n := n) (g := g) (tb := tb) (D := D) Pv h0 (fun i σ H hi p => by rw [Int.zero_add]; exact hs i σ H hi p) hd
theorem tC_go {v : V} {σ : L2.St} {H : Hp} {Q : VK} (q : Q v H) : tC v σ H Q := q
theorem tNil_go {σ : L2.St} {H : Hp} {Q : List V → Hp → Prop} (q : Q [] H) : tNil σ H Q := q
theorem dV (x y : Int) : decide (V.int x = V.int y) = decide (x = y) := by
  by_cases h : x = y
  · rw [decide_eq_true h, decide_eq_true (by rw [h])]
  · rw [decide_eq_false h, decide_eq_false (fun e => h (V.int.inj e))]
theorem dB (x y : Bool) : decide (V.bl x = V.bl y) = decide (x = y) := by cases x <;> cases y <;> rfl
/-! heaps -/
theorem same_upd {H : Hp} {p : Addr} {o : HO} (h : H p = none) : Same H (upd H p o) := fun b x e => by
  rw [upd_ne (ne_of_none e h)]
  exact e
theorem sq_new {K : PySem.W.Frag} {H : Hp} {p : Addr} {xs : List V} : SqT K (upd H p (.tup xs)) p xs := .inl (.inl upd_same)
theorem sq_of {K : PySem.W.Frag} {H : Hp} {p : Addr} {xs : List V} (h : H p = some (.tup xs)) : SqT K H p xs := .inl (.inl h)
theorem gTup_new {K : PySem.W.Frag} {n : Nat} {t : TGs} {σ : L2.St} {H : Hp} {Q : L2.St → Hp → Prop} {p : Addr} {xs : List V} (h : xs.length = n) (q : t xs σ (upd H p (.tup xs)) Q) :
    gTup K n t (.ref p) σ (upd H p (.tup xs)) Q := ⟨p, xs, rfl, sq_new, h, q⟩
theorem gTup_as {K : PySem.W.Frag} {n : Nat} {t : TGs} {σ : L2.St} {H : Hp} {Q : L2.St → Hp → Prop} {p : Addr} {xs : List V} (hS : SqT K H p xs) (h : xs.length = n) (q : t xs σ H Q) :
    gTup K n t (.ref p) σ H Q := ⟨p, xs, rfl, hS, h, q⟩
theorem ixT_new {K : PySem.W.Frag} {H : Hp} {Q : VK} {p : Addr} {xs : List V} {i : Int} {v : V} (h : atI xs i = some v) (q : Q v (upd H p (.tup xs))) :
    rIxT K (.ref p) (.int i) (upd H p (.tup xs)) Q := ⟨p, xs, i, v, rfl, rfl, sq_new, h, q⟩
theorem ixT_as {K : PySem.W.Frag} {H : Hp} {Q : VK} {p : Addr} {xs : List V} {i : Int} {v : V} (hS : SqT K H p xs) (h : atI xs i = some v) (q : Q v H) :
    rIxT K (.ref p) (.int i) H Q := ⟨p, xs, i, v, rfl, rfl, hS, h, q⟩
theorem ixL_as {K : PySem.W.Frag} {H : Hp} {Q : VK} {p : Addr} {xs : List V} {i : Int} {v : V} (hS : SqL K H p xs) (h : atI xs i = some v) (q : Q v H) :
    rIxL K (.ref p) (.int i) H Q := ⟨p, xs, i, v, rfl, rfl, hS, h, q⟩
/-! sizes -/
/-- below 2 ^ k -/
def Sm (k : Nat) (x : Int) : Prop := x.natAbs < 2 ^ k
theorem Sm.mono {j k : Nat} {x : Int} (h : Sm j x) (l : j ≤ k) : Sm k x := Nat.lt_of_lt_of_le h (Nat.pow_le_pow_right (by omega) l)
theorem Sm.mul {j k : Nat} {x y : Int} (h : Sm j x) (l : Sm k y) : Sm (j + k) (x * y) := wide_lt h l
theorem Sm.add {k : Nat} {x y : Int} (h : Sm k x) (l : Sm k y) : Sm (k + 1) (x + y) := by
  unfold Sm at *
  have : (x + y).natAbs ≤ x.natAbs + y.natAbs := Int.natAbs_add_le x y
  rw [Nat.pow_succ]
  omega
theorem Sm.neg {k : Nat} {x : Int} (h : Sm k x) : Sm k (-x) := by
  unfold Sm at *
  omega
theorem Sm.sub {k : Nat} {x y : Int} (h : Sm k x) (l : Sm k y) : Sm (k + 1) (x - y) := by
  have := h.add l.neg
  rwa [← Int.sub_eq_add_neg] at this
theorem Sm.ad {j k : Nat} {x y : Int} (h : Sm j x) (l : Sm k y) : Sm (j + k + 1) (x + y) := (h.mono (Nat.le_add_right j k)).add (l.mono (Nat.le_add_left k j))
theorem Sm.sb {j k : Nat} {x y : Int} (h : Sm j x) (l : Sm k y) : Sm (j + k + 1) (x - y) := (h.mono (Nat.le_add_right j k)).sub (l.mono (Nat.le_add_left k j))
theorem Sm.lit {k : Nat} {x : Int} (h : x.natAbs < 2 ^ k := by decide) : Sm k x := h
theorem Sm.le {k : Nat} {x y : Int} (h : Sm k y) (h0 : 0 ≤ x) (h1 : x ≤ y) : Sm k x := by
  unfold Sm at *
  omega
theorem Sm.pw {j : Nat} {x : Int} (h : Sm j x) (n : Nat) : Sm (j * n + 1) (x ^ n) := by
  induction n with
  | zero => rw [Int.pow_zero]; exact (Sm.lit (k := 1)).mono (by omega)
  | succ n ih => rw [Int.pow_succ]; exact (ih.mul h).mono (by rw [Nat.mul_succ]; omega)
/-- what * asks -/
theorem Sm.mx {j k : Nat} {x y : Int} (h : Sm j x) (l : Sm k y) (b : j + k ≤ 134217728) : CMulX x y := mulx_ok h l b
end RR

namespace RR
open PySem PySem.Spec PyProof.Rows L2
/-- a tuple of two ints -/
def Tp (K : PySem.W.Frag) (H : Hp) (v : V) (x y : Int) : Prop := ∃ p, v = .ref p ∧ SqT K H p [.int x, .int y]
theorem Tp.of {K : PySem.W.Frag} {H : Hp} {p : Addr} {x y : Int} (h : H p = some (.tup [.int x, .int y])) : Tp K H (.ref p) x y := ⟨p, rfl, sq_of h⟩
theorem dp2 {K : PySem.W.Frag} {H : Hp} {v : V} {x y : Int} (h : Tp K H v x y) : Dp K H v (.tuple [.int x, .int y]) := by
  obtain ⟨p, rfl, h⟩ := h
  exact .tup h (.cons (.int x) (.cons (.int y) .nil))
theorem eqv2 (x y u v : Int) : PyData.eqv (.tuple [.int x, .int y]) (.tuple [.int u, .int v]) = (decide (x = u) && decide (y = v)) := by
  simp only [PyData.eqv, PyData.eqvAll, Bool.and_true]
  rfl
section
variable {X : Cx}
/-- ==, != of two tuples of two ints -/
theorem op_eq2 (hu : X.A.units + 64 < cLine) : OpR X (compareOp .Eq) (fun x y H Q => ∃ a b c d, Tp X.K H x a b ∧ Tp X.K H y c d ∧ Q (.bl (decide (a = c) && decide (b = d))) H) := by
  intro pins s σ H x y v u Q I rx ry h
  obtain ⟨a, b, c, d, h1, h2, q⟩ := h
  exact op_eqD hu pins s σ H x y v u Q I rx ry ⟨_, _, dp2 h1, dp2 h2, rfl, rfl, by rw [eqv2]; exact q⟩
theorem op_ne2 (hu : X.A.units + 64 < cLine) : OpR X (compareOp .NotEq) (fun x y H Q => ∃ a b c d, Tp X.K H x a b ∧ Tp X.K H y c d ∧ Q (.bl (!(decide (a = c) && decide (b = d)))) H) := by
  intro pins s σ H x y v u Q I rx ry h
  obtain ⟨a, b, c, d, h1, h2, q⟩ := h
  exact op_neD hu pins s σ H x y v u Q I rx ry ⟨_, _, dp2 h1, dp2 h2, rfl, rfl, by rw [eqv2]; exact q⟩
/-- a ** b of a great int -/
def CPowW (i j : Int) : Prop := 0 ≤ j ∧ (Builtin.Int.intBits i : Int) * j ≤ 2 ^ 27
theorem op_powW : OpR X (binaryOp .Pow) (rI CPowW fun i j => .int (i ^ j.toNat)) := opI fun i j _ _ _ _ _ hc q => pow_int hc.1 hc.2 q
/-- isinstance of an int -/
theorem isi_int : CallR X (.builtin "isinstance") (fun xs H Q => ∃ i : Int, xs = [.int i, .ty "int"] ∧ Q (.bl true) H) := by
  intro pins s σ H xs us Q I r h
  obtain ⟨i, rfl, q⟩ := h
  exact call_isi pins s σ H _ us Q I r ⟨.int i, .ty "int", .type "int", .type "int", true, rfl, .ty "int", .base (.int i), kit_ty (by decide +kernel), q⟩
theorem isi_bool : CallR X (.builtin "isinstance") (fun xs H Q => ∃ i : Int, xs = [.int i, .ty "bool"] ∧ Q (.bl false) H) := by
  intro pins s σ H xs us Q I r h
  obtain ⟨i, rfl, q⟩ := h
  exact call_isi pins s σ H _ us Q I r ⟨.int i, .ty "bool", .type "int", .type "bool", false, rfl, .ty "bool", .base (.int i), kit_ty (by decide +kernel), q⟩
theorem isi_list : CallR X (.builtin "isinstance") (fun xs H Q => ∃ (a : Addr) (ys : List V), xs = [.ref a, .ty "list"] ∧ H a = some (.lst ys) ∧ Q (.bl true) H) := by
  intro pins s σ H xs us Q I r h
  obtain ⟨a, ys, rfl, e, q⟩ := h
  exact call_isi pins s σ H _ us Q I r ⟨.ref a, .ty "list", .type "list", .type "list", true, rfl, .ty "list", .base (.lst e), kit_ty (by decide +kernel), q⟩
theorem isi_tup : CallR X (.builtin "isinstance") (fun xs H Q => ∃ (a : Addr) (ys : List V), xs = [.ref a, .ty "tuple"] ∧ H a = some (.tup ys) ∧ Q (.bl true) H) := by
  intro pins s σ H xs us Q I r h
  obtain ⟨a, ys, rfl, e, q⟩ := h
  exact call_isi pins s σ H _ us Q I r ⟨.ref a, .ty "tuple", .type "tuple", .type "tuple", true, rfl, .ty "tuple", .base (.tup e), kit_ty (by decide +kernel), q⟩
end
/-- an if and what follows it, once -/
theorem split_if {c : Prop} [Decidable c] {t u : TS} {D : Ends} {σ : L2.St} {H : Hp} (R : L2.St → Hp → Prop) (hR : ∀ σ' H', R σ' H' → D.nx σ' H')
    (h : ∀ D' : Ends, (∀ σ' H', R σ' H' → D'.nx σ' H') → if c then t D' σ H else u D' σ H) : if c then t D σ H else u D σ H := h D hR
theorem sm_bits {z : Int} {k : Nat} (h : Builtin.Int.intBits z ≤ k) : Sm k z := by
  unfold Builtin.Int.intBits at h
  unfold Sm
  split at h
  · rename_i e
    have e0 : z = 0 := by simpa using e
    subst e0
    exact Nat.two_pow_pos k
  · exact Nat.lt_of_lt_of_le Nat.lt_log2_self (Nat.pow_le_pow_right (by decide) h)
theorem getD_bits {ns : List Int} {k : Nat} (h : ∀ z ∈ ns, Builtin.Int.intBits z ≤ k) (i : Nat) : Sm k (ns.getD i 0) := by
  rw [List.getD_eq_getElem?_getD]
  cases e : ns[i]? with
  | none => exact Nat.two_pow_pos k
  | some z => exact sm_bits (h z (List.mem_of_getElem? e))
end RR

namespace RR
/-! the pairs of a base -/
def XY (a : Int) : Nat → Int × Int
  | 0 => (1, 0)
  | n + 1 => (a * (XY a n).1 + (a * a - 1) * (XY a n).2, (XY a n).1 + a * (XY a n).2)
def px (a : Int) (n : Nat) : Int := (XY a n).1
def py (a : Int) (n : Nat) : Int := (XY a n).2
theorem px0 (a : Int) : px a 0 = 1 := rfl
theorem py0 (a : Int) : py a 0 = 0 := rfl
theorem px1 (a : Int) (n : Nat) : px a (n + 1) = a * px a n + (a * a - 1) * py a n := rfl
theorem py1 (a : Int) (n : Nat) : py a (n + 1) = px a n + a * py a n := rfl
theorem pell (a : Int) (n : Nat) : px a n * px a n - (a * a - 1) * (py a n * py a n) = 1 := by
  induction n with
  | zero => rw [px0, py0]; omega
  | succ n ih => rw [px1, py1]; grind
theorem pxy_add (a : Int) (m n : Nat) : px a (m + n) = px a m * px a n + (a * a - 1) * (py a m * py a n) ∧ py a (m + n) = px a m * py a n + py a m * px a n := by
  induction n with
  | zero => rw [px0, py0, Nat.add_zero]; constructor <;> grind
  | succ n ih =>
    obtain ⟨h1, h2⟩ := ih
    rw [← Nat.add_assoc, px1, py1, px1, py1, h1, h2]
    constructor <;> grind
theorem px_dbl (a : Int) (n : Nat) : px a (2 * n) = 2 * px a n * px a n - 1 := by
  rw [Nat.two_mul, (pxy_add a n n).1]
  have := pell a n
  grind
theorem py_dbl (a : Int) (n : Nat) : py a (2 * n) = 2 * px a n * py a n := by
  rw [Nat.two_mul, (pxy_add a n n).2]
  grind
theorem pxy_pos {a : Int} (ha : 2 ≤ a) (n : Nat) : 0 ≤ py a n ∧ py a n < px a n := by
  induction n with
  | zero => rw [px0, py0]; omega
  | succ n ih =>
    obtain ⟨h1, h2⟩ := ih
    rw [px1, py1]
    have e1 : a * a ≥ 2 * a := Int.mul_le_mul_of_nonneg_right ha (by omega)
    have e2 : a * px a n ≥ 2 * px a n := Int.mul_le_mul_of_nonneg_right ha (by omega)
    have e3 : (a * a - 1) * py a n ≥ a * py a n := Int.mul_le_mul_of_nonneg_right (by omega) h1
    have e4 : 0 ≤ a * py a n := Int.mul_nonneg (by omega) h1
    omega
theorem px_mono1 {a : Int} (ha : 2 ≤ a) (n : Nat) : px a n ≤ px a (n + 1) := by
  obtain ⟨h1, h2⟩ := pxy_pos ha n
  rw [px1]
  have e1 : a * a ≥ 2 * a := Int.mul_le_mul_of_nonneg_right ha (by omega)
  have e2 : a * px a n ≥ 2 * px a n := Int.mul_le_mul_of_nonneg_right ha (by omega)
  have e3 : 0 ≤ (a * a - 1) * py a n := Int.mul_nonneg (by omega) h1
  omega
theorem px_mono {a : Int} (ha : 2 ≤ a) {m n : Nat} (h : m ≤ n) : px a m ≤ px a n := by
  induction h with
  | refl => exact Int.le_refl _
  | step _ ih => exact Int.le_trans ih (px_mono1 ha _)
/-! signs to the base two -/
def bval (l : List Nat) : Nat := l.foldl (fun v c => 2 * v + (c - 48)) 0
theorem bval_snoc (l : List Nat) (c : Nat) : bval (l ++ [c]) = 2 * bval l + (c - 48) := by
  unfold bval
  rw [List.foldl_append]
  rfl
theorem dig2 {d : Nat} (h : d < 2) : (Nat.digitChar d).toNat = 48 + d := by
  match d, h with
  | 0, _ => rfl
  | 1, _ => rfl
theorem binL_lt {n : Nat} (h : n < 2) : binL n = [48 + n] := by
  unfold binL
  rw [Nat.toDigits_of_lt_base h, List.map_singleton, dig2 h]
theorem binL_ge {n : Nat} (h : 2 ≤ n) : binL n = binL (n / 2) ++ [48 + n % 2] := by
  unfold binL
  rw [Nat.toDigits_of_base_le (by decide) h, List.map_append, List.map_singleton, dig2 (Nat.mod_lt _ (by decide))]
theorem bval_bin (n : Nat) : bval (binL n) = n := by
  induction n using Nat.strongRecOn with
  | ind n ih =>
    by_cases h : n < 2
    · rw [binL_lt h]
      show 2 * 0 + (48 + n - 48) = n
      omega
    · rw [binL_ge (by omega), bval_snoc, ih (n / 2) (by omega)]
      omega
theorem bin_mem (n : Nat) : ∀ c ∈ binL n, c = 48 ∨ c = 49 := by
  induction n using Nat.strongRecOn with
  | ind n ih =>
    intro c hc
    by_cases h : n < 2
    · rw [binL_lt h, List.mem_singleton] at hc
      omega
    · rw [binL_ge (by omega), List.mem_append, List.mem_singleton] at hc
      rcases hc with hc | hc
      · exact ih (n / 2) (by omega) c hc
      · omega
theorem bval_take {l : List Nat} {i c : Nat} (h : l[i]? = some c) : bval (l.take (i + 1)) = 2 * bval (l.take i) + (c - 48) := by
  rw [List.take_add_one, h]
  exact bval_snoc _ c
theorem fold_ge (m : List Nat) : ∀ v : Nat, v ≤ m.foldl (fun v c => 2 * v + (c - 48)) v := by
  induction m with
  | nil => intro v; exact Nat.le_refl _
  | cons c m ih =>
    intro v
    have := ih (2 * v + (c - 48))
    rw [List.foldl_cons]
    omega
theorem bval_app (l m : List Nat) : bval l ≤ bval (l ++ m) := by
  unfold bval
  rw [List.foldl_append]
  exact fold_ge m _
theorem bval_le (l : List Nat) (i : Nat) : bval (l.take i) ≤ bval l := by
  have := bval_app (l.take i) (l.drop i)
  rwa [List.take_append_drop] at this
theorem bin_len {n k : Nat} (h : n < 2 ^ k) (hk : 0 < k) : (binS n).length ≤ k := by
  show (binL n).toArray.size ≤ k
  rw [List.size_toArray]
  unfold binL
  rw [List.length_map]
  exact (Nat.length_toDigits_le_iff (by decide) hk).mpr h
end RR
namespace RR
theorem rest_dx (a : Int) (v : Nat) (m : Int) : (2 * (px a v % m) * (px a v % m) - 1) % m = (2 * px a v * px a v - 1) % m := by
  rw [Int.sub_emod, Int.mul_emod, Int.mul_emod 2, Int.emod_emod, ← Int.mul_emod 2, ← Int.mul_emod, ← Int.sub_emod]
theorem rest_dy (a : Int) (v : Nat) (m : Int) : (2 * (px a v % m) * (py a v % m)) % m = (2 * px a v * py a v) % m := by
  rw [Int.mul_emod, Int.mul_emod 2, Int.emod_emod, Int.emod_emod, ← Int.mul_emod 2, ← Int.mul_emod]
theorem modeq {m a b : Int} (k : Int) (h : a - b = m * k) : a % m = b % m :=
  Int.emod_eq_emod_iff_emod_sub_eq_zero.mpr (Int.emod_eq_zero_of_dvd ⟨k, h⟩)
theorem rest_nx (a x y m : Int) : (a * x + (a * a - 1) * y) % m = ((a % m) * (x % m) + ((a % m) * (a % m) - 1) * (y % m)) % m := by
  have h1 := Int.mul_ediv_add_emod a m
  have h2 := Int.mul_ediv_add_emod x m
  have h3 := Int.mul_ediv_add_emod y m
  generalize a % m = A at *
  generalize x % m = X at *
  generalize y % m = Y at *
  generalize a / m = q1 at *
  generalize x / m = q2 at *
  generalize y / m = q3 at *
  exact modeq (q1 * x + A * q2 + (a * a - 1) * q3 + q1 * (a + A) * Y) (by grind)
theorem rest_ny (a x y m : Int) : (x + a * y) % m = ((x % m) + (a % m) * (y % m)) % m := by
  have h1 := Int.mul_ediv_add_emod a m
  have h2 := Int.mul_ediv_add_emod x m
  have h3 := Int.mul_ediv_add_emod y m
  generalize a % m = A at *
  generalize x % m = X at *
  generalize y % m = Y at *
  generalize a / m = q1 at *
  generalize x / m = q2 at *
  generalize y / m = q3 at *
  exact modeq (q2 + q1 * y + A * q3) (by grind)
end RR
namespace RR
theorem px_step {a : Int} (ha : 2 ≤ a) (n : Nat) : (a * a - 1) * py a n ≤ a * px a n := by
  induction n with
  | zero => rw [px0, py0]; omega
  | succ n ih =>
    obtain ⟨h1, h2⟩ := pxy_pos ha n
    rw [px1, py1]
    have : a * (a * px a n + (a * a - 1) * py a n) - (a * a - 1) * (px a n + a * py a n) = px a n := by grind
    omega
theorem px_pow {a : Int} (ha : 2 ≤ a) (n : Nat) : px a n ≤ (2 * a) ^ n := by
  induction n with
  | zero => rw [px0, Int.pow_zero]; exact Int.le_refl _
  | succ n ih =>
    have h := px_step ha n
    rw [px1, Int.pow_succ]
    have e := Int.mul_le_mul_of_nonneg_right ih (show 0 ≤ 2 * a by omega)
    have : px a n * (2 * a) = a * px a n + a * px a n := by grind
    omega
theorem px_nat {a : Int} (ha : 2 ≤ a) (n B : Nat) (hB : 2 * a ≤ 2 ^ B) : (px a n).natAbs < 2 ^ (B * n + 1) := by
  have h := px_pow ha n
  have h0 := pxy_pos ha n
  have h2 : (2 * a) ^ n ≤ ((2 : Int) ^ B) ^ n := by
    have hp : ∀ k : Nat, (2 * a) ^ k ≤ ((2 : Int) ^ B) ^ k ∧ 0 ≤ (2 * a) ^ k := by
      intro k
      induction k with
      | zero => exact ⟨by rw [Int.pow_zero, Int.pow_zero]; exact Int.le_refl _, by rw [Int.pow_zero]; decide⟩
      | succ k ih =>
        rw [Int.pow_succ, Int.pow_succ]
        exact ⟨Int.mul_le_mul ih.1 hB (by omega) (Int.le_trans ih.2 ih.1), Int.mul_nonneg ih.2 (by omega)⟩
    exact (hp n).1
  have e : ((2 : Int) ^ B) ^ n = ((2 ^ (B * n) : Nat) : Int) := by
    rw [← Int.pow_mul]
    exact (Int.natCast_pow 2 (B * n)).symm
  rw [e] at h2
  rw [Nat.pow_succ]
  generalize (2 : Nat) ^ (B * n) = P at *
  omega
/-- what a power of x leaves -/
theorem px_power (a x : Int) (n : Nat) : ∃ k, px a n - py a n * (a - x) - x ^ n = (2 * a * x - x * x - 1) * k := by
  induction n with
  | zero => exact ⟨0, by rw [px0, py0, Int.pow_zero]; omega⟩
  | succ n ih =>
    obtain ⟨k, hk⟩ := ih
    refine ⟨x * k + py a n, ?_⟩
    rw [px1, py1, Int.pow_succ]
    grind
theorem px_cong (a b m : Int) (k : Int) (h : a - b = m * k) (n : Nat) : (∃ q, px a n - px b n = m * q) ∧ ∃ q, py a n - py b n = m * q := by
  induction n with
  | zero => exact ⟨⟨0, by rw [px0, px0]; omega⟩, ⟨0, by rw [py0, py0]; omega⟩⟩
  | succ n ih =>
    obtain ⟨⟨q, hq⟩, ⟨r, hr⟩⟩ := ih
    refine ⟨⟨k * px a n + b * q + (a * a - 1) * r + k * (a + b) * py b n, ?_⟩, ⟨q + k * py a n + b * r, ?_⟩⟩
    · rw [px1, px1]; grind
    · rw [py1, py1]; grind
end RR
namespace RR
theorem px_rec (a : Int) (k : Nat) : px a (k + 2) = 2 * a * px a (k + 1) - px a k := by
  rw [px1 a (k + 1), px1, py1]; grind
theorem py_rec (a : Int) (k : Nat) : py a (k + 2) = 2 * a * py a (k + 1) - py a k := by
  rw [py1 a (k + 1), px1, py1]; grind
theorem rest_rec {a m x2 X2 x1 X1 : Int} (h2 : x2 % m = X2 % m) (h1 : x1 % m = X1 % m) : (2 * a * x2 - x1) % m = (2 * a * X2 - X1) % m := by
  have e1 := Int.mul_ediv_add_emod x2 m
  have e2 := Int.mul_ediv_add_emod X2 m
  have e3 := Int.mul_ediv_add_emod x1 m
  have e4 := Int.mul_ediv_add_emod X1 m
  rw [h2] at e1
  rw [h1] at e3
  generalize X2 % m = A at *
  generalize X1 % m = B at *
  exact modeq (2 * a * (x2 / m - X2 / m) - (x1 / m - X1 / m)) (by grind)
theorem rest_dx' {a x : Int} {v : Nat} {m : Int} (h : x % m = px a v % m) : (2 * x * x - 1) % m = px a (2 * v) % m := by
  rw [px_dbl, ← rest_dx a v m, ← h]
  have e1 := Int.mul_ediv_add_emod x m
  generalize x % m = A at *
  exact modeq (2 * (x / m) * (x + A)) (by grind)
theorem rest_dy' {a x y : Int} {v : Nat} {m : Int} (h : x % m = px a v % m) (h' : y % m = py a v % m) : (2 * x * y) % m = py a (2 * v) % m := by
  rw [py_dbl, ← rest_dy a v m, ← h, ← h']
  have e1 := Int.mul_ediv_add_emod x m
  have e2 := Int.mul_ediv_add_emod y m
  generalize x % m = A at *
  generalize y % m = B at *
  exact modeq (2 * (x / m) * y + 2 * A * (y / m)) (by grind)
theorem rest_nx' {a x y : Int} {v : Nat} {m : Int} (h : x % m = px a v % m) (h' : y % m = py a v % m) : (a * x + (a * a - 1) * y) % m = px a (v + 1) % m := by
  rw [px1, rest_nx a x y, rest_nx a (px a v), h, h']
theorem rest_ny' {a x y : Int} {v : Nat} {m : Int} (h : x % m = px a v % m) (h' : y % m = py a v % m) : (x + a * y) % m = py a (v + 1) % m := by
  rw [py1, rest_ny a x y, rest_ny a (px a v), h, h']
/-- the value of signs, the lowest first -/
def lval : List Int → Nat
  | [] => 0
  | d :: r => d.toNat + 2 * lval r
theorem lval_app (l : List Int) (d : Int) : lval (l ++ [d]) = lval l + 2 ^ l.length * d.toNat := by
  induction l with
  | nil => show d.toNat + 2 * 0 = 0 + 2 ^ 0 * d.toNat; omega
  | cons c l ih =>
    show c.toNat + 2 * lval (l ++ [d]) = c.toNat + 2 * lval l + 2 ^ (l.length + 1) * d.toNat
    rw [ih, Nat.pow_succ, Nat.mul_add, Nat.mul_comm (2 ^ l.length) 2, Nat.mul_assoc]
    omega
theorem lval_drop {l : List Int} {i : Nat} {d : Int} (h : l[i]? = some d) : lval (l.drop i) = d.toNat + 2 * lval (l.drop (i + 1)) := by
  obtain ⟨hi, e⟩ := List.getElem?_eq_some_iff.mp h
  rw [List.drop_eq_getElem_cons hi, e]
  rfl
end RR
namespace RR
theorem rest_addx (a m : Int) (i j : Nat) : ((px a i % m) * (px a j % m) + (a * a - 1) * (py a i % m) * (py a j % m)) % m = px a (i + j) % m := by
  rw [(pxy_add a i j).1]
  have e1 := Int.mul_ediv_add_emod (px a i) m
  have e2 := Int.mul_ediv_add_emod (px a j) m
  have e3 := Int.mul_ediv_add_emod (py a i) m
  have e4 := Int.mul_ediv_add_emod (py a j) m
  generalize px a i % m = A at *
  generalize px a j % m = B at *
  generalize py a i % m = C at *
  generalize py a j % m = D at *
  exact (modeq ((px a i / m) * px a j + A * (px a j / m) + (a * a - 1) * ((py a i / m) * py a j + C * (py a j / m))) (by grind)).symm
theorem rest_addy (a m : Int) (i j : Nat) : ((px a i % m) * (py a j % m) + (py a i % m) * (px a j % m)) % m = py a (i + j) % m := by
  rw [(pxy_add a i j).2]
  have e1 := Int.mul_ediv_add_emod (px a i) m
  have e2 := Int.mul_ediv_add_emod (px a j) m
  have e3 := Int.mul_ediv_add_emod (py a i) m
  have e4 := Int.mul_ediv_add_emod (py a j) m
  generalize px a i % m = A at *
  generalize px a j % m = B at *
  generalize py a i % m = C at *
  generalize py a j % m = D at *
  exact (modeq ((px a i / m) * py a j + A * (py a j / m) + (py a i / m) * px a j + C * (px a j / m)) (by grind)).symm
end RR
namespace RR
theorem sq_lt {g k e : Nat} (h : g < 2 ^ e) (hk : k < 4) (he : 3 ≤ e) : g * g + k < 2 ^ (e * 2) := by
  have h8 : 2 ^ 3 ≤ 2 ^ e := Nat.pow_le_pow_right (by decide) he
  rw [Nat.pow_mul, Nat.pow_two]
  generalize 2 ^ e = P at *
  have h1 := Nat.mul_le_mul (show g + 1 ≤ P from h) (show g + 1 ≤ P from h)
  have h2 := Nat.mul_le_mul h8 h8
  have h3 : (g + 1) * (g + 1) = g * g + 2 * g + 1 := by grind
  by_cases hg : g < 2
  · have : g * g ≤ 1 * 1 := Nat.mul_le_mul (by omega) (by omega)
    omega
  · omega
end RR

namespace RR
open PySem PySem.Spec PyProof.Rows L2
def topS (i : Nat) : Stmt := PySem.Challenge.pw_runroots_k32_rests_of_pairs.main.body.getD i (.Pass ⟨0, 0, 0, 0⟩)
abbrev s__law_steps : Stmt := topS 10
theorem sc__law_steps : FnScope ["n", "a", "m", "one", "two", "k"] ["n", "a", "m"] (defScope s__law_steps) := ⟨rfl, rfl, rfl, by decide +kernel, rfl, by decide +kernel, by decide +kernel⟩
abbrev s__rests : Stmt := topS 4
theorem sc__rests : FnScope ["numbers", "m", "x", "y"] ["numbers", "m"] (defScope s__rests) := ⟨rfl, rfl, rfl, by decide +kernel, rfl, by decide +kernel, by decide +kernel⟩
abbrev s__doubled : Stmt := topS 2
theorem sc__doubled : FnScope ["x", "y"] ["x", "y"] (defScope s__doubled) := ⟨rfl, rfl, rfl, by decide +kernel, rfl, by decide +kernel, by decide +kernel⟩
abbrev s__next : Stmt := topS 3
theorem sc__next : FnScope ["x", "y", "a"] ["x", "y", "a"] (defScope s__next) := ⟨rfl, rfl, rfl, by decide +kernel, rfl, by decide +kernel, by decide +kernel⟩
abbrev s_pair_rest : Stmt := topS 1
theorem sc_pair_rest : FnScope ["n", "a", "m", "x", "y", "base", "digit"] ["n", "a", "m"] (defScope s_pair_rest) := ⟨rfl, rfl, rfl, by decide +kernel, rfl, by decide +kernel, by decide +kernel⟩
abbrev s__law_cell : Stmt := topS 7
theorem sc__law_cell : FnScope ["script", "k"] ["script", "k"] (defScope s__law_cell) := ⟨rfl, rfl, rfl, by decide +kernel, rfl, by decide +kernel, by decide +kernel⟩
abbrev s__law_doubled : Stmt := topS 11
theorem sc__law_doubled : FnScope ["n", "a", "m", "digits", "left", "k", "x", "y", "digit"] ["n", "a", "m"] (defScope s__law_doubled) := ⟨rfl, rfl, rfl, by decide +kernel, rfl, by decide +kernel, by decide +kernel⟩
abbrev s__law_is_integer : Stmt := topS 6
theorem sc__law_is_integer : FnScope ["actual"] ["actual"] (defScope s__law_is_integer) := ⟨rfl, rfl, rfl, by decide +kernel, rfl, by decide +kernel, by decide +kernel⟩
abbrev s_law : Stmt := topS 12
theorem sc_law : FnScope ["script", "number", "a", "m", "n", "due", "great", "k", "found", "one", "half", "two", "x", "y"] ["script"] (defScope s_law) := ⟨rfl, rfl, rfl, by decide +kernel, rfl, by decide +kernel, by decide +kernel⟩
local macro_rules | `(tactic| walk_at "sm") => `(tactic| first
  | assumption
  | exact Sm.lit (k := 64)
  | (refine' Sm.mul ?h1 ?h2; (case h1 => walk_at "sm"); (case h2 => walk_at "sm"))
  | (refine' Sm.ad ?h1 ?h2; (case h1 => walk_at "sm"); (case h2 => walk_at "sm"))
  | (refine' Sm.sb ?h1 ?h2; (case h1 => walk_at "sm"); (case h2 => walk_at "sm"))
  | (refine' Sm.neg ?h1; (case h1 => walk_at "sm"))
  | fail "sm")
local macro_rules | `(tactic| walk_at "rd") => `(tactic| repeat' first
  | (refine ⟨_, rfl, ?_⟩)
  | (refine ⟨_, _, rfl, rfl, ?_⟩)
  | (with_reducible refine tC_go ?_)
  | (with_reducible refine tNil_go ?_)
  | (with_reducible refine gTup_new (by with_unfolding_all rfl) ?_)
  | (with_reducible refine gTup_as (by first | exact sq_of (by assumption) | assumption) (by with_unfolding_all rfl) ?_)
  | (with_reducible refine ixT_new (by with_unfolding_all rfl) ?_)
  | (with_reducible refine ixT_as (by first | exact sq_of (by assumption) | assumption) (by with_unfolding_all rfl) ?_)
  | (refine ⟨_, _, (rfl : _ :: _ = _ :: _), ?_⟩)
  | (refine ⟨_, _, _, (rfl : _ :: _ = _ :: _), ?_⟩)
  | (refine ⟨rfl, ?_⟩)
  | (show _ ∧ _; refine And.intro (by omega) ?_)
  | ((with_reducible show CMulX _ _ ∧ _); refine And.intro (Sm.mx (by walk_at "sm") (by walk_at "sm") (by omega)) ?_)
  | ((with_reducible show CPow _ _ ∧ _); refine And.intro ⟨by decide, by decide, by decide⟩ ?_)
  | ((with_reducible show CDivW _ _ ∧ _); refine And.intro ⟨by first | omega | decide, by decide⟩ ?_)
  | (show _ ∧ _; refine And.intro (by assumption) ?_)
  | (show _ ∧ _; refine And.intro (Nat.le_of_ble_eq_true rfl) ?_)
  | fail "rd")

section
variable {P : Program} {w : World} {K : PySem.W.Frag} {mg : Str → Option Value} {base : Heap}
def sp__law_steps (K : PySem.W.Frag) : Sp := fun vs H Q _ => ∃ (n : Nat) (a m : Int) (B : Nat), vs = [.int n, .int a, .int m] ∧ 0 < m ∧ Sm B m ∧ Sm B a ∧ B ≤ 1000000 ∧ n < 2 ^ 20 ∧
  ∀ H' p, Same H H' → H p = none → H' p = some (.tup [.int (px a n % m), .int (py a n % m)]) → Q (.ref p) H'
theorem ok__law_steps {f : Addr} {fd : FuncData} (F : Fun K "_law_steps" "_law_steps" s__law_steps f fd) (m_range : mg "range" = none) (m_int : mg "int" = none) : FnOk P w K mg base CX0 1 f fd ["n", "a", "m"] (sp__law_steps K) := by
  refine F.ok sc__law_steps (fun vs H Q E h => ?_) (fun cdv A outer s H vs Q E hr h => ?_)
  · obtain ⟨n, a, m, B, rfl, _⟩ := h
    rfl
  · obtain ⟨n, a, m, B, rfl, hm, sm, sa, hB, hn, q⟩ := h
    refine ⟨_, (pss_cons (ps_par (by rfl) sc__law_steps.nd (i := 3) (j := 4) rfl rfl (by decide) rfl rfl (pa_cons (pe_tup (pa_cons pe_int (pa_cons pe_int pa_nil))) (pa_cons (pe_tup (pa_cons (pv 1) (pa_cons pe_int pa_nil))) pa_nil)) (by rfl))
      (pss_cons (ps_for PassesOwn.never rfl (pi_range1 (by rfl) m_range (pa_cons (pv 0) pa_nil)) (pg_name (i := 5) sc__law_steps.nd rfl (.inl rfl)) (pss_one (ps_par (by rfl) sc__law_steps.nd (i := 3) (j := 4) rfl rfl (by decide) rfl rfl (pa_cons (pv 4) (pa_cons (pe_tup (pa_cons (pe_op op_mod (pe_op op_sub (pe_op op_mulX (pe_op op_mulX pe_int (pv 1)) (pe_ix ix_tup (pv 4) pe_int (fun _ _ => rfl))) (pe_ix ix_tup (pv 3) pe_int (fun _ _ => rfl))) (pv 2)) (pa_cons (pe_op op_mod (pe_op op_sub (pe_op op_mulX (pe_op op_mulX pe_int (pv 1)) (pe_ix ix_tup (pv 4) pe_int (fun _ _ => rfl))) (pe_ix ix_tup (pv 3) pe_int (fun _ _ => rfl))) (pv 2)) pa_nil))) pa_nil)) (by rfl))))
      (pss_one (ps_ret (pe_tup (pa_cons (pe_op op_mod (pe_callTy call_intI (by rfl) m_int (by decide +kernel) (pa_cons (pe_ix ix_tup (pv 3) pe_int (fun _ _ => rfl)) pa_nil)) (pv 2)) (pa_cons (pe_op op_mod (pe_callTy call_intI (by rfl) m_int (by decide +kernel) (pa_cons (pe_ix ix_tup (pv 3) pe_int (fun _ _ => rfl)) pa_nil)) (pv 2)) pa_nil))))))), ?_⟩
    walk_at "rd"
    intro p1 n1
    walk_at "rd"
    intro p2 n2
    walk_at "rd"
    have hn62 : (n : Int) < 2 ^ 62 := by omega
    have hn0 : -(2 ^ 62) ≤ (n : Int) := by omega
    walk_at "rd"
    have st : ∀ z : Int, Sm (64 + B) (z % m) := fun z => (sm.le (Int.emod_nonneg z (by omega)) (Int.le_of_lt (Int.emod_lt_of_pos z hm))).mono (by omega)
    refine for_rng (n := n) (fun k σ H' => ∃ p1 p2 x1 y1 x2 y2 c5, σ = [some (.int n), some (.int a), some (.int m), some (.ref p1), some (.ref p2), c5] ∧ H' p1 = some (.tup [.int x1, .int y1]) ∧ H' p2 = some (.tup [.int x2, .int y2]) ∧
      x1 % m = px a k % m ∧ y1 % m = py a k % m ∧ x2 % m = px a (k + 1) % m ∧ y2 % m = py a (k + 1) % m ∧ Sm (64 + B) x1 ∧ Sm (64 + B) y1 ∧ Sm (64 + B) x2 ∧ Sm (64 + B) y2 ∧ Same H H') ?_ ?_ ?_
    · refine ⟨p1, p2, 1, 0, a, 1, none, rfl, ?_, upd_same, by rw [px0], by rw [py0], by rw [px1, px0, py0]; congr 1; omega, by rw [py1, px0, py0]; congr 1; omega,
        (Sm.lit (k := 64)).mono (Nat.le_add_right 64 B), (Sm.lit (k := 64)).mono (Nat.le_add_right 64 B), sa.mono (Nat.le_add_left B 64), (Sm.lit (k := 64)).mono (Nat.le_add_right 64 B), (same_upd n1).trans (same_upd n2)⟩
      rw [upd_ne (ne_of_none upd_same n2)]
      exact upd_same
    · intro k σ H1 hk hP
      obtain ⟨p1, p2, x1, y1, x2, y2, c5, rfl, h1, h2, e1, e2, e3, e4, s1, s2, s3, s4, sH⟩ := hP
      walk_at "rd"
      intro p3 n3
      walk_at "rd"
      refine ⟨p2, p3, x2, y2, _, _, some (.int k), rfl, ?_, upd_same, e3, e4, ?_, ?_, s3, s4, st _, st _, sH.trans (same_upd n3)⟩
      · rw [upd_ne (ne_of_none h2 n3)]
        exact h2
      · rw [Int.emod_emod, px_rec]
        exact rest_rec e3 e1
      · rw [Int.emod_emod, py_rec]
        exact rest_rec e4 e2
    · intro σ H1 hP
      obtain ⟨p1, p2, x1, y1, x2, y2, c5, rfl, h1, h2, e1, e2, e3, e4, s1, s2, s3, s4, sH⟩ := hP
      walk_at "rd"
      intro p np
      rw [← e1, ← e2] at q
      exact q _ p (sH.trans (same_upd np)) (sH.free np) upd_same

def sp__rests (K : PySem.W.Frag) : Sp := fun vs H Q _ => ∃ (p : Addr) (x y m : Int), vs = [.ref p, .int m] ∧ SqT K H p [.int x, .int y] ∧ 0 < m ∧
  ∀ p, H p = none → Q (.ref p) (upd H p (.tup [.int (x % m), .int (y % m)]))
theorem ok__rests {f : Addr} {fd : FuncData} (F : Fun K "_rests" "_rests" s__rests f fd)  : FnOk P w K mg base CX0 1 f fd ["numbers", "m"] (sp__rests K) := by
  refine F.ok sc__rests (fun vs H Q E h => ?_) (fun cdv A outer s H vs Q E hr h => ?_)
  · obtain ⟨p, x, y, m, rfl, _⟩ := h
    rfl
  · obtain ⟨p, x, y, m, rfl, hS, hm, q⟩ := h
    refine ⟨_, (pss_cons (ps_asg (pv 0) (pg_tup (by rfl) (pgs_cons (pg_name (i := 2) sc__rests.nd rfl (.inl rfl)) (pgs_cons (pg_name (i := 3) sc__rests.nd rfl (.inl rfl)) pgs_nil))))
      (pss_one (ps_ret (pe_tup (pa_cons (pe_op op_mod (pv 2) (pv 1)) (pa_cons (pe_op op_mod (pv 3) (pv 1)) pa_nil)))))), ?_⟩
    walk_at "rd"
    refine gTup_as hS rfl ?_
    walk_at "rd"
    exact q

def sp__doubled (K : PySem.W.Frag) : Sp := fun vs H Q _ => ∃ (x y : Int) (B : Nat), vs = [.int x, .int y] ∧ Sm B x ∧ Sm B y ∧ B ≤ 10000000 ∧
  ∀ p, H p = none → Q (.ref p) (upd H p (.tup [.int (2 * x * x - 1), .int (2 * x * y)]))
theorem ok__doubled {f : Addr} {fd : FuncData} (F : Fun K "_doubled" "_doubled" s__doubled f fd)  : FnOk P w K mg base CX0 1 f fd ["x", "y"] (sp__doubled K) := by
  refine F.ok sc__doubled (fun vs H Q E h => ?_) (fun cdv A outer s H vs Q E hr h => ?_)
  · obtain ⟨x, y, B, rfl, _⟩ := h
    rfl
  · obtain ⟨x, y, B, rfl, hx, hy, hB, q⟩ := h
    refine ⟨_, (pss_one (ps_ret (pe_tup (pa_cons (pe_op op_sub (pe_op op_mulX (pe_op op_mulX pe_int (pv 0)) (pv 0)) pe_int) (pa_cons (pe_op op_mulX (pe_op op_mulX pe_int (pv 0)) (pv 1)) pa_nil))))), ?_⟩
    walk_at "rd"
    exact q

def sp__next (K : PySem.W.Frag) : Sp := fun vs H Q _ => ∃ (x y a : Int) (B : Nat), vs = [.int x, .int y, .int a] ∧ Sm B x ∧ Sm B y ∧ Sm B a ∧ B ≤ 10000000 ∧
  ∀ p, H p = none → Q (.ref p) (upd H p (.tup [.int (a * x + (a * a - 1) * y), .int (x + a * y)]))
theorem ok__next {f : Addr} {fd : FuncData} (F : Fun K "_next" "_next" s__next f fd)  : FnOk P w K mg base CX0 1 f fd ["x", "y", "a"] (sp__next K) := by
  refine F.ok sc__next (fun vs H Q E h => ?_) (fun cdv A outer s H vs Q E hr h => ?_)
  · obtain ⟨x, y, a, B, rfl, _⟩ := h
    rfl
  · obtain ⟨x, y, a, B, rfl, hx, hy, ha, hB, q⟩ := h
    refine ⟨_, (pss_one (ps_ret (pe_tup (pa_cons (pe_op op_add (pe_op op_mulX (pv 2) (pv 0)) (pe_op op_mulX (pe_op op_sub (pe_op op_mulX (pv 2) (pv 2)) pe_int) (pv 1))) (pa_cons (pe_op op_add (pv 0) (pe_op op_mulX (pv 2) (pv 1))) pa_nil))))), ?_⟩
    walk_at "rd"
    exact q

def sp_pair_rest (K : PySem.W.Frag) : Sp := fun vs H Q _ => ∃ (n : Nat) (a m : Int) (B : Nat), vs = [.int n, .int a, .int m] ∧ 0 < m ∧ Sm B m ∧ B ≤ 1000000 ∧ n < 2 ^ 1000000 ∧
  ∀ H' p, Same H H' → H p = none → H' p = some (.tup [.int (px a n % m), .int (py a n % m)]) → Q (.ref p) H'
theorem ok_pair_rest {f : Addr} {fd : FuncData} (F : Fun K "pair_rest" "pair_rest" s_pair_rest f fd) (C__rests : Cal P w K mg base "_rests" 1 ["numbers", "m"] (sp__rests K)) (C__doubled : Cal P w K mg base "_doubled" 1 ["x", "y"] (sp__doubled K)) (C__next : Cal P w K mg base "_next" 1 ["x", "y", "a"] (sp__next K)) : FnOk P w K mg base CX0 2 f fd ["n", "a", "m"] (sp_pair_rest K) := by
  refine F.ok sc_pair_rest (fun vs H Q E h => ?_) (fun cdv A outer s H vs Q E hr h => ?_)
  · obtain ⟨n, a, m, B, rfl, _⟩ := h
    rfl
  · obtain ⟨n, a, m, B, rfl, hm, sm, hB, hn, q⟩ := h
    refine ⟨_, (pss_cons (ps_par3 (by rfl) sc_pair_rest.nd (i := 3) (j := 4) (l := 5) rfl rfl rfl (by decide) (by decide) (by decide) rfl rfl rfl (pa_cons (pe_op op_mod pe_int (pv 2)) (pa_cons pe_int (pa_cons (pe_op op_mod (pv 1) (pv 2)) pa_nil))) (by rfl))
      (pss_cons (ps_for PassesOwn.never rfl (pi_str (pe_fmtB (pv 0))) (pg_name (i := 6) sc_pair_rest.nd rfl (.inl rfl)) (pss_cons (ps_asg (pe_cal C__rests hr (by rfl) (pa_cons (pe_cal C__doubled hr (by rfl) (pa_cons (pv 3) (pa_cons (pv 4) pa_nil))) (pa_cons (pv 2) pa_nil))) (pg_tup (by rfl) (pgs_cons (pg_name (i := 3) sc_pair_rest.nd rfl (.inl rfl)) (pgs_cons (pg_name (i := 4) sc_pair_rest.nd rfl (.inl rfl)) pgs_nil))))
      (pss_one (ps_if (pt_cmpR op_eq (pv 6) pe_str (nomark _)) (pss_one (ps_asg (pe_cal C__rests hr (by rfl) (pa_cons (pe_cal C__next hr (by rfl) (pa_cons (pv 3) (pa_cons (pv 4) (pa_cons (pv 5) pa_nil)))) (pa_cons (pv 2) pa_nil))) (pg_tup (by rfl) (pgs_cons (pg_name (i := 3) sc_pair_rest.nd rfl (.inl rfl)) (pgs_cons (pg_name (i := 4) sc_pair_rest.nd rfl (.inl rfl)) pgs_nil))))) pss_nil))))
      (pss_one (ps_ret (pe_tup (pa_cons (pv 3) (pa_cons (pv 4) pa_nil))))))), ?_⟩
    walk_at "rd"
    refine ⟨Nat.le_trans (bin_len hn (by decide)) (by decide), _, rfl, ?_⟩
    have st : ∀ z : Int, Sm B (z % m) := fun z => sm.le (Int.emod_nonneg z (by omega)) (Int.le_of_lt (Int.emod_lt_of_pos z hm))
    refine for_str (fun i σ H' => ∃ (c5 : Option V), σ = [some (.int n), some (.int a), some (.int m), some (.int (px a (bval ((binL n).take i)) % m)), some (.int (py a (bval ((binL n).take i)) % m)), some (.int (a % m)), c5] ∧ Same H H') ?_ ?_ ?_
    · exact ⟨none, rfl, Same.refl H⟩
    · intro i d σ H1 hd hP
      obtain ⟨c5, rfl, sH⟩ := hP
      have hd1 : (binL n)[i]? = some d := by rw [← hd]; exact (List.getElem?_toArray).symm
      have hb := bval_take hd1
      obtain ⟨v, hv⟩ : ∃ v, v = bval ((binL n).take i) := ⟨_, rfl⟩
      rw [← hv] at hb ⊢
      walk_at "rd"
      refine ⟨_, _, B, rfl, st _, st _, by omega, fun p1 n1 => ?_⟩
      walk_at "rd"
      refine ⟨_, _, _, _, rfl, sq_new, hm, fun p2 n2 => ?_⟩
      walk_at "rd"
      have m2 := (sH.trans (same_upd n1)).trans (same_upd (o := .tup [.int ((2 * (px a v % m) * (px a v % m) - 1) % m), .int ((2 * (px a v % m) * (py a v % m)) % m)]) n2)
      rcases bin_mem n d (List.mem_of_getElem? hd1) with rfl | rfl
      · refine ite2 (fun e => absurd e (by decide)) (fun _ => ?_)
        refine ⟨some (.str ⟨#[48]⟩), ?_, m2⟩
        rw [hb, show 2 * v + (48 - 48) = 2 * v by omega, px_dbl, py_dbl, rest_dx a v m, rest_dy a v m]
        rfl
      · refine ite2 (fun _ => ?_) (fun e => absurd (by decide) e)
        have e1 : bval ((binL n).take (i + 1)) = 2 * v + 1 := by omega
        walk_at "rd"
        refine ⟨_, _, _, B, rfl, st _, st _, st _, by omega, fun p3 n3 => ?_⟩
        walk_at "rd"
        refine ⟨_, _, _, _, rfl, sq_new, hm, fun p4 n4 => ?_⟩
        walk_at "rd"
        refine ⟨some (.str ⟨#[49]⟩), ?_, (m2.trans (same_upd n3)).trans (same_upd n4)⟩
        have ex := rest_nx a (px a (2 * v)) (py a (2 * v)) m
        have ey := rest_ny a (px a (2 * v)) (py a (2 * v)) m
        rw [px_dbl, py_dbl, ← rest_dx a v m, ← rest_dy a v m] at ex ey
        rw [e1, px1, py1, px_dbl, py_dbl, ex, ey]
        rfl
    · intro σ H1 hP
      obtain ⟨c5, rfl, sH⟩ := hP
      have e : (binL n).take (binS n).cps.size = binL n := List.take_of_length_le (by show _ ≤ (binL n).toArray.size; simp)
      rw [e, bval_bin]
      walk_at "rd"
      intro p np
      exact q _ p (sH.trans (same_upd np)) (sH.free np) upd_same

def sp__law_cell (K : PySem.W.Frag) : Sp := fun vs H Q _ => ∃ (a : Addr) (ns : List Int) (k : Nat), vs = [.ref a, .int k] ∧ SqL K H a (ns.map V.int) ∧ Q (.int (ns.getD k 0)) H
theorem ok__law_cell {f : Addr} {fd : FuncData} (F : Fun K "_law_cell" "_law_cell" s__law_cell f fd) (m_len : mg "len" = none) : FnOk P w K mg base CX0 1 f fd ["script", "k"] (sp__law_cell K) := by
  refine F.ok sc__law_cell (fun vs H Q E h => ?_) (fun cdv A outer s H vs Q E hr h => ?_)
  · obtain ⟨a, ns, k, rfl, _⟩ := h
    rfl
  · obtain ⟨a, ns, k, rfl, hS, q⟩ := h
    refine ⟨_, (pss_cons (ps_if (pt_cmpR op_lt (pv 1) (pe_callB call_len_seq (by rfl) m_len (by decide +kernel) (pa_cons (pv 0) pa_nil)) (nomark _)) (pss_one (ps_ret (pe_ix ix_list (pv 0) (pv 1) (fun _ _ => rfl)))) pss_nil)
      (pss_one (ps_ret pe_int))), ?_⟩
    walk_at "rd"
    refine ⟨_, _, rfl, .inl hS, ?_⟩
    walk_at "rd"
    refine ite2 (fun e => ?_) (fun e => ?_)
    · have h1 : k < ns.length := by
        have := of_decide_eq_true e
        rw [List.length_map] at this
        omega
      walk_at "rd"
      refine ⟨_, _, _, .int ns[k], rfl, rfl, hS, atI_nat (by rw [List.getElem?_map, List.getElem?_eq_getElem h1]; rfl), ?_⟩
      rw [List.getD_eq_getElem?_getD, List.getElem?_eq_getElem h1] at q
      exact q
    · have h1 : ¬ k < ns.length := fun l => e (decide_eq_true (by rw [List.length_map]; omega))
      walk_at "rd"
      rw [List.getD_eq_getElem?_getD, List.getElem?_eq_none (by omega)] at q
      exact q

def sp__law_doubled (K : PySem.W.Frag) : Sp := fun vs H Q _ => ∃ (n : Nat) (a m : Int) (B : Nat), vs = [.int n, .int a, .int m] ∧ 0 < m ∧ Sm B m ∧ Sm B a ∧ B ≤ 1000000 ∧ n < 2 ^ 14000 ∧
  ∀ H' p, Same H H' → H p = none → H' p = some (.tup [.int (px a n % m), .int (py a n % m)]) → Q (.ref p) H'
theorem ok__law_doubled {f : Addr} {fd : FuncData} (F : Fun K "_law_doubled" "_law_doubled" s__law_doubled f fd) (m_range : mg "range" = none) (m_int : mg "int" = none) : FnOk P w K mg base CX0 1 f fd ["n", "a", "m"] (sp__law_doubled K) := by
  refine F.ok sc__law_doubled (fun vs H Q E h => ?_) (fun cdv A outer s H vs Q E hr h => ?_)
  · obtain ⟨n, a, m, B, rfl, _⟩ := h
    rfl
  · obtain ⟨n, a, m, B, rfl, hm, sm, sa, hB, hn, q⟩ := h
    refine ⟨_, (pss_cons (ps_set (i := 3) sc__law_doubled.nd rfl (.inl rfl) (pe_lst pa_nil))
      (pss_cons (ps_set (i := 4) sc__law_doubled.nd rfl (.inl rfl) (pv 0))
      (pss_cons (ps_for PassesOwn.never rfl (pi_range1 (by rfl) m_range (pa_cons pe_int pa_nil)) (pg_name (i := 5) sc__law_doubled.nd rfl (.inl rfl)) (pss_one (ps_if (pt_cmpR op_gt (pv 4) pe_int (nomark _)) (pss_cons (ps_expr (pe_bm PySem.F.plainAttrs_list PySem.F.slot_list_append PySem.F.type_list_append mt_append (pv 3) (pa_cons (pe_op op_sub (pv 4) (pe_op op_mulX (pe_op op_fdivW (pv 4) pe_int) pe_int)) pa_nil)))
      (pss_one (ps_set (i := 4) sc__law_doubled.nd rfl (.inl rfl) (pe_op op_fdivW (pv 4) pe_int)))) pss_nil)))
      (pss_cons (ps_asg (pe_tup (pa_cons pe_int (pa_cons pe_int pa_nil))) (pg_tup (by rfl) (pgs_cons (pg_name (i := 6) sc__law_doubled.nd rfl (.inl rfl)) (pgs_cons (pg_name (i := 7) sc__law_doubled.nd rfl (.inl rfl)) pgs_nil))))
      (pss_cons (ps_for PassesOwn.never rfl (pi_list (pe_revL (pv 3))) (pg_name (i := 8) sc__law_doubled.nd rfl (.inl rfl)) (pss_cons (ps_par (by rfl) sc__law_doubled.nd (i := 6) (j := 7) rfl rfl (by decide) rfl rfl (pa_cons (pe_op op_mod (pe_callTy call_intI (by rfl) m_int (by decide +kernel) (pa_cons (pe_op op_sub (pe_op op_mulX (pe_op op_mulX pe_int (pv 6)) (pv 6)) pe_int) pa_nil)) (pv 2)) (pa_cons (pe_op op_mod (pe_callTy call_intI (by rfl) m_int (by decide +kernel) (pa_cons (pe_op op_mulX (pe_op op_mulX pe_int (pv 6)) (pv 7)) pa_nil)) (pv 2)) pa_nil)) (by rfl))
      (pss_one (ps_if (pt_cmpR op_eq (pv 8) pe_int (nomark _)) (pss_one (ps_par (by rfl) sc__law_doubled.nd (i := 6) (j := 7) rfl rfl (by decide) rfl rfl (pa_cons (pe_op op_mod (pe_callTy call_intI (by rfl) m_int (by decide +kernel) (pa_cons (pe_op op_add (pe_op op_mulX (pv 1) (pv 6)) (pe_op op_mulX (pe_op op_sub (pe_op op_mulX (pv 1) (pv 1)) pe_int) (pv 7))) pa_nil)) (pv 2)) (pa_cons (pe_op op_mod (pe_callTy call_intI (by rfl) m_int (by decide +kernel) (pa_cons (pe_op op_add (pv 6) (pe_op op_mulX (pv 1) (pv 7))) pa_nil)) (pv 2)) pa_nil)) (by rfl))) pss_nil))))
      (pss_one (ps_ret (pe_tup (pa_cons (pe_op op_mod (pe_callTy call_intI (by rfl) m_int (by decide +kernel) (pa_cons (pv 6) pa_nil)) (pv 2)) (pa_cons (pe_op op_mod (pe_callTy call_intI (by rfl) m_int (by decide +kernel) (pa_cons (pv 7) pa_nil)) (pv 2)) pa_nil)))))))))), ?_⟩
    walk_at "rd"
    intro d nd
    walk_at "rd"
    have sl : ∀ k : Nat, Sm 14000 ((n / 2 ^ k : Nat) : Int) := fun k => by
      show (((n / 2 ^ k : Nat) : Int)).natAbs < 2 ^ 14000
      rw [Int.natAbs_natCast]
      exact Nat.lt_of_le_of_lt (Nat.div_le_self _ _) hn
    refine for_rng (n := 14000) (fun k σ H' => ∃ (dl : List Int) (c5 : Option V), σ = [some (.int n), some (.int a), some (.int m), some (.ref d), some (.int ((n / 2 ^ k : Nat) : Int)), c5, none, none, none] ∧ H' d = some (.lst (dl.map V.int)) ∧
      dl.length ≤ k ∧ (n / 2 ^ k ≠ 0 → dl.length = k) ∧ n = lval dl + 2 ^ dl.length * (n / 2 ^ k) ∧ (∀ c ∈ dl, c = 0 ∨ c = 1) ∧ ∀ b o, H b = some o → H' b = some o) ?_ ?_ ?_
    · refine ⟨[], none, ?_, upd_same, Nat.le_refl _, fun _ => rfl, ?_, (fun c hc => by cases hc), same_upd nd⟩
      · rw [Nat.pow_zero, Nat.div_one]
        rfl
      · show n = 0 + 2 ^ 0 * (n / 2 ^ 0)
        rw [Nat.pow_zero, Nat.div_one]
        omega
    · intro k σ H1 hk hP
      obtain ⟨dl, c5, rfl, hd, hl, hl2, hv, hc, sH⟩ := hP
      have hdiv : n / 2 ^ (k + 1) = n / 2 ^ k / 2 := by rw [Nat.pow_succ, Nat.div_div_eq_div_mul]
      have sl2 : Sm 14000 (((n / 2 ^ k : Nat) : Int) / 2) := by
        have := sl (k + 1)
        rw [hdiv] at this
        exact this
      generalize n / 2 ^ k = L at *
      walk_at "rd"
      refine ite2 (fun e => ?_) (fun e => ?_)
      · have hL : L ≠ 0 := by
          have := of_decide_eq_true e
          omega
        walk_at "rd"
        refine ⟨.inl ⟨rfl, _, .inl (.inl hd)⟩, ?_⟩
        walk_at "rd"
        refine ⟨d, _, _, rfl, rfl, hd, ?_, ?_⟩
        · rw [List.length_map]
          exact Nat.lt_of_le_of_lt (show dl.length ≤ 14000 by omega) (by decide)
        walk_at "rd"
        refine ⟨dl ++ [((L % 2 : Nat) : Int)], some (.int k), ?_, ?_, ?_, ?_, ?_, ?_, ?_⟩
        · rw [hdiv]
          rfl
        · rw [upd_same, List.map_append, show ((L % 2 : Nat) : Int) = (L : Int) - (L : Int) / 2 * 2 by omega]
          rfl
        · rw [List.length_append]
          show dl.length + 1 ≤ k + 1
          omega
        · intro _
          rw [List.length_append]
          show dl.length + 1 = k + 1
          have := hl2 hL
          omega
        · rw [lval_app, List.length_append, Int.toNat_natCast, hdiv, show dl.length + [((L % 2 : Nat) : Int)].length = dl.length + 1 from rfl, Nat.pow_succ, Nat.mul_assoc, Nat.add_assoc, ← Nat.mul_add,
            show L % 2 + 2 * (L / 2) = L by omega]
          exact hv
        · intro c hx
          rcases List.mem_append.mp hx with hx | hx
          · exact hc c hx
          · rw [List.mem_singleton] at hx
            omega
        · intro b o hb
          rw [upd_ne (ne_of_none hb nd)]
          exact sH b o hb
      · have hL : L = 0 := by
          have : ¬ (0 : Int) < (L : Int) := fun l => e (decide_eq_true l)
          omega
        subst hL
        refine ⟨dl, some (.int k), ?_, hd, by omega, fun z => absurd (by rw [hdiv]) z, ?_, hc, sH⟩
        · rw [hdiv]
          rfl
        · rw [hdiv]
          exact hv
    · intro σ H1 hP
      obtain ⟨dl, c5, rfl, hd, hl, hl2, hv, hc, sH⟩ := hP
      rw [Nat.div_eq_of_lt hn, Nat.mul_zero, Nat.add_zero] at hv
      walk_at "rd"
      intro p1 n1
      walk_at "rd"
      have hd1 : (upd H1 p1 (.tup [.int 1, .int 0])) d = some (.lst (dl.map V.int)) := by
        rw [upd_ne (ne_of_none hd n1)]
        exact hd
      refine ⟨d, _, rfl, .inl (.inl hd1), fun r nr => ?_⟩
      refine ⟨r, rfl, ⟨_, .inl (.inl upd_same)⟩, ?_⟩
      have st : ∀ z : Int, Sm (64 + B) (z % m) := fun z => (sm.le (Int.emod_nonneg z (by omega)) (Int.le_of_lt (Int.emod_lt_of_pos z hm))).mono (by omega)
      have sa' : Sm (64 + B) a := sa.mono (by omega)
      refine for_list (xs := (dl.map V.int).reverse) (fun j σ H' => ∃ x y c5 c8, σ = [some (.int n), some (.int a), some (.int m), some (.ref d), some (.int ((n / 2 ^ 14000 : Nat) : Int)), c5, some (.int x), some (.int y), c8] ∧ H' r = some (.lst (dl.map V.int).reverse) ∧
        x % m = px a (lval (dl.drop (dl.length - j))) % m ∧ y % m = py a (lval (dl.drop (dl.length - j))) % m ∧ Sm (64 + B) x ∧ Sm (64 + B) y ∧ ∀ b o, H b = some o → H' b = some o) ?_ ?_ ?_ ?_
      · refine ⟨1, 0, c5, none, rfl, upd_same, ?_, ?_, (Sm.lit (k := 64)).mono (by omega), (Sm.lit (k := 64)).mono (by omega), fun b o hb => ?_⟩
        · rw [Nat.sub_zero, List.drop_length]; rfl
        · rw [Nat.sub_zero, List.drop_length]; rfl
        · exact same_upd nr _ _ (same_upd n1 _ _ (sH b o hb))
      · intro j σ H2 hj hP
        obtain ⟨x, y, c5, c8, rfl, hr2, _⟩ := hP
        exact .inl (.inl hr2)
      · intro j v σ H2 hj hP
        obtain ⟨x, y, c5, c8, rfl, hr2, ex, ey, sx, sy, sH2⟩ := hP
        have hjl : j < dl.length := by
          have := (List.getElem?_eq_some_iff.mp hj).1
          simpa using this
        have hv' : v = .int (dl[dl.length - 1 - j]) := by
          rw [List.getElem?_reverse (by rw [List.length_map]; exact hjl), List.length_map, List.getElem?_map, List.getElem?_eq_getElem (by omega)] at hj
          exact (Option.some.inj hj).symm
        subst hv'
        obtain ⟨D, hD⟩ : ∃ D, D = dl[dl.length - 1 - j] := ⟨_, rfl⟩
        have hdrop : lval (dl.drop (dl.length - (j + 1))) = D.toNat + 2 * lval (dl.drop (dl.length - j)) := by
          have h0 : dl[dl.length - 1 - j]? = some D := by rw [hD]; exact List.getElem?_eq_getElem (by omega)
          have := lval_drop h0
          rwa [show dl.length - 1 - j + 1 = dl.length - j by omega, show dl.length - 1 - j = dl.length - (j + 1) by omega] at this
        have hD01 : D = 0 ∨ D = 1 := hc D (by rw [hD]; exact List.getElem_mem _)
        rw [← hD]
        generalize lval (dl.drop (dl.length - j)) = w at *
        walk_at "rd"
        have ex2 : (2 * x * x - 1) % m % m = px a (2 * w) % m := by rw [Int.emod_emod]; exact rest_dx' ex
        have ey2 : (2 * x * y) % m % m = py a (2 * w) % m := by rw [Int.emod_emod]; exact rest_dy' ex ey
        have sx2 := st (2 * x * x - 1)
        have sy2 := st (2 * x * y)
        rcases hD01 with rfl | rfl
        · refine ite2 (fun e => absurd e (by decide)) (fun _ => ?_)
          refine ⟨_, _, _, _, rfl, hr2, ?_, ?_, sx2, sy2, sH2⟩
          · rw [hdrop, ex2]
            congr 2
            omega
          · rw [hdrop, ey2]
            congr 2
            omega
        · refine ite2 (fun _ => ?_) (fun e => absurd (by decide) e)
          walk_at "rd"
          refine ⟨_, _, _, _, rfl, hr2, ?_, ?_, st _, st _, sH2⟩
          · rw [hdrop, Int.emod_emod, rest_nx' ex2 ey2]
            congr 2
            omega
          · rw [hdrop, Int.emod_emod, rest_ny' ex2 ey2]
            congr 2
            omega
      · intro σ H2 hP
        obtain ⟨x, y, c5, c8, rfl, hr2, ex, ey, sx, sy, sH2⟩ := hP
        rw [List.length_reverse, List.length_map, Nat.sub_self, List.drop_zero, ← hv] at ex ey
        walk_at "rd"
        intro p np
        rw [← ex, ← ey] at q
        refine q _ p (fun b o hb => same_upd np _ _ (sH2 b o hb)) ?_ upd_same
        cases hHp : H p with
        | none => rfl
        | some o => rw [sH2 _ _ hHp] at np; cases np

def sp__law_is_integer (K : PySem.W.Frag) : Sp := fun vs H Q _ => ∃ (i : Int), vs = [.int i] ∧ Q (.bl true) H
theorem ok__law_is_integer {f : Addr} {fd : FuncData} (F : Fun K "_law_is_integer" "_law_is_integer" s__law_is_integer f fd) (m_isinstance : mg "isinstance" = none) (m_int : mg "int" = none) (m_bool : mg "bool" = none) : FnOk P w K mg base CX0 1 f fd ["actual"] (sp__law_is_integer K) := by
  refine F.ok sc__law_is_integer (fun vs H Q E h => ?_) (fun cdv A outer s H vs Q E hr h => ?_)
  · obtain ⟨i, rfl, _⟩ := h
    rfl
  · obtain ⟨i, rfl, q⟩ := h
    refine ⟨_, (pss_one (ps_ret (pe_and (pe_callB isi_int (by rfl) m_isinstance (by decide +kernel) (pa_cons (pv 0) (pa_cons (pe_bltn (v := .ty "int") rfl m_int (by decide +kernel) rfl) pa_nil))) (pe_one (pe_not (pe_callB isi_bool (by rfl) m_isinstance (by decide +kernel) (pa_cons (pv 0) (pa_cons (pe_bltn (v := .ty "bool") rfl m_bool (by decide +kernel) rfl) pa_nil)))))))), ?_⟩
    walk_at "rd"
    exact q

def sp_law (K : PySem.W.Frag) : Sp := fun vs H Q _ => ∃ (a : Addr) (ns : List Int), vs = [.ref a] ∧ SqL K H a (ns.map V.int) ∧ ns.length ≤ 63 ∧ (∀ z ∈ ns, Builtin.Int.intBits z ≤ 1048576) ∧ ∀ H', Q (.bl true) H'
theorem ok_law {f : Addr} {fd : FuncData} (F : Fun K "law" "law" s_law f fd) (C__law_steps : Cal P w K mg base "_law_steps" 1 ["n", "a", "m"] (sp__law_steps K)) (C_pair_rest : Cal P w K mg base "pair_rest" 2 ["n", "a", "m"] (sp_pair_rest K)) (C__law_cell : Cal P w K mg base "_law_cell" 1 ["script", "k"] (sp__law_cell K)) (C__law_doubled : Cal P w K mg base "_law_doubled" 1 ["n", "a", "m"] (sp__law_doubled K)) (C__law_is_integer : Cal P w K mg base "_law_is_integer" 1 ["actual"] (sp__law_is_integer K)) (m_int : mg "int" = none) (m_range : mg "range" = none) (m_abs : mg "abs" = none) (m_all : mg "all" = none) : FnOk P w K mg base CX0 3 f fd ["script"] (sp_law K) := by
  refine F.ok sc_law (fun vs H Q E h => ?_) (fun cdv A outer s H vs Q E hr h => ?_)
  · obtain ⟨a, ns, rfl, _⟩ := h
    rfl
  · obtain ⟨sa, ns, rfl, hS, hlen, hbits, q⟩ := h
    refine ⟨_, (pss_cons (ps_set (i := 1) sc_law.nd rfl (.inl rfl) (pe_op op_mod (pe_callTy call_intI (by rfl) m_int (by decide +kernel) (pa_cons (pe_cal C__law_cell (hr.mono (by decide)) (by rfl) (pa_cons (pv 0) (pa_cons pe_int pa_nil))) pa_nil)) pe_int))
      (pss_cons (ps_asg (pe_tup (pa_cons (pe_op op_add pe_int (pe_op op_mod (pv 1) pe_int)) (pa_cons (pe_op op_add pe_int (pe_op op_mod (pe_op op_fdivW (pv 1) pe_int) pe_int)) (pa_cons (pe_op op_mod (pe_op op_fdivW (pv 1) pe_int) pe_int) pa_nil)))) (pg_tup (by rfl) (pgs_cons (pg_name (i := 2) sc_law.nd rfl (.inl rfl)) (pgs_cons (pg_name (i := 3) sc_law.nd rfl (.inr rfl)) (pgs_cons (pg_name (i := 4) sc_law.nd rfl (.inl rfl)) pgs_nil)))))
      (pss_cons (ps_if (pt_cmpR op_eq (pe_op op_mod (pv 1) pe_int) pe_int (nomark _)) (pss_one (ps_asg (pe_tup (pa_cons (pe_op op_add pe_int (pe_op op_mod (pe_callB call_abs (by rfl) m_abs (by decide +kernel) (pa_cons (pe_callTy call_intI (by rfl) m_int (by decide +kernel) (pa_cons (pe_cal C__law_cell (hr.mono (by decide)) (by rfl) (pa_cons (pv 0) (pa_cons pe_int pa_nil))) pa_nil)) pa_nil)) (pe_op op_pow pe_int pe_int))) (pa_cons (pe_op op_add pe_int (pe_op op_mod (pe_callB call_abs (by rfl) m_abs (by decide +kernel) (pa_cons (pe_callTy call_intI (by rfl) m_int (by decide +kernel) (pa_cons (pe_cal C__law_cell (hr.mono (by decide)) (by rfl) (pa_cons (pv 0) (pa_cons pe_int pa_nil))) pa_nil)) pa_nil)) (pe_op op_pow pe_int pe_int))) pa_nil))) (pg_tup (by rfl) (pgs_cons (pg_name (i := 2) sc_law.nd rfl (.inl rfl)) (pgs_cons (pg_name (i := 3) sc_law.nd rfl (.inr rfl)) pgs_nil))))) pss_nil)
      (pss_cons (ps_set (i := 5) sc_law.nd rfl (.inl rfl) (pe_cal C__law_steps (hr.mono (by decide)) (by rfl) (pa_cons (pv 4) (pa_cons (pv 2) (pa_cons (pv 3) pa_nil)))))
      (pss_cons (ps_if (PW.pt (pw_or (pt_cmpR (op_ne2 hr.units) (pe_cal C_pair_rest hr (by rfl) (pa_cons (pv 4) (pa_cons (pv 2) (pa_cons (pv 3) pa_nil)))) (pv 5) (nomark _)) (pw_or (pt_cmpR (op_ne2 hr.units) (pe_cal C__law_doubled (hr.mono (by decide)) (by rfl) (pa_cons (pv 4) (pa_cons (pv 2) (pa_cons (pv 3) pa_nil)))) (pv 5) (nomark _)) (pw_or1 (pt_cmpR (op_ne2 hr.units) (pe_cal C_pair_rest hr (by rfl) (pa_cons (pv 4) (pa_cons (pe_op op_add (pv 2) (pe_op op_mulX pe_int (pv 3))) (pa_cons (pv 3) pa_nil)))) (pv 5) (nomark _)))))) (pss_one (ps_ret pe_bl)) pss_nil)
      (pss_cons (ps_set (i := 6) sc_law.nd rfl (.inl rfl) (pe_op op_mod (pe_op op_powW (pe_callB call_abs (by rfl) m_abs (by decide +kernel) (pa_cons (pe_op op_add (pe_callTy call_intI (by rfl) m_int (by decide +kernel) (pa_cons (pe_cal C__law_cell (hr.mono (by decide)) (by rfl) (pa_cons (pv 0) (pa_cons pe_int pa_nil))) pa_nil)) pe_int) pa_nil)) pe_int) (pe_op op_mulX (pe_op op_mulX (pe_op op_pow pe_int pe_int) (pe_op op_pow pe_int pe_int)) (pe_op op_pow pe_int pe_int))))
      (pss_cons (ps_if (pt_cmpR op_eq (pe_op op_mod (pe_op op_fdivW (pv 1) pe_int) pe_int) pe_int (nomark _)) (pss_one (ps_for PassesOwn.never rfl (pi_range1 (by rfl) m_range (pa_cons pe_int pa_nil)) (pg_name (i := 7) sc_law.nd rfl (.inl rfl)) (pss_one (ps_set (i := 6) sc_law.nd rfl (.inl rfl) (pe_op op_add (pe_op op_mulX (pv 6) (pv 6)) (pv 7)))))) pss_nil)
      (pss_cons (ps_set (i := 8) sc_law.nd rfl (.inl rfl) (pe_cal C_pair_rest hr (by rfl) (pa_cons (pv 6) (pa_cons (pv 2) (pa_cons (pv 3) pa_nil)))))
      (pss_cons (ps_if (PW.pt (pw_or (pt_cmpR (op_ne2 hr.units) (pv 8) (pe_cal C__law_doubled (hr.mono (by decide)) (by rfl) (pa_cons (pv 6) (pa_cons (pv 2) (pa_cons (pv 3) pa_nil)))) (nomark _)) (pw_or1 (pt_not (pt_val (pe_callB (cr_all rfl) (by rfl) m_all (by decide +kernel) (pa_cons (pe_lc (own := [("one", 9)]) (g := gName 9) (by rfl) sc_law.nd (pi_tup (pv 8)) (blkOk_by (own := [("one", 9)]) (N := ["script", "number", "a", "m", "n", "due", "great", "k", "found", "one", "half", "two", "x", "y"]) (sc := defScope s_law) (by decide +kernel)) (fun _ _ _ _ _ => pg_name (i := 9) sc_law.nd rfl (Or.inl rfl)) (fun _ _ _ _ _ => pts_nil) (fun _ _ _ _ _ => (pe_and (pe_cal C__law_is_integer (hr.mono (by decide)) (by rfl) (pa_cons (pv 9) pa_nil)) (pe_and (pe_cmpR op_le pe_int (pv 9) (nomark _)) (pe_one (pe_cmpR op_lt (pv 9) (pv 3) (nomark _))))))) pa_nil))))))) (pss_one (ps_ret pe_bl)) pss_nil)
      (pss_cons (ps_set (i := 10) sc_law.nd rfl (.inl rfl) (pe_op op_fdivW (pv 6) pe_int))
      (pss_cons (ps_par (by rfl) sc_law.nd (i := 9) (j := 11) rfl rfl (by decide) rfl rfl (pa_cons (pe_cal C_pair_rest hr (by rfl) (pa_cons (pv 10) (pa_cons (pv 2) (pa_cons (pv 3) pa_nil)))) (pa_cons (pe_cal C_pair_rest hr (by rfl) (pa_cons (pe_op op_sub (pv 6) (pv 10)) (pa_cons (pv 2) (pa_cons (pv 3) pa_nil)))) pa_nil)) (by rfl))
      (pss_cons (ps_par (by rfl) sc_law.nd (i := 12) (j := 13) rfl rfl (by decide) rfl rfl (pa_cons (pe_op op_add (pe_op op_mulX (pe_ix ix_tup (pv 9) pe_int (fun _ _ => rfl)) (pe_ix ix_tup (pv 11) pe_int (fun _ _ => rfl))) (pe_op op_mulX (pe_op op_mulX (pe_op op_sub (pe_op op_mulX (pv 2) (pv 2)) pe_int) (pe_ix ix_tup (pv 9) pe_int (fun _ _ => rfl))) (pe_ix ix_tup (pv 11) pe_int (fun _ _ => rfl)))) (pa_cons (pe_op op_add (pe_op op_mulX (pe_ix ix_tup (pv 9) pe_int (fun _ _ => rfl)) (pe_ix ix_tup (pv 11) pe_int (fun _ _ => rfl))) (pe_op op_mulX (pe_ix ix_tup (pv 9) pe_int (fun _ _ => rfl)) (pe_ix ix_tup (pv 11) pe_int (fun _ _ => rfl)))) pa_nil)) (by rfl))
      (pss_one (ps_ret (pe_cmpR (op_eq2 hr.units) (pv 8) (pe_tup (pa_cons (pe_op op_mod (pe_callTy call_intI (by rfl) m_int (by decide +kernel) (pa_cons (pv 12) pa_nil)) (pv 3)) (pa_cons (pe_op op_mod (pe_callTy call_intI (by rfl) m_int (by decide +kernel) (pa_cons (pv 13) pa_nil)) (pv 3)) pa_nil))) (nomark _)))))))))))))))), ?_⟩
    walk_at "rd"
    refine ⟨_, _, 0, rfl, hS, ?_⟩
    generalize ns.getD 0 0 = z
    obtain ⟨N, eN⟩ : ∃ N : Nat, z % 90000 = N := ⟨(z % 90000).toNat, by omega⟩
    walk_at "rd"
    intro p1 n1
    walk_at "rd"
    have hS1 := (same_upd (o := .tup [.int (2 + z % 90000 % 59), .int (1 + z % 90000 / 59 % 400), .int (z % 90000 / 150 % 601)]) n1).seq hS
    obtain ⟨n', en⟩ : ∃ n' : Nat, z % 90000 / 150 % 601 = n' := ⟨N / 150 % 601, by omega⟩
    have h20 : (0 : Int) < 10 ^ (20 : Int).toNat := by decide +kernel
    have s20 : Sm 100 ((10 : Int) ^ (20 : Int).toNat) := by show _ < _; decide +kernel
    refine split_if (fun σ' H' => ∃ (a m : Int), σ' = [some (.ref sa), some (.int N), some (.int a), some (.int m), some (.int n'), none, none, none, none, none, none, none, none, none] ∧
      2 ≤ a ∧ Sm 200 a ∧ 0 < m ∧ Sm 200 m ∧ SqL K H' sa (ns.map V.int)) ?_ ?_
    · intro σ H2 hP
      obtain ⟨a, m, rfl, ha, sa2, hm, sm, hS2⟩ := hP
      have hn' : n' < 601 := by omega
      have big : ∀ k : Nat, n' < 2 ^ (k + 10) := fun k => Nat.lt_of_lt_of_le (show n' < 2 ^ 10 by omega) (Nat.pow_le_pow_right (by decide) (by omega))
      walk_at "rd"
      refine ⟨n', a, m, 200, rfl, hm, sm, sa2, by decide, big 10, fun H3 p3 m3 f3 h3 => ?_⟩
      walk_at "rd"
      refine ⟨n', a, m, 200, rfl, hm, sm, by decide, big 999990, fun H4 p4 m4 f4 h4 => ?_⟩
      have h3a := m4 _ _ h3
      walk_at "rd"
      refine ⟨_, _, _, _, Tp.of h4, Tp.of h3a, ?_⟩
      walk_at "rd"
      refine ite2 (fun e => absurd e (by simp)) (fun _ => ?_)
      walk_at "rd"
      refine ⟨n', a, m, 200, rfl, hm, sm, sa2, by decide, big 13990, fun H5 p5 m5 f5 h5 => ?_⟩
      have h3b := m5 _ _ h3a
      walk_at "rd"
      refine ⟨_, _, _, _, Tp.of h5, Tp.of h3b, ?_⟩
      walk_at "rd"
      refine ite2 (fun e => absurd e (by simp)) (fun _ => ?_)
      walk_at "rd"
      refine ⟨n', a + 3 * m, m, 200, rfl, hm, sm, by decide, big 999990, fun H6 p6 m6 f6 h6 => ?_⟩
      have h3c := m6 _ _ h3b
      obtain ⟨⟨q1, hq1⟩, ⟨q2, hq2⟩⟩ := px_cong (a + 3 * m) a m 3 (by omega) n'
      rw [modeq q1 hq1, modeq q2 hq2] at h6
      walk_at "rd"
      refine ⟨_, _, _, _, Tp.of h6, Tp.of h3c, ?_⟩
      walk_at "rd"
      refine ite2 (fun e => absurd e (by simp)) (fun _ => ?_)
      have hS6 := m6.seq (m5.seq (m4.seq (m3.seq hS2)))
      walk_at "rd"
      refine ⟨_, _, 3, rfl, hS6, ?_⟩
      have sy := getD_bits hbits 3
      generalize ns.getD 3 0 = y at *
      have hM : (0 : Int) < 10 ^ (64 : Int).toNat * 10 ^ (64 : Int).toNat * 10 ^ (64 : Int).toNat := by decide +kernel
      have sM : (10 : Int) ^ (64 : Int).toNat * 10 ^ (64 : Int).toNat * 10 ^ (64 : Int).toNat < 2 ^ 640 := by decide +kernel
      have s64 : Sm 250 ((10 : Int) ^ (64 : Int).toNat) := by show _ < _; decide +kernel
      walk_at "rd"
      refine ⟨⟨by decide, ?_⟩, ?_⟩
      · have sx : Sm 1048600 (if y + 977 < 0 then -(y + 977) else y + 977) := by
          have s1 : Sm (1048576 + 10 + 1) (y + 977) := sy.ad (Sm.lit (k := 10))
          split
          · exact s1.neg.mono (by omega)
          · exact s1.mono (by omega)
        have := PyProof.Rows.intBits_le sx
        omega
      walk_at "rd"
      obtain ⟨g0, eg0, hg0⟩ : ∃ g0 : Nat, (if y + 977 < 0 then -(y + 977) else y + 977) ^ (3 : Int).toNat % (10 ^ (64 : Int).toNat * 10 ^ (64 : Int).toNat * 10 ^ (64 : Int).toNat) = (g0 : Int) ∧ g0 < 2 ^ 640 := by
        generalize (10 : Int) ^ (64 : Int).toNat * 10 ^ (64 : Int).toNat * 10 ^ (64 : Int).toNat = T at *
        have b1 := Int.emod_nonneg ((if y + 977 < 0 then -(y + 977) else y + 977) ^ (3 : Int).toNat) (show T ≠ 0 by omega)
        have b2 := Int.emod_lt_of_pos ((if y + 977 < 0 then -(y + 977) else y + 977) ^ (3 : Int).toNat) hM
        refine ⟨_, (Int.toNat_of_nonneg b1).symm, ?_⟩
        have b3 := Int.lt_trans b2 sM
        have b4 : ((2 : Int) ^ 640) = ((2 ^ 640 : Nat) : Int) := by norm_cast
        rw [b4] at b3
        omega
      refine split_if (fun σ' H' => ∃ (g : Nat) (c7 : Option V), σ' = [some (.ref sa), some (.int N), some (.int a), some (.int m), some (.int n'), some (.ref p3), some (.int g), c7, none, none, none, none, none, none] ∧ g < 2 ^ 10240 ∧ H' = H6) ?_ ?_
      · intro σ H7 hP
        obtain ⟨g, c7, rfl, hg, rfl⟩ := hP
        have hg2 : g < 2 ^ 1000000 := Nat.lt_of_lt_of_le hg (Nat.pow_le_pow_right (by decide) (by decide))
        have hg3 : g < 2 ^ 14000 := Nat.lt_of_lt_of_le hg (Nat.pow_le_pow_right (by decide) (by decide))
        walk_at "rd"
        refine ⟨g, a, m, 200, rfl, hm, sm, by decide, hg2, fun H8 p8 m8 f8 h8 => ?_⟩
        walk_at "rd"
        refine ⟨g, a, m, 200, rfl, hm, sm, sa2, by decide, hg3, fun H9 p9 m9 f9 h9 => ?_⟩
        have h8a := m9 _ _ h8
        refine ⟨_, _, _, _, Tp.of h8a, Tp.of h9, ?_⟩
        walk_at "rd"
        refine ite2 (fun e => absurd e (by simp)) (fun _ => ?_)
        walk_at "rd"
        refine ⟨⟨_, sq_of h8a⟩, ?_⟩
        intro L nL
        have rx : ∀ t : Int, 0 ≤ t % m ∧ t % m < m := fun t => ⟨Int.emod_nonneg t (by omega), Int.emod_lt_of_pos t hm⟩
        refine lc_tup (K := K) (a := p8) (xs := [.int (px a g % m), .int (py a g % m)]) (fun i H' => H' L = some (.lst ((List.replicate i true).map V.bl)) ∧ H' p8 = some (.tup [.int (px a g % m), .int (py a g % m)])) ?_ ?_ ?_ ?_
        · exact ⟨upd_same, by rw [upd_ne (ne_of_none h8a nL)]; exact h8a⟩
        · intro i H' _ hP
          exact sq_of hP.2
        · intro i v H' hv hP
          obtain ⟨hL, h8b⟩ := hP
          obtain ⟨t, rfl, ht⟩ : ∃ t : Int, v = .int t ∧ 0 ≤ t ∧ t < m := by
            match i, hv with
            | 0, hv => exact ⟨_, (Option.some.inj hv).symm, rx _⟩
            | 1, hv => exact ⟨_, (Option.some.inj hv).symm, rx _⟩
          have hi : i < 2 := (List.getElem?_eq_some_iff.mp hv).1
          walk_at "rd"
          refine ite2 (fun _ => ?_) (fun e => absurd (decide_eq_true ht.1) e)
          walk_at "rd"
          refine ⟨_, hL, Nat.lt_of_lt_of_le (show _ < 3 by rw [List.length_map, List.length_replicate]; omega) (by decide), ?_, ?_⟩
          · rw [upd_same]
            show some (HO.lst (_ ++ [V.bl (decide (t < m))])) = _
            rw [decide_eq_true ht.2, List.replicate_succ', List.map_append]
            rfl
          · rw [upd_ne (ne_of hL h8b (by intro z; cases z)).symm]
            exact h8b
        · intro H' hP
          obtain ⟨hL, h8b⟩ := hP
          walk_at "rd"
          refine ⟨_, [true, true], rfl, .inl (.inl hL), ?_⟩
          walk_at "rd"
          refine ⟨g / 2, a, m, 200, rfl, hm, sm, by decide, Nat.lt_of_le_of_lt (Nat.div_le_self _ _) hg2, fun H10 p10 m10 f10 h10 => ?_⟩
          walk_at "rd"
          refine ⟨g - g / 2, a, m, 200, ?_, hm, sm, by decide, Nat.lt_of_le_of_lt (Nat.sub_le _ _) hg2, fun H11 p11 m11 f11 h11 => ?_⟩
          · rw [show ((g - g / 2 : Nat) : Int) = (g : Int) - (g : Int) / 2 by omega]
          have h10a := m11 _ _ h10
          have h8c := m11 _ _ (m10 _ _ h8b)
          have st : ∀ z : Int, Sm 200 (z % m) := fun z => sm.le (Int.emod_nonneg z (by omega)) (Int.le_of_lt (Int.emod_lt_of_pos z hm))
          have t1 := st (px a (g / 2))
          have t2 := st (py a (g / 2))
          have t3 := st (px a (g - g / 2))
          have t4 := st (py a (g - g / 2))
          walk_at "rd"
          intro p12 n12
          refine ⟨_, _, _, _, Tp.of (same_upd n12 _ _ h8c), Tp.of upd_same, ?_⟩
          have e1 := rest_addx a m (g / 2) (g - g / 2)
          have e2 := rest_addy a m (g / 2) (g - g / 2)
          rw [show g / 2 + (g - g / 2) = g by omega] at e1 e2
          show Q (.bl (decide (px a g % m = (px a (g / 2) % m * (px a (g - g / 2) % m) + (a * a - 1) * (py a (g / 2) % m) * (py a (g - g / 2) % m)) % m) &&
            decide (py a g % m = (px a (g / 2) % m * (py a (g - g / 2) % m) + py a (g / 2) % m * (px a (g - g / 2) % m)) % m))) _
          rw [e1, e2, decide_eq_true rfl, decide_eq_true rfl]
          exact q _
      · intro D' hD'
        refine ite2 (fun e => ?_) (fun e => ?_)
        · walk_at "rd"
          refine for_rng (n := 4) (fun k σ' H' => ∃ (g : Nat) (c7 : Option V), σ' = [some (.ref sa), some (.int N), some (.int a), some (.int m), some (.int n'), some (.ref p3), some (.int g), c7, none, none, none, none, none, none] ∧ g < 2 ^ (640 * 2 ^ k) ∧ H' = H6) ?_ ?_ ?_
          · exact ⟨g0, none, by rw [← eg0]; rfl, hg0, rfl⟩
          · intro k σ H7 hk hP
            obtain ⟨g, c7, rfl, hg, rfl⟩ := hP
            have he : 640 * 2 ^ k ≤ 5120 := by
              have : 2 ^ k ≤ 2 ^ 3 := Nat.pow_le_pow_right (by decide) (by omega)
              omega
            have he2 : 1 ≤ 2 ^ k := Nat.one_le_two_pow
            have sg : Sm 5120 (g : Int) := by
              show ((g : Int)).natAbs < 2 ^ 5120
              rw [Int.natAbs_natCast]
              exact Nat.lt_of_lt_of_le hg (Nat.pow_le_pow_right (by decide) he)
            walk_at "rd"
            refine ⟨?_, rfl⟩
            rw [Nat.pow_succ, ← Nat.mul_assoc]
            exact sq_lt hg hk (by omega)
          · intro σ H7 hP
            obtain ⟨g, c7, rfl, hg, rfl⟩ := hP
            exact hD' _ _ ⟨g, c7, rfl, hg, rfl⟩
        · walk_at "rd"
          refine hD' _ _ ⟨g0, none, ?_, Nat.lt_of_lt_of_le hg0 (Nat.pow_le_pow_right (by decide) (by decide)), rfl⟩
          rw [← eg0]
          rfl
    · intro D' hD'
      refine ite2 (fun e => ?_) (fun e => ?_)
      · walk_at "rd"
        refine ⟨_, _, 1, rfl, hS1, ?_⟩
        walk_at "rd"
        refine ⟨_, _, 2, rfl, hS1, ?_⟩
        walk_at "rd"
        intro p2 n2
        walk_at "rd"
        have e20 : (10 : Int) ^ (20 : Int).toNat = 100000000000000000000 := by decide +kernel
        obtain ⟨u1, eu1⟩ : ∃ u : Int, u = (if ns.getD 1 0 < 0 then -ns.getD 1 0 else ns.getD 1 0) % 10 ^ (20 : Int).toNat := ⟨_, rfl⟩
        obtain ⟨u2, eu2⟩ : ∃ u : Int, u = (if ns.getD 2 0 < 0 then -ns.getD 2 0 else ns.getD 2 0) % 10 ^ (20 : Int).toNat := ⟨_, rfl⟩
        have b1 : 0 ≤ u1 ∧ u1 < 100000000000000000000 := by
          rw [eu1, e20]
          exact ⟨Int.emod_nonneg _ (by decide), Int.emod_lt_of_pos _ (by decide)⟩
        have b2 : 0 ≤ u2 ∧ u2 < 100000000000000000000 := by
          rw [eu2, e20]
          exact ⟨Int.emod_nonneg _ (by decide), Int.emod_lt_of_pos _ (by decide)⟩
        refine hD' _ _ ⟨2 + u1, 1 + u2, ?_, by omega, Sm.le (y := 100000000000000000009) (Sm.lit (k := 200)) (by omega) (by omega), by omega, Sm.le (y := 100000000000000000009) (Sm.lit (k := 200)) (by omega) (by omega), (same_upd n2).seq hS1⟩
        rw [eu1, eu2, ← en, ← eN]
        rfl
      · walk_at "rd"
        refine hD' _ _ ⟨2 + z % 90000 % 59, 1 + z % 90000 / 59 % 400, ?_, by omega, Sm.le (y := 1000) (Sm.lit (k := 200)) (by omega) (by omega), by omega, Sm.le (y := 1000) (Sm.lit (k := 200)) (by omega) (by omega), hS1⟩
        rw [← en, ← eN]
        rfl

end
end RR

namespace RR
open PySem PySem.Spec PyProof.Rows L2
theorem all_mk {l : PySem.W.OpenLaw} {w : World} {K : PySem.W.Frag} {h : Heap} {mg : Str → Option Value} {fa : Addr} (X : K.In h) (G : h.Ns mainGlobals mg) (hfa : mg "law" = some (.ref fa))
    {f0 : Addr} {od0 an0 : Option Addr} {sl0 : Array (Option Value)} {oc0 kV0 dc0 pm0 cd0 ct0 : Value}
    {f1 : Addr} {od1 an1 : Option Addr} {sl1 : Array (Option Value)} {oc1 kV1 dc1 pm1 cd1 ct1 : Value}
    {f2 : Addr} {od2 an2 : Option Addr} {sl2 : Array (Option Value)} {oc2 kV2 dc2 pm2 cd2 ct2 : Value}
    {f3 : Addr} {od3 an3 : Option Addr} {sl3 : Array (Option Value)} {oc3 kV3 dc3 pm3 cd3 ct3 : Value}
    {f4 : Addr} {od4 an4 : Option Addr} {sl4 : Array (Option Value)} {oc4 kV4 dc4 pm4 cd4 ct4 : Value}
    {f5 : Addr} {od5 an5 : Option Addr} {sl5 : Array (Option Value)} {oc5 kV5 dc5 pm5 cd5 ct5 : Value}
    {f6 : Addr} {od6 an6 : Option Addr} {sl6 : Array (Option Value)} {oc6 kV6 dc6 pm6 cd6 ct6 : Value}
    {f7 : Addr} {od7 an7 : Option Addr} {sl7 : Array (Option Value)} {oc7 kV7 dc7 pm7 cd7 ct7 : Value}
    {f8 : Addr} {od8 an8 : Option Addr} {sl8 : Array (Option Value)} {oc8 kV8 dc8 pm8 cd8 ct8 : Value}
    (a0 : PySem.W.nsIn K mainGlobals "_law_steps" = some (some (.ref f0)))
    (l0 : K.lookup f0 = some ⟨oc0, od0, .func (PySem.W.fnOf "_law_steps" "_law_steps" (defArgs s__law_steps) (defBody s__law_steps) (defScope s__law_steps) .none kV0 dc0 pm0 an0 cd0 ct0), sl0⟩)
    (c0 : PySem.W.codeIn K cd0 "_law_steps" = true) (k0 : PySem.W.keepIn K (.ref f0) = true)
    (a1 : PySem.W.nsIn K mainGlobals "_rests" = some (some (.ref f1)))
    (l1 : K.lookup f1 = some ⟨oc1, od1, .func (PySem.W.fnOf "_rests" "_rests" (defArgs s__rests) (defBody s__rests) (defScope s__rests) .none kV1 dc1 pm1 an1 cd1 ct1), sl1⟩)
    (c1 : PySem.W.codeIn K cd1 "_rests" = true) (k1 : PySem.W.keepIn K (.ref f1) = true)
    (a2 : PySem.W.nsIn K mainGlobals "_doubled" = some (some (.ref f2)))
    (l2 : K.lookup f2 = some ⟨oc2, od2, .func (PySem.W.fnOf "_doubled" "_doubled" (defArgs s__doubled) (defBody s__doubled) (defScope s__doubled) .none kV2 dc2 pm2 an2 cd2 ct2), sl2⟩)
    (c2 : PySem.W.codeIn K cd2 "_doubled" = true) (k2 : PySem.W.keepIn K (.ref f2) = true)
    (a3 : PySem.W.nsIn K mainGlobals "_next" = some (some (.ref f3)))
    (l3 : K.lookup f3 = some ⟨oc3, od3, .func (PySem.W.fnOf "_next" "_next" (defArgs s__next) (defBody s__next) (defScope s__next) .none kV3 dc3 pm3 an3 cd3 ct3), sl3⟩)
    (c3 : PySem.W.codeIn K cd3 "_next" = true) (k3 : PySem.W.keepIn K (.ref f3) = true)
    (a4 : PySem.W.nsIn K mainGlobals "pair_rest" = some (some (.ref f4)))
    (l4 : K.lookup f4 = some ⟨oc4, od4, .func (PySem.W.fnOf "pair_rest" "pair_rest" (defArgs s_pair_rest) (defBody s_pair_rest) (defScope s_pair_rest) .none kV4 dc4 pm4 an4 cd4 ct4), sl4⟩)
    (c4 : PySem.W.codeIn K cd4 "pair_rest" = true) (k4 : PySem.W.keepIn K (.ref f4) = true)
    (a5 : PySem.W.nsIn K mainGlobals "_law_cell" = some (some (.ref f5)))
    (l5 : K.lookup f5 = some ⟨oc5, od5, .func (PySem.W.fnOf "_law_cell" "_law_cell" (defArgs s__law_cell) (defBody s__law_cell) (defScope s__law_cell) .none kV5 dc5 pm5 an5 cd5 ct5), sl5⟩)
    (c5 : PySem.W.codeIn K cd5 "_law_cell" = true) (k5 : PySem.W.keepIn K (.ref f5) = true)
    (a6 : PySem.W.nsIn K mainGlobals "_law_doubled" = some (some (.ref f6)))
    (l6 : K.lookup f6 = some ⟨oc6, od6, .func (PySem.W.fnOf "_law_doubled" "_law_doubled" (defArgs s__law_doubled) (defBody s__law_doubled) (defScope s__law_doubled) .none kV6 dc6 pm6 an6 cd6 ct6), sl6⟩)
    (c6 : PySem.W.codeIn K cd6 "_law_doubled" = true) (k6 : PySem.W.keepIn K (.ref f6) = true)
    (a7 : PySem.W.nsIn K mainGlobals "_law_is_integer" = some (some (.ref f7)))
    (l7 : K.lookup f7 = some ⟨oc7, od7, .func (PySem.W.fnOf "_law_is_integer" "_law_is_integer" (defArgs s__law_is_integer) (defBody s__law_is_integer) (defScope s__law_is_integer) .none kV7 dc7 pm7 an7 cd7 ct7), sl7⟩)
    (c7 : PySem.W.codeIn K cd7 "_law_is_integer" = true) (k7 : PySem.W.keepIn K (.ref f7) = true)
    (a8 : PySem.W.nsIn K mainGlobals "law" = some (some (.ref f8)))
    (l8 : K.lookup f8 = some ⟨oc8, od8, .func (PySem.W.fnOf "law" "law" (defArgs s_law) (defBody s_law) (defScope s_law) .none kV8 dc8 pm8 an8 cd8 ct8), sl8⟩)
    (c8 : PySem.W.codeIn K cd8 "law" = true) (k8 : PySem.W.keepIn K (.ref f8) = true)
    (z_range : PySem.W.nsIn K mainGlobals "range" = some none)
    (z_int : PySem.W.nsIn K mainGlobals "int" = some none)
    (z_len : PySem.W.nsIn K mainGlobals "len" = some none)
    (z_isinstance : PySem.W.nsIn K mainGlobals "isinstance" = some none)
    (z_bool : PySem.W.nsIn K mainGlobals "bool" = some none)
    (z_abs : PySem.W.nsIn K mainGlobals "abs" = some none)
    (z_all : PySem.W.nsIn K mainGlobals "all" = some none)
    : ∃ fd : FuncData, (∀ (s : Shared) (v : Value), BindsTo s fd ⟨[v], []⟩ [("script", v)]) ∧ ∀ base : Heap, K.In base → base.Ns mainGlobals mg → FnOk l.prog w K mg base CX0 3 fa fd ["script"] (sp_law K) := by
  have e := hfa.symm.trans (PySem.W.mg_of X G a8)
  cases e
  have F0 := fun_mk (st := s__law_steps) l0 c0 k0
  have F1 := fun_mk (st := s__rests) l1 c1 k1
  have F2 := fun_mk (st := s__doubled) l2 c2 k2
  have F3 := fun_mk (st := s__next) l3 c3 k3
  have F4 := fun_mk (st := s_pair_rest) l4 c4 k4
  have F5 := fun_mk (st := s__law_cell) l5 c5 k5
  have F6 := fun_mk (st := s__law_doubled) l6 c6 k6
  have F7 := fun_mk (st := s__law_is_integer) l7 c7 k7
  have F8 := fun_mk (st := s_law) l8 c8 k8
  have b0 := F0.binds (ps := ["n", "a", "m"]) fun _ _ _ _ _ _ us hl => match us, hl with | [_, _, _], _ => rfl
  have b1 := F1.binds (ps := ["numbers", "m"]) fun _ _ _ _ _ _ us hl => match us, hl with | [_, _], _ => rfl
  have b2 := F2.binds (ps := ["x", "y"]) fun _ _ _ _ _ _ us hl => match us, hl with | [_, _], _ => rfl
  have b3 := F3.binds (ps := ["x", "y", "a"]) fun _ _ _ _ _ _ us hl => match us, hl with | [_, _, _], _ => rfl
  have b4 := F4.binds (ps := ["n", "a", "m"]) fun _ _ _ _ _ _ us hl => match us, hl with | [_, _, _], _ => rfl
  have b5 := F5.binds (ps := ["script", "k"]) fun _ _ _ _ _ _ us hl => match us, hl with | [_, _], _ => rfl
  have b6 := F6.binds (ps := ["n", "a", "m"]) fun _ _ _ _ _ _ us hl => match us, hl with | [_, _, _], _ => rfl
  have b7 := F7.binds (ps := ["actual"]) fun _ _ _ _ _ _ us hl => match us, hl with | [_], _ => rfl
  refine ⟨PySem.W.fnOf "law" "law" (defArgs s_law) (defBody s_law) (defScope s_law) .none kV8 dc8 pm8 an8 cd8 ct8, fun s v => .of_eq rfl, fun base _ _ => ?_⟩
  have m_range := PySem.W.mg_none_of X G z_range
  have m_int := PySem.W.mg_none_of X G z_int
  have m_len := PySem.W.mg_none_of X G z_len
  have m_isinstance := PySem.W.mg_none_of X G z_isinstance
  have m_bool := PySem.W.mg_none_of X G z_bool
  have m_abs := PySem.W.mg_none_of X G z_abs
  have m_all := PySem.W.mg_none_of X G z_all
  have C__law_steps : Cal l.prog w K mg base "_law_steps" 1 ["n", "a", "m"] (sp__law_steps K) := ⟨_, _, ok__law_steps F0 m_range m_int, PySem.W.mg_of X G a0, F0.kp, b0⟩
  have C__rests : Cal l.prog w K mg base "_rests" 1 ["numbers", "m"] (sp__rests K) := ⟨_, _, ok__rests F1 , PySem.W.mg_of X G a1, F1.kp, b1⟩
  have C__doubled : Cal l.prog w K mg base "_doubled" 1 ["x", "y"] (sp__doubled K) := ⟨_, _, ok__doubled F2 , PySem.W.mg_of X G a2, F2.kp, b2⟩
  have C__next : Cal l.prog w K mg base "_next" 1 ["x", "y", "a"] (sp__next K) := ⟨_, _, ok__next F3 , PySem.W.mg_of X G a3, F3.kp, b3⟩
  have C_pair_rest : Cal l.prog w K mg base "pair_rest" 2 ["n", "a", "m"] (sp_pair_rest K) := ⟨_, _, ok_pair_rest F4 C__rests C__doubled C__next, PySem.W.mg_of X G a4, F4.kp, b4⟩
  have C__law_cell : Cal l.prog w K mg base "_law_cell" 1 ["script", "k"] (sp__law_cell K) := ⟨_, _, ok__law_cell F5 m_len, PySem.W.mg_of X G a5, F5.kp, b5⟩
  have C__law_doubled : Cal l.prog w K mg base "_law_doubled" 1 ["n", "a", "m"] (sp__law_doubled K) := ⟨_, _, ok__law_doubled F6 m_range m_int, PySem.W.mg_of X G a6, F6.kp, b6⟩
  have C__law_is_integer : Cal l.prog w K mg base "_law_is_integer" 1 ["actual"] (sp__law_is_integer K) := ⟨_, _, ok__law_is_integer F7 m_isinstance m_int m_bool, PySem.W.mg_of X G a7, F7.kp, b7⟩
  exact ok_law F8 C__law_steps C_pair_rest C__law_cell C__law_doubled C__law_is_integer m_int m_range m_abs m_all
end RR
open PySem PySem.W PyProof.Rows
set_option maxHeartbeats 0 in
theorem PySem.Challenge.cw_runroots_k32_rests_of_pairs_holds : PySem.Challenge.rw_runroots_k32_rests_of_pairs.Holds := by
  w_on; o_law; k_head; (case hw => w_witness2)
  k_fill
  refine L2.walk_ofB (l := PySem.Challenge.rw_runroots_k32_rests_of_pairs) (n := 63) (k := 3) (x := "script") (CX := fun _ => L2.CX0) (sp := fun w => RR.sp_law _) rfl (by decide) rfl ⟨rfl, by decide, by decide⟩ (fun w h Y => PySem.W.kIn_of Y) ?F (fun _ _ a ns hl hb _ hS => ⟨a, ns, rfl, hS, hl, hb, fun _ => rfl⟩) (fun _ _ _ _ _ h => h)
  case F =>
    intro w mg fa h KX G hmg
    refine' RR.all_mk KX G hmg ?a0 ?l0 ?c0 ?k0 ?a1 ?l1 ?c1 ?k1 ?a2 ?l2 ?c2 ?k2 ?a3 ?l3 ?c3 ?k3 ?a4 ?l4 ?c4 ?k4 ?a5 ?l5 ?c5 ?k5 ?a6 ?l6 ?c6 ?k6 ?a7 ?l7 ?c7 ?k7 ?a8 ?l8 ?c8 ?k8 ?z_range ?z_int ?z_len ?z_isinstance ?z_bool ?z_abs ?z_all
    (case a0 => k_is); (case l0 => k_is); (case c0 => k_is); (case k0 => k_is); (case a1 => k_is); (case l1 => k_is); (case c1 => k_is); (case k1 => k_is); (case a2 => k_is); (case l2 => k_is); (case c2 => k_is); (case k2 => k_is); (case a3 => k_is); (case l3 => k_is); (case c3 => k_is); (case k3 => k_is); (case a4 => k_is); (case l4 => k_is); (case c4 => k_is); (case k4 => k_is); (case a5 => k_is); (case l5 => k_is); (case c5 => k_is); (case k5 => k_is); (case a6 => k_is); (case l6 => k_is); (case c6 => k_is); (case k6 => k_is); (case a7 => k_is); (case l7 => k_is); (case c7 => k_is); (case k7 => k_is); (case a8 => k_is); (case l8 => k_is); (case c8 => k_is); (case k8 => k_is); (case z_range => k_is); (case z_int => k_is); (case z_len => k_is); (case z_isinstance => k_is); (case z_bool => k_is); (case z_abs => k_is); (case z_all => k_is)
