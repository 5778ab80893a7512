import PyProof.Rows.All
import PyProof.FString3
import PyProof.Rows.StrIntSpec
import HandS.ForMost
import HandS.FStr
import HandS.Wide
import HandS.WideBits
import HandS.Style
import HandS.Star
import HandS.RevRange
import HandS.EndBits
import HandS.IsInst
import HandS.Deep
import HandS.Gcd
import HandS.Text
import HandS.NoneIn
import HandS.Walk
import HandS.DictComp
import HandS.DictTup
import PyProof.Rows.BitMore
import PySem.Challenge.RW_runroots_k61_products_of_sums
set_option Elab.async false
set_option linter.all false
set_option maxRecDepth 100000
set_option maxHeartbeats 16000000
namespace RR
open PySem PySem.Spec PyProof.Rows L2 PySem.Builtin PySem.Builtin.Float
/-- a number's signs to the base two -/
def binL (n : Nat) : List Nat := (Nat.toDigits 2 n).map Char.toNat
def binS (n : Nat) : Str := ⟨(binL n).toArray⟩
def specB : FormatSpec := { align := 62, type := some 98 }
theorem parse_b (k : String) : parseFormatSpec (Str.ofString "b").cps.toList k 62 = .ok specB := rfl
theorem field_b {D : List Nat} (hD : D ≠ []) : intField' specB false [] D [] 4 = ⟨D.toArray⟩ := by
  have e : D.isEmpty = false := by cases D with
    | nil => exact absurd rfl hD
    | cons _ _ => rfl
  have p : ((-1 : Int) - 0 - (D.length : Int)).toNat = 0 := by omega
  simp [intField', specB, e, p]
theorem binL_ne (n : Nat) : binL n ≠ [] := by
  intro h
  have h2 : Nat.toDigits 2 n = [] := List.map_eq_nil_iff.mp h
  have := Nat.length_toDigits_pos (b := 2) (n := n)
  rw [h2] at this
  exact absurd this (by simp)
section
variable {prog : Program} {w : World} {A : Around} {E : Value → Shared → Prop} {s : Shared}
theorem bin_spec {n : Nat} {t : Tok} {Q : Value → Shared → Prop} (hl : (binS n).length ≤ sizeLine)
    (h : Q (.str (binS n) (s.toks + 1)) { s with toks := s.toks + 1 + 1 }) : wpAny (model prog w) A (formatField (.int (n : Int) t) (Str.ofString "b")) Q E s := by
  show wpAny _ _ (holding [Value.int (n : Int) t] (pyFormat (Value.int (n : Int) t) (Str.ofString "b"))) Q E s
  refine wpAny_holding ?_
  unfold pyFormat
  refine wpAny_bind (wpAny_mkStr ?_ (by decide))
  refine wpAny_bind (m := callSpecial? (.int (n : Int) t) (Str.ofString "__format__") [.str (Str.ofString "b") s.toks])
    (wpAny_callSpecial?_slot (name := Str.ofString "__format__") (typeIs_int _ _ t) slot_int_format ?_)
  refine wpAny_call (codeAny_call_builtin slot_int_format.plain entry_int_format
    (slot_int_format.check _ _ _ _ _ _ _ _ (typeIs_int _ _ t) (args_int_format _ _) ?_))
  unfold Builtin.«int.__format__»
  simp only [selfAndOne, noKeywords, Int.intOfSelf, asInt?, asStr?, List.isEmpty_nil, if_true, pure_bind, bind_assoc, Bool.false_eq_true, if_false,
    show ((Str.ofString "b").length == 0) = false by decide,
    show (((Str.ofString "b").cps.toList.drop 1).any (· ≥ 128) || ((Str.ofString "b").cps.getD 0 0 ≥ 128 && !([60, 62, 61, 94] : List Nat).contains ((Str.ofString "b").cps.getD 1 0))) = false by decide,
    show (Value.str (Str.ofString "b") s.toks == Value.none) = false from rfl]
  refine wpAny_bind (wpAny_typeNameOf (T := "str") (typeIs_str _ _ _) (by decide) fun _ => ?_)
  refine wpAny_bind (wpAny_typeNameOfCut_int ?_)
  obtain ⟨f, hf⟩ : ∃ f, f = specB := ⟨_, rfl⟩
  have hty : f.type.getD (if (Str.ofString "b").cps.back? == some 0 then 0 else 100) = 98 := by rw [hf]; rfl
  have hpr : f.precision.isSome = false := by rw [hf]; rfl
  have hz : f.noNeg0 = false := by rw [hf]; rfl
  have hal : f.alt = false := by rw [hf]; rfl
  have hw : f.width.getD 0 = 0 := by rw [hf]; rfl
  simp only [parse_b, ← hf, hty]
  rw [if_pos (by decide)]
  show wpAny _ _ (if _ then _ else _) _ _ _
  rw [if_neg (by simp [hpr])]
  show wpAny _ _ (if _ then _ else _) _ _ _
  rw [if_neg (by simp [hz])]
  show wpAny _ _ (if _ then _ else _) _ _ _
  rw [if_neg (by decide)]
  show wpAny _ _ (if _ then _ else _) _ _ _
  rw [if_neg (by decide)]
  show wpAny _ _ (if _ then _ else _) _ _ _
  rw [if_neg (by simp [hw])]
  show wpAny _ _ (retStr _) _ _ _
  unfold retStr
  have hneg : decide ((n : Int) < 0) = false := decide_eq_false (by omega)
  have key : intField' f (decide ((n : Int) < 0)) (if f.alt = true then [] else []) ((Nat.toDigits 2 (n : Int).natAbs).map fun c => (if (98 : Nat) == 88 then c.toUpper else c).toNat) [] 4 = binS n := by
    rw [hneg, hf]
    exact field_b (binL_ne n)
  have hl2 := key ▸ hl
  have h2 := key ▸ h
  clear h hl
  subst hf
  refine wpAny_bind (wpAny_mkStr (wpAny_pure ?_) hl2)
  exact wpAny_bind (wpAny_isInstance (typeIs_str _ _ _) isSubtype_str_str (wpAny_pure h2))
end
end RR
namespace RR
open PySem PySem.Spec PyProof.Rows L2
section
variable {X : Cx}
/-- f'{x:b}' of an int from 0 on -/
def tFmtB (te : TE) : TE := fun σ H Q => te σ H fun x H1 => ∃ n : Nat, x = .int n ∧ (binS n).length ≤ sizeLine ∧ Q (.str (binS n)) H1
theorem pe_fmtB {e : Expr} {te : TE} {k : Nat} {p1 p2 p3 p4 : Pos} (he : PE X e te) :
    PE X (.JoinedStr [.FormattedValue e (-1) (some (.JoinedStr [.Constant (.str "b") k p1] p2)) p3] p4) (tFmtB te) := by
  refine pe_joined1 ⟨fun pins s σ H Q I h => ?_⟩
  refine wpAny_FormattedValue_spec (thn (he.run pins s σ H _ I h) fun v s1 hv => ?_)
  obtain ⟨x, H1, I1, r1, n, rfl, hl, q⟩ := hv
  obtain ⟨t, rfl⟩ := r1
  refine wpAny_JoinedStr_one (Calls.Constant_str ⟨_, _, rfl, ?_⟩)
  exact bin_spec hl ⟨.str (binS n), H1, (I1.tok _).tok _, ⟨_, rfl⟩, q⟩
end
end RR

namespace RR
open PySem PySem.Spec PyProof.Rows L2
/-- a def of the text, as callers see it -/
structure Cal (P : Program) (w : World) (K : PySem.W.Frag) (mg : Str → Option Value) (base : Heap) (x : Str) (k : Nat) (ps : List Str) (sp : Sp) : Prop where
  ex : ∃ (f : Addr) (fd : FuncData), FnOk P w K mg base L2.CX0 k f fd ps sp ∧ mg x = some (.ref f) ∧ PySem.W.keepIn K (.ref f) = true ∧ Binds K fd ps []
theorem Cal.mk' {P : Program} {w : World} {K : PySem.W.Frag} {mg : Str → Option Value} {base : Heap} {x : Str} {k : Nat} {ps : List Str} {sp : Sp} {f : Addr} {fd : FuncData}
    (F : FnOk P w K mg base L2.CX0 k f fd ps sp) (g : mg x = some (.ref f)) (kp : PySem.W.keepIn K (.ref f) = true) (b : Binds K fd ps []) : Cal P w K mg base x k ps sp := ⟨f, fd, F, g, kp, b⟩
section
variable {X : Cx}
def tCal (sp : Sp) (t : TA) : TE := fun σ H Q => t σ H fun vs H1 => sp vs H1 Q L2.E0
theorem pe_cal {x : Str} {k : Nat} {ps : List Str} {sp : Sp} {p pos : Pos} {e : Expr} {es : List Expr} {t : TA} (C : Cal X.prog X.w X.K X.mg X.base x k ps sp) (hr : Room k X.A) (hg : Gl X x) (ha : PA X (e :: es) t)
    (hdb : (x == ("__debug__" : Str)) = false := by decide) (he : starEach (e :: es) X.env = (false, eval e X.env) :: starEach es X.env := by rfl) (hpl : (backTo pos (starEach es X.env)).any (·.1) = false := by rfl) :
    PE X (.Call (.Name x p) (e :: es) [] pos) (tCal sp t) := by
  obtain ⟨f, fd, F, g, kp, b⟩ := C.ex
  have h := pe_call (p := p) (pos := pos) F hr hg g kp b .nil L2.pass0 ha hdb he hpl
  refine ⟨fun pins s σ H Q I q => h.run pins s σ H Q I ?_⟩
  have e0 : tCall sp [] L2.E0 t σ H Q = tCal sp t σ H Q := by
    unfold tCall tCal
    simp only [List.append_nil]
  rw [e0]
  exact q
end
/-- int(x) of an int -/
theorem call_intI {X : Cx} : CallR X (.type "int") (fun xs H Q => ∃ i, xs = [.int i] ∧ Q (.int i) H) := fun pins s σ H xs us Q I r h => call_int1 pins s σ H xs us Q I r (.inl h)
/-- a loop over a text's signs -/
theorem for_str {x : Str} {g : TG} {tb : TS} {D : Ends} {σ : L2.St} {H : Hp} (Pv : Nat → L2.St → Hp → Prop) (h0 : Pv 0 σ H)
    (hs : ∀ i c σ H, x.cps[i]? = some c → Pv i σ H → g (.str ⟨#[c]⟩) σ H fun σ2 H2 => tb { D with nx := Pv (i + 1), ct := Pv (i + 1), bk := D.nx } σ2 H2) (hd : ∀ σ H, Pv x.cps.size σ H → D.nx σ H) :
    ∃ W : Nat → Nat → L2.St → Hp → Prop, (∃ m, W 0 m σ H) ∧ ∀ i m σ H, W i m σ H →
      ((Its x).stop i H ∧ D.nx σ H) ∨ ((Its x).go i H ∧ ∃ N : L2.St → Hp → Prop, (∀ σ' H', N σ' H' → ∃ m', m' < m ∧ W (i + 1) m' σ' H') ∧ ∀ v H', (Its x).yld i H v H' → g v σ H' fun σ2 H2 => tb { D with nx := N, ct := N, bk := D.nx } σ2 H2) := by
  refine ⟨fun i m σ H => m = x.cps.size - i ∧ i ≤ x.cps.size ∧ Pv i σ H, ⟨x.cps.size, by simp, Nat.zero_le _, h0⟩, ?_⟩
  rintro i m σ H ⟨rfl, hi, p⟩
  by_cases hlt : i < x.cps.size
  · refine .inr ⟨hlt, Pv (i + 1), fun σ' H' p' => ⟨x.cps.size - (i + 1), by omega, rfl, hlt, p'⟩, fun v H' y => ?_⟩
    obtain ⟨e, c, hc, e2⟩ := y
    subst e e2
    exact hs i c σ _ hc p
  · have e : i = x.cps.size := by omega
    subst e
    exact .inl ⟨Nat.le_refl _, hd σ H p⟩
/-- for k in range(n), the turn's number from 0 on -/
theorem for_rng {n : Nat} {g : TG} {tb : TS} {D : Ends} {σ : L2.St} {H : Hp} (Pv : Nat → L2.St → Hp → Prop) (h0 : Pv 0 σ H)
    (hs : ∀ i σ H, i < n → Pv i σ H → g (.int (i : Int)) σ H fun σ2 H2 => tb { D with nx := Pv (i + 1), ct := Pv (i + 1), bk := D.nx } σ2 H2) (hd : ∀ σ H, Pv n σ H → D.nx σ H) :
    ∃ W : Nat → Nat → L2.St → Hp → Prop, (∃ m, W 0 m σ H) ∧ ∀ i m σ H, W i m σ H →
      ((Itr 0 n).stop i H ∧ D.nx σ H) ∨ ((Itr 0 n).go i H ∧ ∃ N : L2.St → Hp → Prop, (∀ σ' H', N σ' H' → ∃ m', m' < m ∧ W (i + 1) m' σ' H') ∧
        ∀ x H', (Itr 0 n).yld i H x H' → g x σ H' fun σ2 H2 => tb { D with nx := N, ct := N, bk := D.nx } σ2 H2) :=
  for_range (lo := 0) (n := n) (g := g) (tb := tb) (D := D) Pv h0 (fun i σ H hi p => by rw [Int.zero_add]; exact hs i σ H hi p) hd
theorem tC_go {v : V} {σ : L2.St} {H : Hp} {Q : VK} (q : Q v H) : tC v σ H Q := q
theorem tNil_go {σ : L2.St} {H : Hp} {Q : List V → Hp → Prop} (q : Q [] H) : tNil σ H Q := q
theorem dV (x y : Int) : decide (V.int x = V.int y) = decide (x = y) := by
  by_cases h : x = y
  · rw [decide_eq_true h, decide_eq_true (by rw [h])]
  · rw [decide_eq_false h, decide_eq_false (fun e => h (V.int.inj e))]
theorem dB (x y : Bool) : decide (V.bl x = V.bl y) = decide (x = y) := by cases x <;> cases y <;> rfl
/-! heaps -/
theorem same_upd {H : Hp} {p : Addr} {o : HO} (h : H p = none) : Same H (upd H p o) := fun b x e => by
  rw [upd_ne (ne_of_none e h)]
  exact e
theorem sq_new {K : PySem.W.Frag} {H : Hp} {p : Addr} {xs : List V} : SqT K (upd H p (.tup xs)) p xs := .inl (.inl upd_same)
theorem sq_of {K : PySem.W.Frag} {H : Hp} {p : Addr} {xs : List V} (h : H p = some (.tup xs)) : SqT K H p xs := .inl (.inl h)
theorem gTup_new {K : PySem.W.Frag} {n : Nat} {t : TGs} {σ : L2.St} {H : Hp} {Q : L2.St → Hp → Prop} {p : Addr} {xs : List V} (h : xs.length = n) (q : t xs σ (upd H p (.tup xs)) Q) :
    gTup K n t (.ref p) σ (upd H p (.tup xs)) Q := ⟨p, xs, rfl, sq_new, h, q⟩
theorem gTup_as {K : PySem.W.Frag} {n : Nat} {t : TGs} {σ : L2.St} {H : Hp} {Q : L2.St → Hp → Prop} {p : Addr} {xs : List V} (hS : SqT K H p xs) (h : xs.length = n) (q : t xs σ H Q) :
    gTup K n t (.ref p) σ H Q := ⟨p, xs, rfl, hS, h, q⟩
theorem ixT_new {K : PySem.W.Frag} {H : Hp} {Q : VK} {p : Addr} {xs : List V} {i : Int} {v : V} (h : atI xs i = some v) (q : Q v (upd H p (.tup xs))) :
    rIxT K (.ref p) (.int i) (upd H p (.tup xs)) Q := ⟨p, xs, i, v, rfl, rfl, sq_new, h, q⟩
theorem ixT_as {K : PySem.W.Frag} {H : Hp} {Q : VK} {p : Addr} {xs : List V} {i : Int} {v : V} (hS : SqT K H p xs) (h : atI xs i = some v) (q : Q v H) :
    rIxT K (.ref p) (.int i) H Q := ⟨p, xs, i, v, rfl, rfl, hS, h, q⟩
theorem ixL_as {K : PySem.W.Frag} {H : Hp} {Q : VK} {p : Addr} {xs : List V} {i : Int} {v : V} (hS : SqL K H p xs) (h : atI xs i = some v) (q : Q v H) :
    rIxL K (.ref p) (.int i) H Q := ⟨p, xs, i, v, rfl, rfl, hS, h, q⟩
/-! sizes -/
/-- below 2 ^ k -/
def Sm (k : Nat) (x : Int) : Prop := x.natAbs < 2 ^ k
theorem Sm.mono {j k : Nat} {x : Int} (h : Sm j x) (l : j ≤ k) : Sm k x := Nat.lt_of_lt_of_le h (Nat.pow_le_pow_right (by omega) l)
theorem Sm.mul {j k : Nat} {x y : Int} (h : Sm j x) (l : Sm k y) : Sm (j + k) (x * y) := wide_lt h l
theorem Sm.add {k : Nat} {x y : Int} (h : Sm k x) (l : Sm k y) : Sm (k + 1) (x + y) := by
  unfold Sm at *
  have : (x + y).natAbs ≤ x.natAbs + y.natAbs := Int.natAbs_add_le x y
  rw [Nat.pow_succ]
  omega
theorem Sm.neg {k : Nat} {x : Int} (h : Sm k x) : Sm k (-x) := by
  unfold Sm at *
  omega
theorem Sm.sub {k : Nat} {x y : Int} (h : Sm k x) (l : Sm k y) : Sm (k + 1) (x - y) := by
  have := h.add l.neg
  rwa [← Int.sub_eq_add_neg] at this
theorem Sm.ad {j k : Nat} {x y : Int} (h : Sm j x) (l : Sm k y) : Sm (j + k + 1) (x + y) := (h.mono (Nat.le_add_right j k)).add (l.mono (Nat.le_add_left k j))
theorem Sm.sb {j k : Nat} {x y : Int} (h : Sm j x) (l : Sm k y) : Sm (j + k + 1) (x - y) := (h.mono (Nat.le_add_right j k)).sub (l.mono (Nat.le_add_left k j))
theorem Sm.lit {k : Nat} {x : Int} (h : x.natAbs < 2 ^ k := by decide) : Sm k x := h
theorem Sm.le {k : Nat} {x y : Int} (h : Sm k y) (h0 : 0 ≤ x) (h1 : x ≤ y) : Sm k x := by
  unfold Sm at *
  omega
theorem Sm.pw {j : Nat} {x : Int} (h : Sm j x) (n : Nat) : Sm (j * n + 1) (x ^ n) := by
  induction n with
  | zero => rw [Int.pow_zero]; exact (Sm.lit (k := 1)).mono (by omega)
  | succ n ih => rw [Int.pow_succ]; exact (ih.mul h).mono (by rw [Nat.mul_succ]; omega)
/-- what * asks -/
theorem Sm.mx {j k : Nat} {x y : Int} (h : Sm j x) (l : Sm k y) (b : j + k ≤ 134217728) : CMulX x y := mulx_ok h l b
end RR

namespace RR
open PySem PySem.Spec PyProof.Rows L2
/-- a tuple of two ints -/
def Tp (K : PySem.W.Frag) (H : Hp) (v : V) (x y : Int) : Prop := ∃ p, v = .ref p ∧ SqT K H p [.int x, .int y]
theorem Tp.of {K : PySem.W.Frag} {H : Hp} {p : Addr} {x y : Int} (h : H p = some (.tup [.int x, .int y])) : Tp K H (.ref p) x y := ⟨p, rfl, sq_of h⟩
theorem dp2 {K : PySem.W.Frag} {H : Hp} {v : V} {x y : Int} (h : Tp K H v x y) : Dp K H v (.tuple [.int x, .int y]) := by
  obtain ⟨p, rfl, h⟩ := h
  exact .tup h (.cons (.int x) (.cons (.int y) .nil))
theorem eqv2 (x y u v : Int) : PyData.eqv (.tuple [.int x, .int y]) (.tuple [.int u, .int v]) = (decide (x = u) && decide (y = v)) := by
  simp only [PyData.eqv, PyData.eqvAll, Bool.and_true]
  rfl
section
variable {X : Cx}
/-- ==, != of two tuples of two ints -/
theorem op_eq2 (hu : X.A.units + 64 < cLine) : OpR X (compareOp .Eq) (fun x y H Q => ∃ a b c d, Tp X.K H x a b ∧ Tp X.K H y c d ∧ Q (.bl (decide (a = c) && decide (b = d))) H) := by
  intro pins s σ H x y v u Q I rx ry h
  obtain ⟨a, b, c, d, h1, h2, q⟩ := h
  exact op_eqD hu pins s σ H x y v u Q I rx ry ⟨_, _, dp2 h1, dp2 h2, rfl, rfl, by rw [eqv2]; exact q⟩
theorem op_ne2 (hu : X.A.units + 64 < cLine) : OpR X (compareOp .NotEq) (fun x y H Q => ∃ a b c d, Tp X.K H x a b ∧ Tp X.K H y c d ∧ Q (.bl (!(decide (a = c) && decide (b = d)))) H) := by
  intro pins s σ H x y v u Q I rx ry h
  obtain ⟨a, b, c, d, h1, h2, q⟩ := h
  exact op_neD hu pins s σ H x y v u Q I rx ry ⟨_, _, dp2 h1, dp2 h2, rfl, rfl, by rw [eqv2]; exact q⟩
/-- a ** b of a great int -/
def CPowW (i j : Int) : Prop := 0 ≤ j ∧ (Builtin.Int.intBits i : Int) * j ≤ 2 ^ 27
theorem op_powW : OpR X (binaryOp .Pow) (rI CPowW fun i j => .int (i ^ j.toNat)) := opI fun i j _ _ _ _ _ hc q => pow_int hc.1 hc.2 q
/-- isinstance of an int -/
theorem isi_int : CallR X (.builtin "isinstance") (fun xs H Q => ∃ i : Int, xs = [.int i, .ty "int"] ∧ Q (.bl true) H) := by
  intro pins s σ H xs us Q I r h
  obtain ⟨i, rfl, q⟩ := h
  exact call_isi pins s σ H _ us Q I r ⟨.int i, .ty "int", .type "int", .type "int", true, rfl, .ty "int", .base (.int i), kit_ty (by decide +kernel), q⟩
theorem isi_bool : CallR X (.builtin "isinstance") (fun xs H Q => ∃ i : Int, xs = [.int i, .ty "bool"] ∧ Q (.bl false) H) := by
  intro pins s σ H xs us Q I r h
  obtain ⟨i, rfl, q⟩ := h
  exact call_isi pins s σ H _ us Q I r ⟨.int i, .ty "bool", .type "int", .type "bool", false, rfl, .ty "bool", .base (.int i), kit_ty (by decide +kernel), q⟩
theorem isi_list : CallR X (.builtin "isinstance") (fun xs H Q => ∃ (a : Addr) (ys : List V), xs = [.ref a, .ty "list"] ∧ H a = some (.lst ys) ∧ Q (.bl true) H) := by
  intro pins s σ H xs us Q I r h
  obtain ⟨a, ys, rfl, e, q⟩ := h
  exact call_isi pins s σ H _ us Q I r ⟨.ref a, .ty "list", .type "list", .type "list", true, rfl, .ty "list", .base (.lst e), kit_ty (by decide +kernel), q⟩
theorem isi_tup : CallR X (.builtin "isinstance") (fun xs H Q => ∃ (a : Addr) (ys : List V), xs = [.ref a, .ty "tuple"] ∧ H a = some (.tup ys) ∧ Q (.bl true) H) := by
  intro pins s σ H xs us Q I r h
  obtain ⟨a, ys, rfl, e, q⟩ := h
  exact call_isi pins s σ H _ us Q I r ⟨.ref a, .ty "tuple", .type "tuple", .type "tuple", true, rfl, .ty "tuple", .base (.tup e), kit_ty (by decide +kernel), q⟩
end
/-- an if and what follows it, once -/
theorem split_if {c : Prop} [Decidable c] {t u : TS} {D : Ends} {σ : L2.St} {H : Hp} (R : L2.St → Hp → Prop) (hR : ∀ σ' H', R σ' H' → D.nx σ' H')
    (h : ∀ D' : Ends, (∀ σ' H', R σ' H' → D'.nx σ' H') → if c then t D' σ H else u D' σ H) : if c then t D σ H else u D σ H := h D hR
theorem sm_bits {z : Int} {k : Nat} (h : Builtin.Int.intBits z ≤ k) : Sm k z := by
  unfold Builtin.Int.intBits at h
  unfold Sm
  split at h
  · rename_i e
    have e0 : z = 0 := by simpa using e
    subst e0
    exact Nat.two_pow_pos k
  · exact Nat.lt_of_lt_of_le Nat.lt_log2_self (Nat.pow_le_pow_right (by decide) h)
theorem getD_bits {ns : List Int} {k : Nat} (h : ∀ z ∈ ns, Builtin.Int.intBits z ≤ k) (i : Nat) : Sm k (ns.getD i 0) := by
  rw [List.getD_eq_getElem?_getD]
  cases e : ns[i]? with
  | none => exact Nat.two_pow_pos k
  | some z => exact sm_bits (h z (List.mem_of_getElem? e))
end RR

namespace RR
/-! the pairs of a base -/
def XY (a : Int) : Nat → Int × Int
  | 0 => (1, 0)
  | n + 1 => (a * (XY a n).1 + (a * a - 1) * (XY a n).2, (XY a n).1 + a * (XY a n).2)
def px (a : Int) (n : Nat) : Int := (XY a n).1
def py (a : Int) (n : Nat) : Int := (XY a n).2
theorem px0 (a : Int) : px a 0 = 1 := rfl
theorem py0 (a : Int) : py a 0 = 0 := rfl
theorem px1 (a : Int) (n : Nat) : px a (n + 1) = a * px a n + (a * a - 1) * py a n := rfl
theorem py1 (a : Int) (n : Nat) : py a (n + 1) = px a n + a * py a n := rfl
theorem pell (a : Int) (n : Nat) : px a n * px a n - (a * a - 1) * (py a n * py a n) = 1 := by
  induction n with
  | zero => rw [px0, py0]; omega
  | succ n ih => rw [px1, py1]; grind
theorem pxy_add (a : Int) (m n : Nat) : px a (m + n) = px a m * px a n + (a * a - 1) * (py a m * py a n) ∧ py a (m + n) = px a m * py a n + py a m * px a n := by
  induction n with
  | zero => rw [px0, py0, Nat.add_zero]; constructor <;> grind
  | succ n ih =>
    obtain ⟨h1, h2⟩ := ih
    rw [← Nat.add_assoc, px1, py1, px1, py1, h1, h2]
    constructor <;> grind
theorem px_dbl (a : Int) (n : Nat) : px a (2 * n) = 2 * px a n * px a n - 1 := by
  rw [Nat.two_mul, (pxy_add a n n).1]
  have := pell a n
  grind
theorem py_dbl (a : Int) (n : Nat) : py a (2 * n) = 2 * px a n * py a n := by
  rw [Nat.two_mul, (pxy_add a n n).2]
  grind
theorem pxy_pos {a : Int} (ha : 2 ≤ a) (n : Nat) : 0 ≤ py a n ∧ py a n < px a n := by
  induction n with
  | zero => rw [px0, py0]; omega
  | succ n ih =>
    obtain ⟨h1, h2⟩ := ih
    rw [px1, py1]
    have e1 : a * a ≥ 2 * a := Int.mul_le_mul_of_nonneg_right ha (by omega)
    have e2 : a * px a n ≥ 2 * px a n := Int.mul_le_mul_of_nonneg_right ha (by omega)
    have e3 : (a * a - 1) * py a n ≥ a * py a n := Int.mul_le_mul_of_nonneg_right (by omega) h1
    have e4 : 0 ≤ a * py a n := Int.mul_nonneg (by omega) h1
    omega
theorem px_mono1 {a : Int} (ha : 2 ≤ a) (n : Nat) : px a n ≤ px a (n + 1) := by
  obtain ⟨h1, h2⟩ := pxy_pos ha n
  rw [px1]
  have e1 : a * a ≥ 2 * a := Int.mul_le_mul_of_nonneg_right ha (by omega)
  have e2 : a * px a n ≥ 2 * px a n := Int.mul_le_mul_of_nonneg_right ha (by omega)
  have e3 : 0 ≤ (a * a - 1) * py a n := Int.mul_nonneg (by omega) h1
  omega
theorem px_mono {a : Int} (ha : 2 ≤ a) {m n : Nat} (h : m ≤ n) : px a m ≤ px a n := by
  induction h with
  | refl => exact Int.le_refl _
  | step _ ih => exact Int.le_trans ih (px_mono1 ha _)
/-! signs to the base two -/
def bval (l : List Nat) : Nat := l.foldl (fun v c => 2 * v + (c - 48)) 0
theorem bval_snoc (l : List Nat) (c : Nat) : bval (l ++ [c]) = 2 * bval l + (c - 48) := by
  unfold bval
  rw [List.foldl_append]
  rfl
theorem dig2 {d : Nat} (h : d < 2) : (Nat.digitChar d).toNat = 48 + d := by
  match d, h with
  | 0, _ => rfl
  | 1, _ => rfl
theorem binL_lt {n : Nat} (h : n < 2) : binL n = [48 + n] := by
  unfold binL
  rw [Nat.toDigits_of_lt_base h, List.map_singleton, dig2 h]
theorem binL_ge {n : Nat} (h : 2 ≤ n) : binL n = binL (n / 2) ++ [48 + n % 2] := by
  unfold binL
  rw [Nat.toDigits_of_base_le (by decide) h, List.map_append, List.map_singleton, dig2 (Nat.mod_lt _ (by decide))]
theorem bval_bin (n : Nat) : bval (binL n) = n := by
  induction n using Nat.strongRecOn with
  | ind n ih =>
    by_cases h : n < 2
    · rw [binL_lt h]
      show 2 * 0 + (48 + n - 48) = n
      omega
    · rw [binL_ge (by omega), bval_snoc, ih (n / 2) (by omega)]
      omega
theorem bin_mem (n : Nat) : ∀ c ∈ binL n, c = 48 ∨ c = 49 := by
  induction n using Nat.strongRecOn with
  | ind n ih =>
    intro c hc
    by_cases h : n < 2
    · rw [binL_lt h, List.mem_singleton] at hc
      omega
    · rw [binL_ge (by omega), List.mem_append, List.mem_singleton] at hc
      rcases hc with hc | hc
      · exact ih (n / 2) (by omega) c hc
      · omega
theorem bval_take {l : List Nat} {i c : Nat} (h : l[i]? = some c) : bval (l.take (i + 1)) = 2 * bval (l.take i) + (c - 48) := by
  rw [List.take_add_one, h]
  exact bval_snoc _ c
theorem fold_ge (m : List Nat) : ∀ v : Nat, v ≤ m.foldl (fun v c => 2 * v + (c - 48)) v := by
  induction m with
  | nil => intro v; exact Nat.le_refl _
  | cons c m ih =>
    intro v
    have := ih (2 * v + (c - 48))
    rw [List.foldl_cons]
    omega
theorem bval_app (l m : List Nat) : bval l ≤ bval (l ++ m) := by
  unfold bval
  rw [List.foldl_append]
  exact fold_ge m _
theorem bval_le (l : List Nat) (i : Nat) : bval (l.take i) ≤ bval l := by
  have := bval_app (l.take i) (l.drop i)
  rwa [List.take_append_drop] at this
theorem bin_len {n k : Nat} (h : n < 2 ^ k) (hk : 0 < k) : (binS n).length ≤ k := by
  show (binL n).toArray.size ≤ k
  rw [List.size_toArray]
  unfold binL
  rw [List.length_map]
  exact (Nat.length_toDigits_le_iff (by decide) hk).mpr h
end RR
namespace RR
theorem rest_dx (a : Int) (v : Nat) (m : Int) : (2 * (px a v % m) * (px a v % m) - 1) % m = (2 * px a v * px a v - 1) % m := by
  rw [Int.sub_emod, Int.mul_emod, Int.mul_emod 2, Int.emod_emod, ← Int.mul_emod 2, ← Int.mul_emod, ← Int.sub_emod]
theorem rest_dy (a : Int) (v : Nat) (m : Int) : (2 * (px a v % m) * (py a v % m)) % m = (2 * px a v * py a v) % m := by
  rw [Int.mul_emod, Int.mul_emod 2, Int.emod_emod, Int.emod_emod, ← Int.mul_emod 2, ← Int.mul_emod]
theorem modeq {m a b : Int} (k : Int) (h : a - b = m * k) : a % m = b % m :=
  Int.emod_eq_emod_iff_emod_sub_eq_zero.mpr (Int.emod_eq_zero_of_dvd ⟨k, h⟩)
theorem rest_nx (a x y m : Int) : (a * x + (a * a - 1) * y) % m = ((a % m) * (x % m) + ((a % m) * (a % m) - 1) * (y % m)) % m := by
  have h1 := Int.mul_ediv_add_emod a m
  have h2 := Int.mul_ediv_add_emod x m
  have h3 := Int.mul_ediv_add_emod y m
  generalize a % m = A at *
  generalize x % m = X at *
  generalize y % m = Y at *
  generalize a / m = q1 at *
  generalize x / m = q2 at *
  generalize y / m = q3 at *
  exact modeq (q1 * x + A * q2 + (a * a - 1) * q3 + q1 * (a + A) * Y) (by grind)
theorem rest_ny (a x y m : Int) : (x + a * y) % m = ((x % m) + (a % m) * (y % m)) % m := by
  have h1 := Int.mul_ediv_add_emod a m
  have h2 := Int.mul_ediv_add_emod x m
  have h3 := Int.mul_ediv_add_emod y m
  generalize a % m = A at *
  generalize x % m = X at *
  generalize y % m = Y at *
  generalize a / m = q1 at *
  generalize x / m = q2 at *
  generalize y / m = q3 at *
  exact modeq (q2 + q1 * y + A * q3) (by grind)
end RR
namespace RR
theorem px_step {a : Int} (ha : 2 ≤ a) (n : Nat) : (a * a - 1) * py a n ≤ a * px a n := by
  induction n with
  | zero => rw [px0, py0]; omega
  | succ n ih =>
    obtain ⟨h1, h2⟩ := pxy_pos ha n
    rw [px1, py1]
    have : a * (a * px a n + (a * a - 1) * py a n) - (a * a - 1) * (px a n + a * py a n) = px a n := by grind
    omega
theorem px_pow {a : Int} (ha : 2 ≤ a) (n : Nat) : px a n ≤ (2 * a) ^ n := by
  induction n with
  | zero => rw [px0, Int.pow_zero]; exact Int.le_refl _
  | succ n ih =>
    have h := px_step ha n
    rw [px1, Int.pow_succ]
    have e := Int.mul_le_mul_of_nonneg_right ih (show 0 ≤ 2 * a by omega)
    have : px a n * (2 * a) = a * px a n + a * px a n := by grind
    omega
theorem px_nat {a : Int} (ha : 2 ≤ a) (n B : Nat) (hB : 2 * a ≤ 2 ^ B) : (px a n).natAbs < 2 ^ (B * n + 1) := by
  have h := px_pow ha n
  have h0 := pxy_pos ha n
  have h2 : (2 * a) ^ n ≤ ((2 : Int) ^ B) ^ n := by
    have hp : ∀ k : Nat, (2 * a) ^ k ≤ ((2 : Int) ^ B) ^ k ∧ 0 ≤ (2 * a) ^ k := by
      intro k
      induction k with
      | zero => exact ⟨by rw [Int.pow_zero, Int.pow_zero]; exact Int.le_refl _, by rw [Int.pow_zero]; decide⟩
      | succ k ih =>
        rw [Int.pow_succ, Int.pow_succ]
        exact ⟨Int.mul_le_mul ih.1 hB (by omega) (Int.le_trans ih.2 ih.1), Int.mul_nonneg ih.2 (by omega)⟩
    exact (hp n).1
  have e : ((2 : Int) ^ B) ^ n = ((2 ^ (B * n) : Nat) : Int) := by
    rw [← Int.pow_mul]
    exact (Int.natCast_pow 2 (B * n)).symm
  rw [e] at h2
  rw [Nat.pow_succ]
  generalize (2 : Nat) ^ (B * n) = P at *
  omega
/-- what a power of x leaves -/
theorem px_power (a x : Int) (n : Nat) : ∃ k, px a n - py a n * (a - x) - x ^ n = (2 * a * x - x * x - 1) * k := by
  induction n with
  | zero => exact ⟨0, by rw [px0, py0, Int.pow_zero]; omega⟩
  | succ n ih =>
    obtain ⟨k, hk⟩ := ih
    refine ⟨x * k + py a n, ?_⟩
    rw [px1, py1, Int.pow_succ]
    grind
theorem px_cong (a b m : Int) (k : Int) (h : a - b = m * k) (n : Nat) : (∃ q, px a n - px b n = m * q) ∧ ∃ q, py a n - py b n = m * q := by
  induction n with
  | zero => exact ⟨⟨0, by rw [px0, px0]; omega⟩, ⟨0, by rw [py0, py0]; omega⟩⟩
  | succ n ih =>
    obtain ⟨⟨q, hq⟩, ⟨r, hr⟩⟩ := ih
    refine ⟨⟨k * px a n + b * q + (a * a - 1) * r + k * (a + b) * py b n, ?_⟩, ⟨q + k * py a n + b * r, ?_⟩⟩
    · rw [px1, px1]; grind
    · rw [py1, py1]; grind
end RR
namespace RR
theorem px_rec (a : Int) (k : Nat) : px a (k + 2) = 2 * a * px a (k + 1) - px a k := by
  rw [px1 a (k + 1), px1, py1]; grind
theorem py_rec (a : Int) (k : Nat) : py a (k + 2) = 2 * a * py a (k + 1) - py a k := by
  rw [py1 a (k + 1), px1, py1]; grind
theorem rest_rec {a m x2 X2 x1 X1 : Int} (h2 : x2 % m = X2 % m) (h1 : x1 % m = X1 % m) : (2 * a * x2 - x1) % m = (2 * a * X2 - X1) % m := by
  have e1 := Int.mul_ediv_add_emod x2 m
  have e2 := Int.mul_ediv_add_emod X2 m
  have e3 := Int.mul_ediv_add_emod x1 m
  have e4 := Int.mul_ediv_add_emod X1 m
  rw [h2] at e1
  rw [h1] at e3
  generalize X2 % m = A at *
  generalize X1 % m = B at *
  exact modeq (2 * a * (x2 / m - X2 / m) - (x1 / m - X1 / m)) (by grind)
theorem rest_dx' {a x : Int} {v : Nat} {m : Int} (h : x % m = px a v % m) : (2 * x * x - 1) % m = px a (2 * v) % m := by
  rw [px_dbl, ← rest_dx a v m, ← h]
  have e1 := Int.mul_ediv_add_emod x m
  generalize x % m = A at *
  exact modeq (2 * (x / m) * (x + A)) (by grind)
theorem rest_dy' {a x y : Int} {v : Nat} {m : Int} (h : x % m = px a v % m) (h' : y % m = py a v % m) : (2 * x * y) % m = py a (2 * v) % m := by
  rw [py_dbl, ← rest_dy a v m, ← h, ← h']
  have e1 := Int.mul_ediv_add_emod x m
  have e2 := Int.mul_ediv_add_emod y m
  generalize x % m = A at *
  generalize y % m = B at *
  exact modeq (2 * (x / m) * y + 2 * A * (y / m)) (by grind)
theorem rest_nx' {a x y : Int} {v : Nat} {m : Int} (h : x % m = px a v % m) (h' : y % m = py a v % m) : (a * x + (a * a - 1) * y) % m = px a (v + 1) % m := by
  rw [px1, rest_nx a x y, rest_nx a (px a v), h, h']
theorem rest_ny' {a x y : Int} {v : Nat} {m : Int} (h : x % m = px a v % m) (h' : y % m = py a v % m) : (x + a * y) % m = py a (v + 1) % m := by
  rw [py1, rest_ny a x y, rest_ny a (px a v), h, h']
/-- the value of signs, the lowest first -/
def lval : List Int → Nat
  | [] => 0
  | d :: r => d.toNat + 2 * lval r
theorem lval_app (l : List Int) (d : Int) : lval (l ++ [d]) = lval l + 2 ^ l.length * d.toNat := by
  induction l with
  | nil => show d.toNat + 2 * 0 = 0 + 2 ^ 0 * d.toNat; omega
  | cons c l ih =>
    show c.toNat + 2 * lval (l ++ [d]) = c.toNat + 2 * lval l + 2 ^ (l.length + 1) * d.toNat
    rw [ih, Nat.pow_succ, Nat.mul_add, Nat.mul_comm (2 ^ l.length) 2, Nat.mul_assoc]
    omega
theorem lval_drop {l : List Int} {i : Nat} {d : Int} (h : l[i]? = some d) : lval (l.drop i) = d.toNat + 2 * lval (l.drop (i + 1)) := by
  obtain ⟨hi, e⟩ := List.getElem?_eq_some_iff.mp h
  rw [List.drop_eq_getElem_cons hi, e]
  rfl
end RR
namespace RR
theorem rest_addx (a m : Int) (i j : Nat) : ((px a i % m) * (px a j % m) + (a * a - 1) * (py a i % m) * (py a j % m)) % m = px a (i + j) % m := by
  rw [(pxy_add a i j).1]
  have e1 := Int.mul_ediv_add_emod (px a i) m
  have e2 := Int.mul_ediv_add_emod (px a j) m
  have e3 := Int.mul_ediv_add_emod (py a i) m
  have e4 := Int.mul_ediv_add_emod (py a j) m
  generalize px a i % m = A at *
  generalize px a j % m = B at *
  generalize py a i % m = C at *
  generalize py a j % m = D at *
  exact (modeq ((px a i / m) * px a j + A * (px a j / m) + (a * a - 1) * ((py a i / m) * py a j + C * (py a j / m))) (by grind)).symm
theorem rest_addy (a m : Int) (i j : Nat) : ((px a i % m) * (py a j % m) + (py a i % m) * (px a j % m)) % m = py a (i + j) % m := by
  rw [(pxy_add a i j).2]
  have e1 := Int.mul_ediv_add_emod (px a i) m
  have e2 := Int.mul_ediv_add_emod (px a j) m
  have e3 := Int.mul_ediv_add_emod (py a i) m
  have e4 := Int.mul_ediv_add_emod (py a j) m
  generalize px a i % m = A at *
  generalize px a j % m = B at *
  generalize py a i % m = C at *
  generalize py a j % m = D at *
  exact (modeq ((px a i / m) * py a j + A * (py a j / m) + (py a i / m) * px a j + C * (px a j / m)) (by grind)).symm
end RR
namespace RR
theorem sq_lt {g k e : Nat} (h : g < 2 ^ e) (hk : k < 4) (he : 3 ≤ e) : g * g + k < 2 ^ (e * 2) := by
  have h8 : 2 ^ 3 ≤ 2 ^ e := Nat.pow_le_pow_right (by decide) he
  rw [Nat.pow_mul, Nat.pow_two]
  generalize 2 ^ e = P at *
  have h1 := Nat.mul_le_mul (show g + 1 ≤ P from h) (show g + 1 ≤ P from h)
  have h2 := Nat.mul_le_mul h8 h8
  have h3 : (g + 1) * (g + 1) = g * g + 2 * g + 1 := by grind
  by_cases hg : g < 2
  · have : g * g ≤ 1 * 1 := Nat.mul_le_mul (by omega) (by omega)
    omega
  · omega
end RR

namespace RR
open PySem PySem.Spec PyProof.Rows L2
section
variable {X : Cx}
/-- f(*y) -/
theorem pe_calS {x : Str} {k : Nat} {ps : List Str} {sp : Sp} {p pos sp_ : Pos} {e : Expr} {te : TE} (C : Cal X.prog X.w X.K X.mg X.base x k ps sp) (hr : Room k X.A) (hg : Gl X x) (he : PE X e te)
    (hd : (x == ("__debug__" : Str)) = false := by decide) (hst : starEach [.Starred e sp_] X.env = [(true, eval e X.env)] := by rfl) :
    PE X (.Call (.Name x p) [.Starred e sp_] [] pos) (fun σ H Q => te σ H fun y H1 => ∃ a xs, y = V.ref a ∧ (SqT X.K H1 a xs ∨ SqL X.K H1 a xs) ∧ sp xs H1 Q L2.E0) := by
  obtain ⟨f, fd, F, g, kp, b⟩ := C.ex
  have h := StX.pe_callS1 (p := p) (pos := pos) (sp_ := sp_) (F.raw b .nil) hr kp hg g L2.pass0 he hd hst
  refine ⟨fun pins s σ H Q I q => h.run pins s σ H Q I ?_⟩
  simp only [List.append_nil]
  exact q
end
/-- for x in reversed(xs) -/
theorem for_rev {K : PySem.W.Frag} {a : Addr} {xs : List V} {g : TG} {tb : TS} {D : Ends} {σ : L2.St} {H : Hp} (Pv : Nat → L2.St → Hp → Prop) (h0 : Pv 0 σ H) (hl : ∀ i σ H, i ≤ xs.length → Pv i σ H → SqL K H a xs)
    (hs : ∀ i x σ H, i < xs.length → xs[xs.length - 1 - i]? = some x → Pv i σ H → g x σ H fun σ2 H2 => tb { D with nx := Pv (i + 1), ct := Pv (i + 1), bk := D.nx } σ2 H2) (hd : ∀ σ H, Pv xs.length σ H → D.nx σ H) :
    ∃ W : Nat → Nat → L2.St → Hp → Prop, (∃ m, W 0 m σ H) ∧ ∀ i m σ H, W i m σ H →
      ((Itv K a xs.length).stop i H ∧ D.nx σ H) ∨ ((Itv K a xs.length).go i H ∧ ∃ N : L2.St → Hp → Prop, (∀ σ' H', N σ' H' → ∃ m', m' < m ∧ W (i + 1) m' σ' H') ∧
        ∀ x H', (Itv K a xs.length).yld i H x H' → g x σ H' fun σ2 H2 => tb { D with nx := N, ct := N, bk := D.nx } σ2 H2) := by
  refine ⟨fun i m σ H => m = xs.length - i ∧ i ≤ xs.length ∧ Pv i σ H, ⟨xs.length, by simp, Nat.zero_le _, h0⟩, ?_⟩
  rintro i m σ H ⟨rfl, hi, p⟩
  have q := hl i σ H hi p
  by_cases hlt : i < xs.length
  · have hix : xs[xs.length - 1 - i]? = some (xs[xs.length - 1 - i]'(by omega)) := List.getElem?_eq_getElem (by omega)
    refine .inr ⟨⟨hlt, xs, _, q, hix⟩, Pv (i + 1), fun σ' H' p' => ⟨xs.length - (i + 1), by omega, rfl, hlt, p'⟩, fun x H' y => ?_⟩
    obtain ⟨e, y⟩ := y
    subst e
    exact hs i x σ _ hlt (y xs q) p
  · have e : i = xs.length := by omega
    subst e
    exact .inl ⟨Nat.le_refl _, hd σ H p⟩
theorem Same.new {H H1 : Hp} {p : Addr} {o : HO} (s : Same H H1) (h : H p = none) : Same H (upd H1 p o) := fun b u e => by
  rw [upd_ne (ne_of_none e h)]
  exact s b u e
theorem px_ge {a : Int} (ha : 2 ≤ a) (n : Nat) : ((2 ^ n : Nat) : Int) ≤ px a n := by
  induction n with
  | zero => rw [px0]; decide
  | succ n ih =>
    obtain ⟨h1, h2⟩ := pxy_pos ha n
    rw [px1]
    have e1 : a * a ≥ 2 * a := Int.mul_le_mul_of_nonneg_right ha (by omega)
    have e2 : a * px a n ≥ 2 * px a n := Int.mul_le_mul_of_nonneg_right ha (by omega)
    have e3 : 0 ≤ (a * a - 1) * py a n := Int.mul_nonneg (by omega) h1
    rw [Nat.pow_succ]
    push_cast at *
    omega
theorem px_ix {a : Int} (ha : 2 ≤ a) {n B : Nat} (h : Sm B (px a n)) : n < B := by
  have h1 := px_ge ha n
  have h2 := pxy_pos ha n
  unfold Sm at h
  by_cases c : n < B
  · exact c
  · have := Nat.pow_le_pow_right (n := 2) (by decide) (show B ≤ n by omega)
    omega
theorem app_go {H : Hp} {Q : VK} {p : Addr} {v : V} {xs : List V} (h : H p = some (.lst xs)) (hl : xs.length < sizeLine) (q : Q .non (upd H p (.lst (xs ++ [v])))) : rAppend (.ref p) [v] H Q :=
  ⟨p, xs, v, rfl, rfl, h, hl, q⟩
theorem atI_neg {α : Type} {xs : List α} {k : Nat} {v : α} (h0 : 0 < k) (hk : k ≤ xs.length) (h : xs[xs.length - k]? = some v) : atI xs (-(k : Int)) = some v := by
  unfold atI ixN
  rw [if_neg (by omega), if_pos (by omega)]
  show xs[(-(k : Int) + xs.length).toNat]? = some v
  rw [show (-(k : Int) + xs.length).toNat = xs.length - k by omega]
  exact h
theorem cut_take (xs : List V) (n : Nat) (h : n ≤ xs.length) : cutV xs none (some (n : Int)) = xs.take n := by
  unfold cutV
  rw [HT.sIx_none, HT.sIx_nat, Nat.min_eq_left h, List.drop_zero, Nat.sub_zero]
theorem cut_mid (xs : List V) (i j : Nat) (hi : i ≤ xs.length) (hj : j ≤ xs.length) : cutV xs (some (i : Int)) (some (j : Int)) = (xs.drop i).take (j - i) := by
  unfold cutV
  rw [HT.sIx_nat, HT.sIx_nat, Nat.min_eq_left hi, Nat.min_eq_left hj]
/-- at L a list of the pairs with the indexes 0, 1, .. -/
def PL (a : Int) (H : Hp) (L : Addr) (n : Nat) : Prop := ∃ ps : List Addr, ps.length = n ∧ H L = some (.lst (ps.map V.ref)) ∧ ∀ (i : Nat) (p : Addr), ps[i]? = some p → H p = some (.tup [.int (px a i), .int (py a i)])
theorem PL.keep {a : Int} {H H' : Hp} {L : Addr} {n : Nat} (h : PL a H L n) (s : Same H H') : PL a H' L n := by
  obtain ⟨ps, e, hL, hp⟩ := h
  exact ⟨ps, e, s _ _ hL, fun i p hi => s _ _ (hp i p hi)⟩
theorem PL.at {K : PySem.W.Frag} {a : Int} {H : Hp} {L : Addr} {n : Nat} (h : PL a H L n) {Q : VK} {i : Nat} (hi : i < n) (q : ∀ p, H p = some (.tup [.int (px a i), .int (py a i)]) → Q (.ref p) H) :
    rIxL K (.ref L) (.int (i : Int)) H Q := by
  obtain ⟨ps, e, hL, hp⟩ := h
  have h1 : ps[i]? = some (ps[i]'(by omega)) := List.getElem?_eq_getElem (by omega)
  exact ixL_as (.inl (.inl hL)) (atI_nat (by rw [List.getElem?_map, h1]; rfl)) (q _ (hp i _ h1))
theorem PL.at' {K : PySem.W.Frag} {a : Int} {H : Hp} {L : Addr} {n : Nat} (h : PL a H L n) {Q : VK} {i : Nat} {z : Int} (e : z = (i : Int)) (hi : i < n) (q : ∀ p, H p = some (.tup [.int (px a i), .int (py a i)]) → Q (.ref p) H) :
    rIxL K (.ref L) (.int z) H Q := by
  subst e
  exact h.at hi q
theorem ne_self {x y : V} (h : x = y) : ¬ (!decide (x = y)) = true := by
  rw [decide_eq_true h]
  decide
theorem ne2_self {a b c d : Int} (h : a = c) (h' : b = d) : ¬ (!(decide (a = c) && decide (b = d))) = true := by
  rw [decide_eq_true h, decide_eq_true h']
  decide
theorem PL.push {a : Int} {H : Hp} {L : Addr} {ps : List Addr} (hL : H L = some (.lst (ps.map V.ref))) (hp : ∀ (i : Nat) (p : Addr), ps[i]? = some p → H p = some (.tup [.int (px a i), .int (py a i)])) {p : Addr}
    (h : H p = some (.tup [.int (px a ps.length), .int (py a ps.length)])) : PL a (upd H L (.lst (ps.map V.ref ++ [V.ref p]))) L (ps.length + 1) := by
  refine ⟨ps ++ [p], by rw [List.length_append]; rfl, by rw [upd_same, List.map_append]; rfl, fun i t hi => ?_⟩
  by_cases hj : i < ps.length
  · rw [List.getElem?_append_left hj] at hi
    have h1 := hp i t hi
    rw [upd_ne (ne_of hL h1 (by intro z; cases z)).symm]
    exact h1
  · rw [List.getElem?_append_right (by omega)] at hi
    have h3 : i - ps.length < 1 := (List.getElem?_eq_some_iff.mp hi).1
    have h4 : i = ps.length := by omega
    rw [h4, Nat.sub_self] at hi
    have h5 : p = t := Option.some.inj hi
    rw [← h5, h4, upd_ne (ne_of hL h (by intro z; cases z)).symm]
    exact h
/-! more on pairs -/
theorem py_lt1 {a : Int} (ha : 2 ≤ a) (n : Nat) : py a n < py a (n + 1) := by
  obtain ⟨h1, h2⟩ := pxy_pos ha n
  rw [py1]
  have : 2 * py a n ≤ a * py a n := Int.mul_le_mul_of_nonneg_right ha h1
  omega
theorem py_lt {a : Int} (ha : 2 ≤ a) {m n : Nat} (h : m < n) : py a m < py a n := by
  induction n with
  | zero => omega
  | succ n ih =>
    by_cases e : m = n
    · rw [e]; exact py_lt1 ha n
    · exact Int.lt_trans (ih (by omega)) (py_lt1 ha n)
theorem py_le_iff {a : Int} (ha : 2 ≤ a) (m n : Nat) : py a m ≤ py a n ↔ m ≤ n := by
  constructor
  · intro h
    by_cases e : m ≤ n
    · exact e
    · exact absurd (py_lt ha (show n < m by omega)) (by omega)
  · intro h
    by_cases e : m = n
    · rw [e]; exact Int.le_refl _
    · exact Int.le_of_lt (py_lt ha (by omega))
theorem pxy_sub (a : Int) (s t : Nat) : px a (t + s) * px a s - (a * a - 1) * py a (t + s) * py a s = px a t ∧ py a (t + s) * px a s - px a (t + s) * py a s = py a t := by
  rw [(pxy_add a t s).1, (pxy_add a t s).2]
  have := pell a s
  constructor <;> grind
/-- every two squares one apart are a pair's -/
theorem pell_all {a : Int} (ha : 2 ≤ a) : ∀ (k : Nat) (x y : Int), y.toNat ≤ k → 0 ≤ x → 0 ≤ y → x * x - (a * a - 1) * y * y = 1 → ∃ n, x = px a n ∧ y = py a n := by
  intro k
  induction k with
  | zero =>
    intro x y hk hx hy h
    have e : y = 0 := by omega
    subst e
    refine ⟨0, ?_, rfl⟩
    rw [px0]
    have h2 : x * x = 1 := by grind
    have h3 : x < 2 := by
      by_cases c : x < 2
      · exact c
      · have := Int.mul_le_mul (a := 2) (b := 2) (c := x) (d := x) (by omega) (by omega) (by omega) hx
        omega
    have h4 : x ≠ 0 := by
      intro z
      rw [z] at h2
      exact absurd h2 (by decide)
    omega
  | succ k ih =>
    intro x y hk hx hy h
    by_cases e : y = 0
    · exact ih x y (by omega) hx hy h
    · have y1 : 1 ≤ y := by omega
      have hyy : 1 ≤ y * y := by
        have := Int.mul_le_mul (a := 1) (b := 1) (c := y) (d := y) y1 y1 (by omega) hy
        omega
      have hxy : x ≤ a * y := by
        by_cases c : x ≤ a * y
        · exact c
        · have c2 : a * y + 1 ≤ x := by omega
          have p0 : 0 ≤ a * y := Int.mul_nonneg (by omega) hy
          have := Int.mul_le_mul (a := a * y + 1) (b := a * y + 1) (c := x) (d := x) c2 c2 (by omega) hx
          have e1 : (a * y + 1) * (a * y + 1) = a * a * y * y + 2 * (a * y) + 1 := by grind
          have e2 : x * x = a * a * y * y - y * y + 1 := by grind
          omega
      have hlt : a * y - x < y := by
        by_cases c : a * y - x < y
        · exact c
        · have c2 : x ≤ (a - 1) * y := by
            have : (a - 1) * y = a * y - y := by grind
            omega
          have p0 : 0 ≤ (a - 1) * y := Int.mul_nonneg (by omega) hy
          have := Int.mul_le_mul c2 c2 hx p0
          have e1 : (a - 1) * y * ((a - 1) * y) = a * a * y * y - y * y - 2 * (a - 1) * (y * y) := by grind
          have e2 : x * x = a * a * y * y - y * y + 1 := by grind
          have e3 : 0 ≤ (a - 1) * (y * y) := Int.mul_nonneg (by omega) (by omega)
          have e4 : 2 * (a - 1) * (y * y) = 2 * ((a - 1) * (y * y)) := by grind
          omega
      have hx0 : 0 ≤ a * x - (a * a - 1) * y := by
        by_cases c : 0 ≤ a * x - (a * a - 1) * y
        · exact c
        · have c2 : a * x ≤ (a * a - 1) * y := by omega
          have p1 : 0 ≤ a * x := Int.mul_nonneg (by omega) hx
          have p2 : 2 * a ≤ a * a := Int.mul_le_mul_of_nonneg_right ha (by omega)
          have p0 : 0 ≤ (a * a - 1) * y := Int.mul_nonneg (by omega) hy
          have := Int.mul_le_mul c2 c2 p1 p0
          have e1 : a * x * (a * x) = a * a * (x * x) := by grind
          have e2 : (a * a - 1) * y * ((a * a - 1) * y) = (a * a - 1) * (x * x - 1) := by
            rw [← h]; grind
          have e3 : (a * a - 1) * (x * x - 1) = a * a * (x * x) - x * x - (a * a - 1) := by grind
          have e4 : 0 ≤ x * x := Int.mul_nonneg hx hx
          omega
      obtain ⟨n, e1, e2⟩ := ih (a * x - (a * a - 1) * y) (a * y - x) (by omega) hx0 (by omega) (by grind)
      refine ⟨n + 1, ?_, ?_⟩
      · rw [px1, ← e1, ← e2]; grind
      · rw [py1, ← e1, ← e2]; grind
theorem pell_only {a x y : Int} (ha : 2 ≤ a) (hx : 0 ≤ x) (hy : 0 ≤ y) (h : x * x - (a * a - 1) * y * y = 1) : ∃ n, x = px a n ∧ y = py a n := pell_all ha _ x y (Nat.le_refl _) hx hy h
theorem py_ge {a : Int} (ha : 2 ≤ a) (n : Nat) : (n : Int) ≤ py a n := by
  induction n with
  | zero => rw [py0]; decide
  | succ n ih =>
    have := py_lt1 ha n
    omega
theorem tNoPart_go {σ : L2.St} {H : Hp} {Q : Option Int → Hp → Prop} (q : Q none H) : tNoPart σ H Q := q
end RR

namespace RR
open PySem PySem.Spec PyProof.Rows L2
def tw (n : Nat) : Int := (Builtin.Int.intBits (Builtin.bitAnd (n : Int) (-(n : Int))) : Int) - 1
theorem tw_odd (m p : Nat) : tw ((2 * m + 1) * 2 ^ p) = p := by
  obtain ⟨n, en⟩ : ∃ n, n = (2 * m + 1) * 2 ^ p := ⟨_, rfl⟩
  have hp := Nat.two_pow_pos p
  have hn : 1 ≤ n := by
    rw [en]
    exact Nat.mul_pos (by omega) hp
  rw [← en]
  unfold tw
  rw [bitAnd_pn (by omega) (by omega)]
  have e1 : (Builtin.bitNot (-(n : Int))).toNat = n - 1 := by
    unfold Builtin.bitNot
    omega
  rw [e1, Int.toNat_natCast]
  have e2 : n &&& (n - 1) = n - 2 ^ p := by
    have e3 : n - 1 = (2 * m) * 2 ^ p + (2 ^ p - 1) := by
      rw [en, Nat.add_mul, Nat.one_mul]
      omega
    have e4 : n - 2 ^ p = (2 * m) * 2 ^ p := by
      rw [en, Nat.add_mul, Nat.one_mul]
      omega
    rw [e4, e3, en]
    refine Nat.eq_of_testBit_eq fun i => ?_
    rw [Nat.testBit_and, Nat.mul_comm (2 * m + 1), Nat.mul_comm (2 * m), Nat.testBit_two_pow_mul_add _ (by omega), Nat.testBit_two_pow_mul, Nat.testBit_two_pow_mul]
    by_cases h : i < p
    · rw [if_pos h]
      simp [show ¬ p ≤ i by omega]
    · rw [if_neg h]
      simp only [show p ≤ i by omega, decide_true, Bool.true_and]
      by_cases h0 : i - p = 0
      · rw [h0, Nat.testBit_zero, Nat.testBit_zero]
        simp
      · obtain ⟨j, hj⟩ : ∃ j, i - p = j + 1 := ⟨i - p - 1, by omega⟩
        rw [hj, Nat.testBit_succ, Nat.testBit_succ, show (2 * m + 1) / 2 = m by omega, show 2 * m / 2 = m by omega, Bool.and_self]
  rw [e2, show (n : Int) - ((n - 2 ^ p : Nat) : Int) = ((2 ^ p : Nat) : Int) by
    have : 2 ^ p ≤ n := by
      rw [en]
      exact Nat.le_mul_of_pos_left _ (by omega)
    omega]
  unfold Builtin.Int.intBits
  rw [if_neg (fun e => by
    have e0 : ((2 ^ p : Nat) : Int) = 0 := beq_iff_eq.mp e
    omega), Int.natAbs_natCast, Nat.log2_two_pow]
  omega
theorem odd_part : ∀ (f n : Nat), n < f → 1 ≤ n → ∃ N j, n = (2 * N + 1) * 2 ^ j := by
  intro f
  induction f with
  | zero => intro n h _; omega
  | succ f ih =>
    intro n h h1
    rcases Nat.mod_two_eq_zero_or_one n with e | e
    · obtain ⟨N, j, e2⟩ := ih (n / 2) (by omega) (by omega)
      refine ⟨N, j + 1, ?_⟩
      rw [Nat.pow_succ, ← Nat.mul_assoc, ← e2]
      omega
    · exact ⟨n / 2, 0, by omega⟩
theorem sq_sum (a b c d e f g h : Int) : (a * e + b * f + c * g + d * h) * (a * e + b * f + c * g + d * h) + ((a * f - b * e + c * h - d * g) * (a * f - b * e + c * h - d * g) + ((a * g - b * h - c * e + d * f) * (a * g - b * h - c * e + d * f) + ((a * h + b * g - c * f - d * e) * (a * h + b * g - c * f - d * e) + 0))) =
  (a * a + (b * b + (c * c + (d * d + 0)))) * (e * e + (f * f + (g * g + (h * h + 0)))) := by grind
end RR
namespace RR
open PySem PySem.Spec PyProof.Rows L2
theorem Same.seqT {K : PySem.W.Frag} {H H' : Hp} {a : Addr} {xs : List V} (e : Same H H') (h : SqT K H a xs) : SqT K H' a xs := by
  rcases h with (h | ⟨o, h⟩) | h
  · exact .inl (.inl (e _ _ h))
  · exact .inl (.inr ⟨o, e _ _ h⟩)
  · exact .inr h
theorem and7 (n : Nat) : n &&& 7 = n % 8 := Nat.and_two_pow_sub_one_eq_mod n 3
end RR

namespace RR
open PySem PySem.Spec PyProof.Rows L2
def topS (i : Nat) : Stmt := PySem.Challenge.pw_runroots_k61_products_of_sums.main.body.getD i (.Pass ⟨0, 0, 0, 0⟩)
abbrev s__law_draws : Stmt := topS 6
theorem sc__law_draws : FnScope ["script", "many", "draws", "at", "cell", "number", "k"] ["script", "many"] (defScope s__law_draws) := ⟨rfl, rfl, rfl, by decide +kernel, rfl, by decide +kernel, by decide +kernel⟩
abbrev s_square_product : Stmt := topS 4
theorem sc_square_product : FnScope ["first", "second", "a", "b", "c", "d", "e", "f", "g", "h"] ["first", "second"] (defScope s_square_product) := ⟨rfl, rfl, rfl, by decide +kernel, rfl, by decide +kernel, by decide +kernel⟩
abbrev s__law_sum : Stmt := topS 8
theorem sc__law_sum : FnScope ["numbers", "number"] ["numbers"] (defScope s__law_sum) := ⟨rfl, rfl, rfl, by decide +kernel, rfl, by decide +kernel, by decide +kernel⟩
abbrev s_twos : Stmt := topS 1
theorem sc_twos : FnScope ["n"] ["n"] (defScope s_twos) := ⟨rfl, rfl, rfl, by decide +kernel, rfl, by decide +kernel, by decide +kernel⟩
abbrev s_is_three_squares : Stmt := topS 3
theorem sc_is_three_squares : FnScope ["n", "places"] ["n"] (defScope s_is_three_squares) := ⟨rfl, rfl, rfl, by decide +kernel, rfl, by decide +kernel, by decide +kernel⟩
abbrev s_law : Stmt := topS 9
theorem sc_law : FnScope ["script", "draws", "numbers", "k", "number", "a", "b", "c", "d", "e", "f", "g", "h", "first", "second", "found"] ["script"] (defScope s_law) := ⟨rfl, rfl, rfl, by decide +kernel, rfl, by decide +kernel, by decide +kernel⟩
local macro_rules | `(tactic| walk_at "sm") => `(tactic| first
  | assumption
  | exact Sm.lit (k := 64)
  | (refine' Sm.mul ?h1 ?h2; (case h1 => walk_at "sm"); (case h2 => walk_at "sm"))
  | (refine' Sm.ad ?h1 ?h2; (case h1 => walk_at "sm"); (case h2 => walk_at "sm"))
  | (refine' Sm.sb ?h1 ?h2; (case h1 => walk_at "sm"); (case h2 => walk_at "sm"))
  | (refine' Sm.neg ?h1; (case h1 => walk_at "sm"))
  | fail "sm")
local macro_rules | `(tactic| walk_at "rd") => `(tactic| repeat' first
  | (refine ⟨_, rfl, ?_⟩)
  | (refine ⟨_, _, rfl, rfl, ?_⟩)
  | (with_reducible refine tC_go ?_)
  | (with_reducible refine tNil_go ?_)
  | (with_reducible refine tNoPart_go ?_)
  | (with_reducible refine gTup_new (by with_unfolding_all rfl) ?_)
  | (with_reducible refine gTup_as (by first | exact sq_of (by assumption) | with_unfolding_all assumption) (by with_unfolding_all rfl) ?_)
  | (with_reducible refine ixT_new (by with_unfolding_all rfl) ?_)
  | (with_reducible refine ixT_as (by first | exact sq_of (by assumption) | with_unfolding_all assumption) (by with_unfolding_all rfl) ?_)
  | (refine ⟨_, _, (rfl : _ :: _ = _ :: _), ?_⟩)
  | (refine ⟨_, _, _, (rfl : _ :: _ = _ :: _), ?_⟩)
  | (refine ⟨rfl, ?_⟩)
  | (show _ ∧ _; refine And.intro (by omega) ?_)
  | ((with_reducible show CMulX _ _ ∧ _); refine And.intro (Sm.mx (by walk_at "sm") (by walk_at "sm") (by omega)) ?_)
  | ((with_reducible show CPow _ _ ∧ _); refine And.intro ⟨by decide, by decide, by decide⟩ ?_)
  | ((with_reducible show CDivW _ _ ∧ _); refine And.intro ⟨by first | omega | decide, by decide⟩ ?_)
  | (show _ ∧ _; refine And.intro (by assumption) ?_)
  | (show _ ∧ _; refine And.intro (Nat.le_of_ble_eq_true rfl) ?_)
  | ((with_reducible show tyV _ "list" _ _ ∧ _); refine And.intro (.inl ⟨rfl, _, .inl (.inl (by assumption))⟩) ?_)
  | fail "rd")

section
variable {P : Program} {w : World} {K : PySem.W.Frag} {mg : Str → Option Value} {base : Heap}
def sp__law_draws (K : PySem.W.Frag) : Sp := fun vs H Q _ => ∃ (a : Addr) (ns : List Int) (many : Nat), vs = [.ref a, .int many] ∧ SqL K H a (ns.map V.int) ∧ many ≤ 100 ∧
  ∀ H' D (ds : List Int), Same H H' → H D = none → H' D = some (.lst (ds.map V.int)) → ds.length = many → (∀ d ∈ ds, 0 ≤ d ∧ d < 65537) → Q (.ref D) H'
theorem ok__law_draws {f : Addr} {fd : FuncData} (F : Fun K "_law_draws" "_law_draws" s__law_draws f fd) (m_range : mg "range" = none) (m_abs : mg "abs" = none) (m_len : mg "len" = none) (m_int : mg "int" = none) : FnOk P w K mg base CX0 1 f fd ["script", "many"] (sp__law_draws K) := by
  refine F.ok sc__law_draws (fun vs H Q E h => ?_) (fun cdv A outer s H vs Q E hr h => ?_)
  · obtain ⟨a, ns, many, rfl, _⟩ := h
    rfl
  · obtain ⟨a, ns, many, rfl, hS, hm, q⟩ := h
    refine ⟨_, (pss_cons (ps_set (i := 2) sc__law_draws.nd rfl (.inl rfl) (pe_lst pa_nil))
      (pss_cons (ps_set (i := 3) sc__law_draws.nd rfl (.inl rfl) pe_int)
      (pss_cons (ps_for PassesOwn.never rfl (pi_list (pe_slice sl_list (pv 0) po_none (po_some pe_int))) (pg_name (i := 4) sc__law_draws.nd rfl (.inl rfl)) (pss_cons (ps_set (i := 5) sc__law_draws.nd rfl (.inl rfl) (pe_callB call_abs (by rfl) m_abs (by decide +kernel) (pa_cons (pv 4) pa_nil)))
      (pss_cons (ps_if (pt_cmpR op_ge (pv 5) (pe_op op_pow pe_int pe_int) (nomark _)) (pss_one (ps_for PassesOwn.never rfl (pi_range1 (by rfl) m_range (pa_cons pe_int pa_nil)) (pg_name (i := 6) sc__law_draws.nd rfl (.inl rfl)) (pss_one (ps_if (pt_cmpR op_gt (pv 5) pe_int (nomark _)) (pss_cons (ps_expr (pe_bm PySem.F.plainAttrs_list PySem.F.slot_list_append PySem.F.type_list_append mt_append (pv 2) (pa_cons (pe_op op_mod (pe_callTy call_intI (by rfl) m_int (by decide +kernel) (pa_cons (pv 5) pa_nil)) pe_int) pa_nil)))
      (pss_one (ps_set (i := 5) sc__law_draws.nd rfl (.inl rfl) (pe_op op_fdivW (pv 5) pe_int)))) pss_nil)))) (pss_cons (ps_expr (pe_bm PySem.F.plainAttrs_list PySem.F.slot_list_append PySem.F.type_list_append mt_append (pv 2) (pa_cons (pe_op op_mod (pe_callTy call_intI (by rfl) m_int (by decide +kernel) (pa_cons (pe_op op_add (pe_op op_add (pe_op op_mulX (pv 5) pe_int) (pe_op op_mulX (pv 3) pe_int)) pe_int) pa_nil)) pe_int) pa_nil)))
      (pss_one (ps_expr (pe_bm PySem.F.plainAttrs_list PySem.F.slot_list_append PySem.F.type_list_append mt_append (pv 2) (pa_cons (pe_op op_mod (pe_callTy call_intI (by rfl) m_int (by decide +kernel) (pa_cons (pe_op op_add (pe_op op_add (pe_op op_add (pe_op op_mulX (pv 5) pe_int) (pe_op op_mulX (pv 3) pe_int)) pe_int) (pe_op op_mulX (pv 5) (pv 5))) pa_nil)) pe_int) pa_nil))))))
      (pss_one (ps_set (i := 3) sc__law_draws.nd rfl (.inl rfl) (pe_op op_add (pv 3) pe_int))))))
      (pss_cons (ps_for PassesOwn.never rfl (pi_range1 (by rfl) m_range (pa_cons (pv 1) pa_nil)) (pg_name (i := 6) sc__law_draws.nd rfl (.inl rfl)) (pss_one (ps_if (pt_cmpR op_lt (pe_callB call_len_seq (by rfl) m_len (by decide +kernel) (pa_cons (pv 2) pa_nil)) (pv 1) (nomark _)) (pss_one (ps_expr (pe_bm PySem.F.plainAttrs_list PySem.F.slot_list_append PySem.F.type_list_append mt_append (pv 2) (pa_cons (pe_op op_mod (pe_callTy call_intI (by rfl) m_int (by decide +kernel) (pa_cons (pe_op op_add (pe_op op_add (pe_op op_mulX (pe_callB call_len_seq (by rfl) m_len (by decide +kernel) (pa_cons (pv 2) pa_nil)) pe_int) (pe_op op_mulX pe_int (pv 3))) (pe_op op_mulX (pe_op op_mulX (pv 6) (pv 6)) pe_int)) pa_nil)) pe_int) pa_nil)))) pss_nil)))
      (pss_one (ps_ret (pe_slice sl_list (pv 2) po_none (po_some (pv 1))))))))), ?_⟩
    walk_at "rd"
    intro D nD
    walk_at "rd"
    refine ⟨a, _, rfl, (same_upd nD).seq hS, fun c nc => ?_⟩
    have hcut : cutV (ns.map V.int) none (some 63) = (ns.take 63).map V.int := by
      unfold cutV
      rw [HT.sIx_none, show (some (63 : Int)) = some ((63 : Nat) : Int) from rfl, HT.sIx_nat, List.drop_zero, Nat.sub_zero, List.map_take]
      by_cases h : (ns.map V.int).length ≤ 63
      · rw [Nat.min_eq_right h, List.take_length, List.take_of_length_le h]
      · rw [Nat.min_eq_left (by omega)]
    rw [hcut]
    have hD0 : (upd (upd H D (.lst [])) c (.lst ((ns.take 63).map V.int))) D = some (.lst (([] : List Int).map V.int)) := same_upd nc _ _ upd_same
    have h18 : (10 : Int) ^ (18 : Int).toNat = 1000000000000000000 := by decide +kernel
    refine ⟨c, rfl, ⟨_, .inl (.inl upd_same)⟩, ?_⟩
    refine for_list (K := K) (a := c) (xs := (ns.take 63).map V.int) (fun i σ H' => ∃ (ds : List Int) (c4 c5 c6 : Option V), σ = [some (.ref a), some (.int many), some (.ref D), some (.int (i : Int)), c4, c5, c6] ∧
      H' D = some (.lst (ds.map V.int)) ∧ ds.length ≤ 24 * i ∧ (∀ d ∈ ds, 0 ≤ d ∧ d < 65537) ∧ H' c = some (.lst ((ns.take 63).map V.int)) ∧ Same H H') ?_ ?_ ?_ ?_
    · exact ⟨[], none, none, none, rfl, hD0, by simp, (fun d hd => by cases hd), upd_same, (same_upd nD).trans (same_upd nc)⟩
    · intro i σ H1 _ hP
      obtain ⟨ds, c4, c5, c6, rfl, _, _, _, hc, _⟩ := hP
      exact .inl (.inl hc)
    · intro i v σ H1 hv hP
      obtain ⟨ds, c4, c5, c6, rfl, hD, hl, hd, hc, sH⟩ := hP
      have hi : i < 63 := by
        have := (List.getElem?_eq_some_iff.mp hv).1
        rw [List.length_map, List.length_take] at this
        omega
      obtain ⟨z, rfl⟩ : ∃ z : Int, v = .int z := by
        rw [List.getElem?_map] at hv
        cases e : (ns.take 63)[i]? with
        | none => rw [e] at hv; cases hv
        | some z => rw [e] at hv; exact ⟨z, (Option.some.inj hv).symm⟩
      have hcD : c ≠ D := fun e => by
        rw [e, upd_same] at nc
        cases nc
      have si : Sm 64 (i : Int) := Sm.le (y := 1000) (Sm.lit (k := 64)) (by omega) (by omega)
      walk_at "rd"
      obtain ⟨nu, enu⟩ : ∃ nu : Int, nu = (if z < 0 then -z else z) := ⟨_, rfl⟩
      have hnu : 0 ≤ nu := by rw [enu]; split <;> omega
      rw [← enu]
      refine split_if (fun σ' H' => ∃ (ds : List Int) (c4 c5 c6 : Option V), σ' = [some (.ref a), some (.int many), some (.ref D), some (.int (i : Int)), c4, c5, c6] ∧
        H' D = some (.lst (ds.map V.int)) ∧ ds.length ≤ 24 * (i + 1) ∧ (∀ d ∈ ds, 0 ≤ d ∧ d < 65537) ∧ H' c = some (.lst ((ns.take 63).map V.int)) ∧ Same H H') ?_ ?_
      · intro σ H2 hP
        obtain ⟨ds, c4, c5, c6, rfl, hD, hl, hd, hc, sH⟩ := hP
        walk_at "rd"
        exact ⟨ds, c4, c5, c6, rfl, hD, hl, hd, hc, sH⟩
      · intro D' hD'
        refine ite2 (fun e => ?_) (fun e => ?_)
        · walk_at "rd"
          refine for_rng (n := 24) (fun k σ' H' => ∃ (ds : List Int) (w : Int) (c4 c6 : Option V), σ' = [some (.ref a), some (.int many), some (.ref D), some (.int (i : Int)), c4, some (.int w), c6] ∧ 0 ≤ w ∧
            H' D = some (.lst (ds.map V.int)) ∧ ds.length ≤ 24 * i + k ∧ (∀ d ∈ ds, 0 ≤ d ∧ d < 65537) ∧ H' c = some (.lst ((ns.take 63).map V.int)) ∧ Same H H') ?_ ?_ ?_
          · exact ⟨ds, nu, _, _, rfl, hnu, hD, hl, hd, hc, sH⟩
          · intro k σ H2 hk hP
            obtain ⟨ds, w', c4, c6, rfl, hw, hD, hl, hd, hc, sH⟩ := hP
            walk_at "rd"
            refine ite2 (fun e2 => ?_) (fun e2 => ?_)
            · walk_at "rd"
              refine app_go hD (by rw [List.length_map]; exact Nat.lt_of_le_of_lt (show ds.length ≤ 2000 by omega) (by decide)) ?_
              walk_at "rd"
              refine ⟨ds ++ [w' % 1009], w' / 1009, _, _, rfl, by omega, by rw [upd_same, List.map_append]; rfl, by rw [List.length_append]; show ds.length + 1 ≤ _; omega, ?_, ?_, ?_⟩
              · intro d hx
                rcases List.mem_append.mp hx with hx | hx
                · exact hd d hx
                · rw [List.mem_singleton] at hx
                  omega
              · rw [upd_ne hcD]
                exact hc
              · exact fun b o hb => by
                  rw [upd_ne (ne_of_none hb nD)]
                  exact sH b o hb
            · exact ⟨ds, w', _, _, rfl, hw, hD, by omega, hd, hc, sH⟩
          · intro σ H2 hP
            obtain ⟨ds, w', c4, c6, rfl, hw, hD, hl, hd, hc, sH⟩ := hP
            exact hD' _ _ ⟨ds, _, _, _, rfl, hD, by omega, hd, hc, sH⟩
        · have hlt : nu < 1000000000000000000 := by
            have : ¬ (10 : Int) ^ (18 : Int).toNat ≤ nu := fun l => e (decide_eq_true l)
            rw [h18] at this
            omega
          have snu : Sm 64 nu := Sm.le (y := 1000000000000000000) (Sm.lit (k := 64)) hnu (by omega)
          walk_at "rd"
          refine app_go hD (by rw [List.length_map]; exact Nat.lt_of_le_of_lt (show ds.length ≤ 2000 by omega) (by decide)) ?_
          have hD2 : (upd H1 D (.lst (ds.map V.int ++ [.int ((nu * 48271 + i * 69621 + 11) % 65537)]))) D = some (.lst ((ds ++ [(nu * 48271 + i * 69621 + 11) % 65537]).map V.int)) := by
            rw [upd_same, List.map_append]
            rfl
          walk_at "rd"
          refine app_go hD2 (by rw [List.length_map, List.length_append]; exact Nat.lt_of_le_of_lt (show ds.length + 1 ≤ 2000 by omega) (by decide)) ?_
          refine hD' _ _ ⟨ds ++ [(nu * 48271 + i * 69621 + 11) % 65537] ++ [(nu * 16807 + i * 40692 + 7 + nu * nu) % 65521], _, _, _, rfl, ?_, ?_, ?_, ?_, ?_⟩
          · simp only [upd_same, List.map_append]
            rfl
          · rw [List.length_append, List.length_append]
            show ds.length + 1 + 1 ≤ _
            omega
          · intro d hx
            rcases List.mem_append.mp hx with hx | hx
            · rcases List.mem_append.mp hx with hx | hx
              · exact hd d hx
              · rw [List.mem_singleton] at hx
                omega
            · rw [List.mem_singleton] at hx
              generalize nu * nu = sq at *
              omega
          · rw [upd_ne hcD, upd_ne hcD]
            exact hc
          · exact fun b o hb => by
              rw [upd_ne (ne_of_none hb nD), upd_ne (ne_of_none hb nD)]
              exact sH b o hb
    · intro σ H1 hP
      obtain ⟨ds, c4, c5, c6, rfl, hD, hl, hd, hc, sH⟩ := hP
      rw [List.length_map] at hl
      have hl63 : (ns.take 63).length ≤ 63 := by rw [List.length_take]; omega
      rw [List.length_map]
      generalize (ns.take 63).length = at' at *
      have sat : Sm 64 (at' : Int) := Sm.le (y := 1000) (Sm.lit (k := 64)) (by omega) (by omega)
      walk_at "rd"
      refine for_rng (n := many) (fun k σ' H' => ∃ (ds : List Int) (c4 c5 c6 : Option V), σ' = [some (.ref a), some (.int many), some (.ref D), some (.int (at' : Int)), c4, c5, c6] ∧
        H' D = some (.lst (ds.map V.int)) ∧ k ≤ ds.length ∧ ds.length ≤ 2000 ∧ (∀ d ∈ ds, 0 ≤ d ∧ d < 65537) ∧ Same H H') ?_ ?_ ?_
      · exact ⟨ds, _, _, _, rfl, hD, Nat.zero_le _, by omega, hd, sH⟩
      · intro k σ H2 hk hP
        obtain ⟨ds, c4, c5, c6, rfl, hD, hk1, hl, hd, sH⟩ := hP
        have sk : Sm 64 (k : Int) := Sm.le (y := 1000) (Sm.lit (k := 64)) (by omega) (by omega)
        walk_at "rd"
        refine ⟨D, _, rfl, .inl (.inl (.inl hD)), ?_⟩
        walk_at "rd"
        refine ite2 (fun e => ?_) (fun e => ?_)
        · have hlm : ds.length < many := by
            have := of_decide_eq_true e
            rw [List.length_map] at this
            omega
          have sl : Sm 64 ((ds.map V.int).length : Int) := by
            rw [List.length_map]
            exact Sm.le (y := 10000) (Sm.lit (k := 64)) (by omega) (by omega)
          walk_at "rd"
          refine ⟨D, _, rfl, .inl (.inl (.inl hD)), ?_⟩
          walk_at "rd"
          refine app_go hD (by rw [List.length_map]; exact Nat.lt_of_le_of_lt (show ds.length ≤ 2000 by omega) (by decide)) ?_
          refine ⟨ds ++ [(((ds.map V.int).length : Int) * 69621 + 977 * at' + k * k * 31) % 65521], _, _, _, rfl, by rw [upd_same, List.map_append]; rfl, by rw [List.length_append]; show _ ≤ ds.length + 1; omega, by rw [List.length_append]; show ds.length + 1 ≤ _; omega, ?_, ?_⟩
          · intro d hx
            rcases List.mem_append.mp hx with hx | hx
            · exact hd d hx
            · rw [List.mem_singleton] at hx
              generalize ((ds.map V.int).length : Int) * 69621 + 977 * at' + k * k * 31 = sq at *
              omega
          · exact fun b o hb => by
              rw [upd_ne (ne_of_none hb nD)]
              exact sH b o hb
        · have hlm : many ≤ ds.length := by
            have : ¬ ((ds.map V.int).length : Int) < (many : Int) := fun l => e (decide_eq_true l)
            rw [List.length_map] at this
            omega
          exact ⟨ds, _, _, _, rfl, hD, by omega, hl, hd, sH⟩
      · intro σ H2 hP
        obtain ⟨ds, c4, c5, c6, rfl, hD, hk1, hl, hd, sH⟩ := hP
        walk_at "rd"
        refine ⟨D, _, rfl, .inl (.inl hD), fun p np => ?_⟩
        rw [cut_take _ _ (by rw [List.length_map]; exact hk1), ← List.map_take]
        exact q _ p (ds.take many) (sH.trans (same_upd np)) (sH.free np) upd_same (by rw [List.length_take]; omega) (fun d hx => hd d (List.mem_of_mem_take hx))

def sp_square_product (K : PySem.W.Frag) : Sp := fun vs H Q _ => ∃ (p q : Addr) (a b c d e f g h : Int), vs = [.ref p, .ref q] ∧ SqT K H p [.int a, .int b, .int c, .int d] ∧ SqT K H q [.int e, .int f, .int g, .int h] ∧
  (Sm 64 a ∧ Sm 64 b ∧ Sm 64 c ∧ Sm 64 d ∧ Sm 64 e ∧ Sm 64 f ∧ Sm 64 g ∧ Sm 64 h) ∧ ∀ H' r, Same H H' → H r = none →
  H' r = some (.tup [.int (a * e + b * f + c * g + d * h), .int (a * f - b * e + c * h - d * g), .int (a * g - b * h - c * e + d * f), .int (a * h + b * g - c * f - d * e)]) → Q (.ref r) H'
theorem ok_square_product {f : Addr} {fd : FuncData} (F : Fun K "square_product" "square_product" s_square_product f fd)  : FnOk P w K mg base CX0 1 f fd ["first", "second"] (sp_square_product K) := by
  refine F.ok sc_square_product (fun vs H Q E h => ?_) (fun cdv A outer s H vs Q E hr h => ?_)
  · obtain ⟨p, p2, a, b, c, d, e, f, g, h, rfl, _⟩ := h
    rfl
  · obtain ⟨p, p2, a, b, c, d, e, f, g, h, rfl, hp, hq, ⟨sa, sb, sc, sd, se, sf, sg, sh⟩, q⟩ := h
    refine ⟨_, (pss_cons (ps_asg (pv 0) (pg_tup (by rfl) (pgs_cons (pg_name (i := 2) sc_square_product.nd rfl (.inl rfl)) (pgs_cons (pg_name (i := 3) sc_square_product.nd rfl (.inl rfl)) (pgs_cons (pg_name (i := 4) sc_square_product.nd rfl (.inl rfl)) (pgs_cons (pg_name (i := 5) sc_square_product.nd rfl (.inl rfl)) pgs_nil))))))
      (pss_cons (ps_asg (pv 1) (pg_tup (by rfl) (pgs_cons (pg_name (i := 6) sc_square_product.nd rfl (.inl rfl)) (pgs_cons (pg_name (i := 7) sc_square_product.nd rfl (.inl rfl)) (pgs_cons (pg_name (i := 8) sc_square_product.nd rfl (.inl rfl)) (pgs_cons (pg_name (i := 9) sc_square_product.nd rfl (.inl rfl)) pgs_nil))))))
      (pss_one (ps_ret (pe_tup (pa_cons (pe_op op_add (pe_op op_add (pe_op op_add (pe_op op_mulX (pv 2) (pv 6)) (pe_op op_mulX (pv 3) (pv 7))) (pe_op op_mulX (pv 4) (pv 8))) (pe_op op_mulX (pv 5) (pv 9))) (pa_cons (pe_op op_sub (pe_op op_add (pe_op op_sub (pe_op op_mulX (pv 2) (pv 7)) (pe_op op_mulX (pv 3) (pv 6))) (pe_op op_mulX (pv 4) (pv 9))) (pe_op op_mulX (pv 5) (pv 8))) (pa_cons (pe_op op_add (pe_op op_sub (pe_op op_sub (pe_op op_mulX (pv 2) (pv 8)) (pe_op op_mulX (pv 3) (pv 9))) (pe_op op_mulX (pv 4) (pv 6))) (pe_op op_mulX (pv 5) (pv 7))) (pa_cons (pe_op op_sub (pe_op op_sub (pe_op op_add (pe_op op_mulX (pv 2) (pv 9)) (pe_op op_mulX (pv 3) (pv 8))) (pe_op op_mulX (pv 4) (pv 7))) (pe_op op_mulX (pv 5) (pv 6))) pa_nil))))))))), ?_⟩
    walk_at "rd"
    intro r nr
    walk_at "rd"
    exact q _ r (same_upd nr) nr upd_same

def sp__law_sum (K : PySem.W.Frag) : Sp := fun vs H Q _ => ∃ (p : Addr) (xs : List Int), vs = [.ref p] ∧ SqT K H p (xs.map V.int) ∧ xs.length ≤ 4 ∧ (∀ x ∈ xs, Sm 300 x) ∧ ∀ H', Same H H' → Q (.int (xs.map fun x => x * x).sum) H'
theorem ok__law_sum {f : Addr} {fd : FuncData} (F : Fun K "_law_sum" "_law_sum" s__law_sum f fd) (m_sum : mg "sum" = none) : FnOk P w K mg base CX0 1 f fd ["numbers"] (sp__law_sum K) := by
  refine F.ok sc__law_sum (fun vs H Q E h => ?_) (fun cdv A outer s H vs Q E hr h => ?_)
  · obtain ⟨p, xs, rfl, _⟩ := h
    rfl
  · obtain ⟨p, xs, rfl, hp, hl, hs, q⟩ := h
    refine ⟨_, (pss_one (ps_ret (pe_callB (cr_sum rfl) (by rfl) m_sum (by decide +kernel) (pa_cons (pe_lc (own := [("number", 1)]) (g := gName 1) (by rfl) sc__law_sum.nd (pi_tup (pv 0)) (blkOk_by (own := [("number", 1)]) (N := ["numbers", "number"]) (sc := defScope s__law_sum) (by decide +kernel)) (fun _ _ _ _ _ => pg_name (i := 1) sc__law_sum.nd rfl (Or.inl rfl)) (fun _ _ _ _ _ => pts_nil) (fun _ _ _ _ _ => (pe_op op_mulX (pv 1) (pv 1)))) pa_nil)))), ?_⟩
    walk_at "rd"
    refine ⟨⟨_, hp⟩, ?_⟩
    intro L nL
    refine lc_tup (K := K) (a := p) (xs := xs.map V.int) (fun i H' => H' L = some (.lst (((xs.take i).map fun x => x * x).map V.int)) ∧ Same H H') ?_ ?_ ?_ ?_
    · exact ⟨upd_same, same_upd nL⟩
    · intro i H' _ hP
      exact Same.seqT hP.2 hp
    · intro i v H' hv hP
      obtain ⟨hL, sH⟩ := hP
      rw [List.getElem?_map] at hv
      obtain ⟨x, hx, rfl⟩ := Option.map_eq_some_iff.mp hv
      have sx := hs x (List.mem_of_getElem? hx)
      have hi : i < xs.length := (List.getElem?_eq_some_iff.mp hx).1
      walk_at "rd"
      refine ⟨_, hL, Nat.lt_of_lt_of_le (show _ < 5 by rw [List.length_map, List.length_map, List.length_take]; omega) (by decide), ?_, Same.new sH nL⟩
      rw [upd_same, List.take_succ, hx, List.map_append, List.map_append]
      rfl
    · intro H' hP
      obtain ⟨hL, sH⟩ := hP
      rw [List.length_map, List.take_length] at hL
      walk_at "rd"
      refine ⟨L, _, rfl, .inl (.inl hL), ?_⟩
      walk_at "rd"
      exact q _ sH

def sp_twos (K : PySem.W.Frag) : Sp := fun vs H Q _ => ∃ (n : Nat), vs = [.int n] ∧ Q (.int (tw n)) H
theorem ok_twos {f : Addr} {fd : FuncData} (F : Fun K "twos" "twos" s_twos f fd)  : FnOk P w K mg base CX0 1 f fd ["n"] (sp_twos K) := by
  refine F.ok sc_twos (fun vs H Q E h => ?_) (fun cdv A outer s H vs Q E hr h => ?_)
  · obtain ⟨n, rfl, _⟩ := h
    rfl
  · obtain ⟨n, rfl, q⟩ := h
    refine ⟨_, (pss_one (ps_ret (pe_op op_sub (pe_bits (pe_op op_and (pv 0) (pe_un un_neg (pv 0)))) pe_int))), ?_⟩
    walk_at "rd"
    exact q

def sp_is_three_squares (K : PySem.W.Frag) : Sp := fun vs H Q _ => ∃ (n : Nat), vs = [.int n] ∧ (n = 0 ∧ Q (.bl true) H ∨ ∃ N j, n = (2 * N + 1) * 2 ^ j ∧ Q (.bl (decide (j % 2 = 1) || !decide ((2 * N + 1) % 8 = 7))) H)
theorem ok_is_three_squares {f : Addr} {fd : FuncData} (F : Fun K "is_three_squares" "is_three_squares" s_is_three_squares f fd) (C_twos : Cal P w K mg base "twos" 1 ["n"] (sp_twos K)) : FnOk P w K mg base CX0 2 f fd ["n"] (sp_is_three_squares K) := by
  refine F.ok sc_is_three_squares (fun vs H Q E h => ?_) (fun cdv A outer s H vs Q E hr h => ?_)
  · obtain ⟨n, rfl, _⟩ := h
    rfl
  · obtain ⟨n, rfl, q⟩ := h
    have pos : ∀ N j, n = (2 * N + 1) * 2 ^ j → 1 ≤ n := fun N j e => by rw [e]; exact Nat.mul_pos (by omega) (Nat.two_pow_pos j)
    refine ⟨_, (pss_cons (ps_if (pt_cmpR op_le (pv 0) pe_int (nomark _)) (pss_one (ps_ret (pe_cmpR op_eq (pv 0) pe_int (nomark _)))) pss_nil)
      (pss_cons (ps_set (i := 1) sc_is_three_squares.nd rfl (.inl rfl) (pe_cal C_twos hr (by rfl) (pa_cons (pv 0) pa_nil)))
      (pss_one (ps_ret (pe_or (pe_cmpR op_eq (pe_op op_and (pv 1) pe_int) pe_int (nomark _)) (pe_one (pe_cmpR op_ne (pe_op op_and (pe_op op_shr (pv 0) (pv 1)) pe_int) pe_int (nomark _)))))))), ?_⟩
    walk_at "rd"
    refine ite2 (fun e => ?_) (fun e => ?_)
    · have e0 : n = 0 := by
        have := of_decide_eq_true e
        omega
      subst e0
      walk_at "rd"
      rcases q with ⟨_, q0⟩ | ⟨N, j, e, _⟩
      · exact q0
      · exact absurd (pos N j e) (by decide)
    · have e0 : 1 ≤ n := by
        have : ¬ (n : Int) ≤ 0 := fun l => e (decide_eq_true l)
        omega
      obtain ⟨N, j, ej, q1⟩ : ∃ N j, n = (2 * N + 1) * 2 ^ j ∧ Q (.bl (decide (j % 2 = 1) || !decide ((2 * N + 1) % 8 = 7))) H := by
        rcases q with ⟨e, _⟩ | q
        · omega
        · exact q
      have tj : tw n = (j : Int) := by rw [ej]; exact tw_odd N j
      walk_at "rd"
      have eb : Builtin.bitAnd (tw n) 1 = ((j % 2 : Nat) : Int) := by
        rw [tj, show (1 : Int) = ((1 : Nat) : Int) from rfl, bitAnd_pp (by omega) (by omega), Int.toNat_natCast, Int.toNat_natCast, Nat.and_one_is_mod]
      refine ite2 (fun e => ?_) (fun e => ?_)
      · have h1 : j % 2 = 1 := by
          have h2 : V.int (Builtin.bitAnd (tw n) 1) = V.int 1 := of_decide_eq_true e
          have := V.int.inj h2
          omega
        rw [decide_eq_true h1] at q1
        exact q1
      · have h1 : ¬ j % 2 = 1 := fun h => e (decide_eq_true (show V.int (Builtin.bitAnd (tw n) 1) = V.int 1 by rw [eb, h]; rfl))
        rw [decide_eq_false h1] at q1
        walk_at "rd"
        rw [tj]
        walk_at "rd"
        have e1 : decide (V.int (Builtin.bitAnd ((n : Int) / 2 ^ (j : Int).toNat) 7) = V.int 7) = decide ((2 * N + 1) % 8 = 7) := by
          have e2 : (n : Int) / 2 ^ (j : Int).toNat = ((2 * N + 1 : Nat) : Int) := by
            rw [Int.toNat_natCast, ej, Int.natCast_mul, show ((2 : Int) ^ j) = ((2 ^ j : Nat) : Int) by norm_cast]
            exact Int.mul_ediv_cancel _ (by have := Nat.two_pow_pos j; omega)
          rw [e2, show (7 : Int) = ((7 : Nat) : Int) from rfl, bitAnd_pp (by omega) (by omega), Int.toNat_natCast, Int.toNat_natCast, and7, dV]
          by_cases h : (2 * N + 1) % 8 = 7
          · rw [decide_eq_true h, decide_eq_true (by rw [h])]
          · rw [decide_eq_false h, decide_eq_false (by omega)]
        rw [← e1] at q1
        exact q1

def sp_law (K : PySem.W.Frag) : Sp := fun vs H Q _ => ∃ (a : Addr) (ns : List Int), vs = [.ref a] ∧ SqL K H a (ns.map V.int) ∧ ns.length ≤ 63 ∧ ∀ H', Q (.bl true) H'
theorem ok_law {f : Addr} {fd : FuncData} (F : Fun K "law" "law" s_law f fd) (C__law_draws : Cal P w K mg base "_law_draws" 1 ["script", "many"] (sp__law_draws K)) (C_square_product : Cal P w K mg base "square_product" 1 ["first", "second"] (sp_square_product K)) (C__law_sum : Cal P w K mg base "_law_sum" 1 ["numbers"] (sp__law_sum K)) (C_is_three_squares : Cal P w K mg base "is_three_squares" 2 ["n"] (sp_is_three_squares K)) (m_range : mg "range" = none) (m_isinstance : mg "isinstance" = none) (m_tuple : mg "tuple" = none) : FnOk P w K mg base CX0 3 f fd ["script"] (sp_law K) := by
  refine F.ok sc_law (fun vs H Q E h => ?_) (fun cdv A outer s H vs Q E hr h => ?_)
  · obtain ⟨a, ns, rfl, _⟩ := h
    rfl
  · obtain ⟨sa, ns, rfl, hS, hlen, q⟩ := h
    refine ⟨_, (pss_cons (ps_set (i := 1) sc_law.nd rfl (.inl rfl) (pe_cal C__law_draws (hr.mono (by decide)) (by rfl) (pa_cons (pv 0) (pa_cons pe_int pa_nil))))
      (pss_cons (ps_set (i := 2) sc_law.nd rfl (.inl rfl) (pe_lst pa_nil))
      (pss_cons (ps_for PassesOwn.never rfl (pi_range1 (by rfl) m_range (pa_cons pe_int pa_nil)) (pg_name (i := 3) sc_law.nd rfl (.inl rfl)) (pss_cons (ps_set (i := 4) sc_law.nd rfl (.inl rfl) (pe_op op_mod (pe_op op_mulX (pe_ix ix_list (pv 1) (pv 3) (fun _ _ => rfl)) (pe_ix ix_list (pe_lst (pa_cons pe_int (pa_cons pe_int (pa_cons pe_int pa_nil)))) (pe_op op_mod (pe_ix ix_list (pv 1) (pe_op op_add (pv 3) pe_int) (fun _ _ => rfl)) pe_int) (fun _ _ => rfl))) (pe_op op_pow pe_int pe_int)))
      (pss_one (ps_expr (pe_bm PySem.F.plainAttrs_list PySem.F.slot_list_append PySem.F.type_list_append mt_append (pv 2) (pa_cons (pe_op op_mulX (pv 4) (pe_op op_sub pe_int (pe_op op_mulX pe_int (pe_op op_mod (pe_op op_fdivW (pe_ix ix_list (pv 1) (pe_op op_add (pv 3) pe_int) (fun _ _ => rfl)) pe_int) pe_int)))) pa_nil))))))
      (pss_cons (ps_asg (pv 2) (pg_unl (by rfl) (pgs_cons (pg_name (i := 5) sc_law.nd rfl (.inl rfl)) (pgs_cons (pg_name (i := 6) sc_law.nd rfl (.inl rfl)) (pgs_cons (pg_name (i := 7) sc_law.nd rfl (.inl rfl)) (pgs_cons (pg_name (i := 8) sc_law.nd rfl (.inl rfl)) (pgs_cons (pg_name (i := 9) sc_law.nd rfl (.inl rfl)) (pgs_cons (pg_name (i := 10) sc_law.nd rfl (.inl rfl)) (pgs_cons (pg_name (i := 11) sc_law.nd rfl (.inl rfl)) (pgs_cons (pg_name (i := 12) sc_law.nd rfl (.inl rfl)) pgs_nil))))))))))
      (pss_cons (ps_par (by rfl) sc_law.nd (i := 13) (j := 14) rfl rfl (by decide) rfl rfl (pa_cons (pe_tup (pa_cons (pv 5) (pa_cons (pv 6) (pa_cons (pv 7) (pa_cons (pv 8) pa_nil))))) (pa_cons (pe_tup (pa_cons (pv 9) (pa_cons (pv 10) (pa_cons (pv 11) (pa_cons (pv 12) pa_nil))))) pa_nil)) (by rfl))
      (pss_cons (ps_set (i := 15) sc_law.nd rfl (.inl rfl) (pe_cal C_square_product (hr.mono (by decide)) (by rfl) (pa_cons (pv 13) (pa_cons (pv 14) pa_nil))))
      (pss_cons (ps_if (PW.pt (pw_or (pt_not (pt_val (pe_callB isi_tup (by rfl) m_isinstance (by decide +kernel) (pa_cons (pv 15) (pa_cons (pe_bltn (v := .ty "tuple") rfl m_tuple (by decide +kernel) rfl) pa_nil))))) (pw_or1 (pt_cmpR op_ne (pe_cal C__law_sum (hr.mono (by decide)) (by rfl) (pa_cons (pv 15) pa_nil)) (pe_op op_mulX (pe_cal C__law_sum (hr.mono (by decide)) (by rfl) (pa_cons (pv 13) pa_nil)) (pe_cal C__law_sum (hr.mono (by decide)) (by rfl) (pa_cons (pv 14) pa_nil))) (nomark _))))) (pss_one (ps_ret pe_bl)) pss_nil)
      (pss_cons (ps_if (pt_cmpR (op_ne2 hr.units) (pe_slice sl_tup (pv 15) po_none (po_some pe_int)) (pe_tup (pa_cons (pe_op op_add (pe_op op_add (pe_op op_add (pe_op op_mulX (pv 5) (pv 9)) (pe_op op_mulX (pv 6) (pv 10))) (pe_op op_mulX (pv 7) (pv 11))) (pe_op op_mulX (pv 8) (pv 12))) (pa_cons (pe_op op_sub (pe_op op_add (pe_op op_sub (pe_op op_mulX (pv 5) (pv 10)) (pe_op op_mulX (pv 6) (pv 9))) (pe_op op_mulX (pv 7) (pv 12))) (pe_op op_mulX (pv 8) (pv 11))) pa_nil))) (nomark _)) (pss_one (ps_ret pe_bl)) pss_nil)
      (pss_cons (ps_if (pt_cmpR (op_ne2 hr.units) (pe_slice sl_tup (pv 15) (po_some pe_int) po_none) (pe_tup (pa_cons (pe_op op_add (pe_op op_sub (pe_op op_sub (pe_op op_mulX (pv 5) (pv 11)) (pe_op op_mulX (pv 6) (pv 12))) (pe_op op_mulX (pv 7) (pv 9))) (pe_op op_mulX (pv 8) (pv 10))) (pa_cons (pe_op op_sub (pe_op op_sub (pe_op op_add (pe_op op_mulX (pv 5) (pv 12)) (pe_op op_mulX (pv 6) (pv 11))) (pe_op op_mulX (pv 7) (pv 10))) (pe_op op_mulX (pv 8) (pv 9))) pa_nil))) (nomark _)) (pss_one (ps_ret pe_bl)) pss_nil)
      (pss_cons (ps_if (pt_cmpR (op_neD hr.units) (pe_cal C_square_product (hr.mono (by decide)) (by rfl) (pa_cons (pe_tup (pa_cons pe_int (pa_cons pe_int (pa_cons pe_int (pa_cons pe_int pa_nil))))) (pa_cons (pv 14) pa_nil))) (pv 14) (nomark _)) (pss_one (ps_ret pe_bl)) pss_nil)
      (pss_cons (ps_set (i := 4) sc_law.nd rfl (.inl rfl) (pe_op op_add (pe_op op_mulX pe_int (pe_op op_mod (pe_ix ix_list (pv 1) pe_int (fun _ _ => rfl)) pe_int)) pe_int))
      (pss_cons (ps_for PassesOwn.never rfl (pi_range1 (by rfl) m_range (pa_cons (pe_op op_mod (pe_ix ix_list (pv 1) pe_int (fun _ _ => rfl)) pe_int) pa_nil)) (pg_name (i := 3) sc_law.nd rfl (.inl rfl)) (pss_one (ps_set (i := 4) sc_law.nd rfl (.inl rfl) (pe_op op_mulX (pv 4) pe_int))))
      (pss_one (ps_ret (pe_and (pe_cmpR op_isBl (pe_cal C_is_three_squares hr (by rfl) (pa_cons (pv 4) pa_nil)) pe_bl (nomark _)) (pe_and (pe_cmpR op_isBl (pe_cal C_is_three_squares hr (by rfl) (pa_cons (pe_op op_mulX pe_int (pv 4)) pa_nil)) pe_bl (nomark _)) (pe_one (pe_cmpR op_isBl (pe_cal C_is_three_squares hr (by rfl) (pa_cons pe_int pa_nil)) pe_bl (nomark _))))))))))))))))))), ?_⟩
    walk_at "rd"
    refine ⟨_, _, 24, rfl, hS, by decide, fun H1 D ds s1 f1 hD hl hd => ?_⟩
    obtain ⟨dd, hdd⟩ : ∃ dd : Nat → Nat, ∀ j, j < 24 → (ds.map V.int)[j]? = some (V.int (dd j : Int)) ∧ dd j < 65537 := by
      refine ⟨fun j => (ds.getD j 0).toNat, fun j hj => ?_⟩
      have h1 : ds[j]? = some (ds[j]'(by omega)) := List.getElem?_eq_getElem (by omega)
      have h2 := hd _ (List.mem_of_getElem? h1)
      show _ = some (V.int (((ds.getD j 0).toNat : Nat) : Int)) ∧ (ds.getD j 0).toNat < 65537
      rw [List.getD_eq_getElem?_getD, List.getElem?_map, h1]
      constructor
      · show some (V.int _) = some (V.int _)
        congr 2
        show _ = (((ds[j]'(by omega)).toNat : Nat) : Int)
        omega
      · show (ds[j]'(by omega)).toNat < 65537
        omega
    walk_at "rd"
    intro L nL
    walk_at "rd"
    refine for_rng (n := 8) (fun k σ' H' => ∃ (xs : List Int) (c3 c4 : Option V), σ' = [some (.ref sa), some (.ref D), some (.ref L), c3, c4, none, none, none, none, none, none, none, none, none, none, none] ∧ H' L = some (.lst (xs.map V.int)) ∧ xs.length = k ∧ (∀ x ∈ xs, Sm 31 x) ∧ H' D = some (.lst (ds.map V.int))) ?_ ?_ ?_
    · exact ⟨[], none, none, rfl, upd_same, rfl, (fun x hx => by cases hx), by rw [upd_ne (ne_of_none hD nL)]; exact hD⟩
    · intro k σ H2 hk hP
      obtain ⟨xs, c3, c4, rfl, hL, hx, hs, hD2⟩ := hP
      refine ?_
      walk_at "rd"
      refine ixL_as (.inl (.inl hD2)) (at_of (j := k) (by omega) (hdd k (by omega)).1) ?_
      walk_at "rd"
      intro p3 n3
      walk_at "rd"
      have hD3 : (upd H2 p3 (.lst [.int 1, .int 1, .int 65537])) D = some (.lst (ds.map V.int)) := by rw [upd_ne (ne_of_none hD2 n3)]; exact hD2
      have hL3 : (upd H2 p3 (.lst [.int 1, .int 1, .int 65537])) L = some (.lst (xs.map V.int)) := by rw [upd_ne (ne_of_none hL n3)]; exact hL
      have h3 : (upd H2 p3 (.lst [.int 1, .int 1, .int 65537])) p3 = some (.lst [.int 1, .int 1, .int 65537]) := upd_same
      generalize upd H2 p3 (.lst [.int 1, .int 1, .int 65537]) = H3 at *
      refine ixL_as (.inl (.inl hD3)) (at_of (j := k + 8) (by omega) (hdd (k + 8) (by omega)).1) ?_
      walk_at "rd"
      obtain ⟨m, hm, sm⟩ : ∃ m : Int, atI [V.int 1, V.int 1, V.int 65537] ((dd (k + 8) : Int) % 3) = some (V.int m) ∧ Sm 20 m := by
        rcases (show (dd (k + 8) : Int) % 3 = 0 ∨ (dd (k + 8) : Int) % 3 = 1 ∨ (dd (k + 8) : Int) % 3 = 2 by omega) with e | e | e <;> rw [e]
        · exact ⟨1, rfl, Sm.lit⟩
        · exact ⟨1, rfl, Sm.lit⟩
        · exact ⟨65537, rfl, Sm.lit⟩
      refine ixL_as (.inl (.inl h3)) hm ?_
      have sd : Sm 20 (dd k : Int) := Sm.le (y := 65537) (Sm.lit (k := 20)) (by omega) (by have := (hdd k (by omega)).2; omega)
      have h9 : (10 : Int) ^ (9 : Int).toNat = 1000000000 := by decide +kernel
      walk_at "rd"
      refine ixL_as (.inl (.inl hD3)) (at_of (j := k + 8) (by omega) (hdd (k + 8) (by omega)).1) ?_
      have s10 : Sm 30 ((dd k : Int) * m % 10 ^ (9 : Int).toNat) := by
        rw [h9]
        exact Sm.le (y := 1000000000) (Sm.lit (k := 30)) (by omega) (by omega)
      have s2 : Sm 2 ((dd (k + 8) : Int) / 3 % 2) := Sm.le (y := 1) (Sm.lit (k := 2)) (by omega) (by omega)
      have s5 : Sm 31 ((dd k : Int) * m % 10 ^ (9 : Int).toNat * (1 - 2 * ((dd (k + 8) : Int) / 3 % 2))) := by
        rcases (show (dd (k + 8) : Int) / 3 % 2 = 0 ∨ (dd (k + 8) : Int) / 3 % 2 = 1 by omega) with e | e <;> rw [e]
        · show Sm 31 (_ * 1)
          rw [Int.mul_one]
          exact s10.mono (by omega)
        · show Sm 31 (_ * (-1))
          rw [Int.mul_neg, Int.mul_one]
          exact s10.neg.mono (by omega)
      walk_at "rd"
      refine app_go hL3 (by rw [List.length_map, hx]; exact Nat.lt_of_lt_of_le (show k < 8 by omega) (by decide)) ?_
      refine ⟨xs ++ [(dd k : Int) * m % 10 ^ (9 : Int).toNat * (1 - 2 * ((dd (k + 8) : Int) / 3 % 2))], _, _, rfl, by rw [upd_same, List.map_append]; rfl, by rw [List.length_append, hx]; rfl, fun x h => ?_, ?_⟩
      · rcases List.mem_append.mp h with h | h
        · exact hs x h
        · rw [List.mem_singleton] at h
          rw [h]
          exact s5
      · rw [upd_ne (fun e => by rw [← e, hD] at nL; cases nL)]
        exact hD3
    · intro σ H2 hP
      obtain ⟨xs, c3, c4, rfl, hL, hx, hs, hD2⟩ := hP
      obtain ⟨a, b, c, d, e, f, g, h, rfl⟩ : ∃ a b c d e f g h : Int, xs = [a, b, c, d, e, f, g, h] := by
        match xs, hx with
        | [a, b, c, d, e, f, g, h], _ => exact ⟨a, b, c, d, e, f, g, h, rfl⟩
      have ⟨sa_, sb, sc, sd, se, sf, sg, sh⟩ : Sm 31 a ∧ Sm 31 b ∧ Sm 31 c ∧ Sm 31 d ∧ Sm 31 e ∧ Sm 31 f ∧ Sm 31 g ∧ Sm 31 h := by
        refine ⟨?_, ?_, ?_, ?_, ?_, ?_, ?_, ?_⟩ <;> exact hs _ (by simp)
      walk_at "rd"
      refine ⟨L, _, rfl, .inl (.inl hL), rfl, ?_⟩
      walk_at "rd"
      intro p1 n1
      walk_at "rd"
      intro p2 n2
      walk_at "rd"
      dsimp only [List.set]
      have t1 : (upd (upd H2 p1 (.tup [.int a, .int b, .int c, .int d])) p2 (.tup [.int e, .int f, .int g, .int h])) p1 = some (.tup [.int a, .int b, .int c, .int d]) := same_upd n2 _ _ upd_same
      have t2 : (upd (upd H2 p1 (.tup [.int a, .int b, .int c, .int d])) p2 (.tup [.int e, .int f, .int g, .int h])) p2 = some (.tup [.int e, .int f, .int g, .int h]) := upd_same
      have hD3 : (upd (upd H2 p1 (.tup [.int a, .int b, .int c, .int d])) p2 (.tup [.int e, .int f, .int g, .int h])) D = some (.lst (ds.map V.int)) := same_upd n2 _ _ (same_upd n1 _ _ hD2)
      generalize upd (upd H2 p1 (.tup [.int a, .int b, .int c, .int d])) p2 (.tup [.int e, .int f, .int g, .int h]) = H3 at *
      refine ⟨p1, p2, a, b, c, d, e, f, g, h, rfl, sq_of t1, sq_of t2, ⟨sa_.mono (by omega), sb.mono (by omega), sc.mono (by omega), sd.mono (by omega), se.mono (by omega), sf.mono (by omega), sg.mono (by omega), sh.mono (by omega)⟩, fun H4 r s4 nr hr4 => ?_⟩
      have t1' := s4 _ _ t1
      have t2' := s4 _ _ t2
      have hD4 := s4 _ _ hD3
      walk_at "rd"
      refine ⟨r, _, rfl, hr4, ?_⟩
      walk_at "rd"
      obtain ⟨A1, eA⟩ : ∃ A1, A1 = a * e + b * f + c * g + d * h := ⟨_, rfl⟩
      obtain ⟨B1, eB⟩ : ∃ B1, B1 = a * f - b * e + c * h - d * g := ⟨_, rfl⟩
      obtain ⟨C1, eC⟩ : ∃ C1, C1 = a * g - b * h - c * e + d * f := ⟨_, rfl⟩
      obtain ⟨D1, eD⟩ : ∃ D1, D1 = a * h + b * g - c * f - d * e := ⟨_, rfl⟩
      have s1A : Sm 300 A1 := by rw [eA]; exact Sm.mono (k := 300) (by walk_at "sm") (by decide)
      have s1B : Sm 300 B1 := by rw [eB]; exact Sm.mono (k := 300) (by walk_at "sm") (by decide)
      have s1C : Sm 300 C1 := by rw [eC]; exact Sm.mono (k := 300) (by walk_at "sm") (by decide)
      have s1D : Sm 300 D1 := by rw [eD]; exact Sm.mono (k := 300) (by walk_at "sm") (by decide)
      rw [← eA, ← eB, ← eC, ← eD] at hr4
      walk_at "rd"
      refine ⟨r, [A1, B1, C1, D1], rfl, sq_of hr4, Nat.le_refl 4, fun x h => ?_, fun H5 s5 => ?_⟩
      · simp only [List.mem_cons, List.not_mem_nil, or_false] at h
        rcases h with rfl | rfl | rfl | rfl <;> assumption
      walk_at "rd"
      refine ⟨p1, [a, b, c, d], rfl, sq_of (s5 _ _ t1'), Nat.le_refl 4, fun x h => (hs x (by simp only [List.mem_cons, List.not_mem_nil, or_false] at h ⊢; omega)).mono (by omega), fun H6 s6 => ?_⟩
      walk_at "rd"
      refine ⟨p2, [e, f, g, h], rfl, sq_of (s6 _ _ (s5 _ _ t2')), Nat.le_refl 4, fun x h => (hs x (by simp only [List.mem_cons, List.not_mem_nil, or_false] at h ⊢; omega)).mono (by omega), fun H7 s7 => ?_⟩
      have z1 : Sm 400 ([a, b, c, d].map fun x => x * x).sum := by
        show Sm 400 (a * a + (b * b + (c * c + (d * d + 0))))
        exact Sm.mono (k := 400) (by walk_at "sm") (by decide)
      have z2 : Sm 400 ([e, f, g, h].map fun x => x * x).sum := by
        show Sm 400 (e * e + (f * f + (g * g + (h * h + 0))))
        exact Sm.mono (k := 400) (by walk_at "sm") (by decide)
      have ez : ([A1, B1, C1, D1].map fun x => x * x).sum = ([a, b, c, d].map fun x => x * x).sum * ([e, f, g, h].map fun x => x * x).sum := by
        rw [eA, eB, eC, eD]
        exact sq_sum a b c d e f g h
      walk_at "rd"
      refine ite2 (fun e => absurd e (ne_self (congrArg V.int ez))) (fun _ => ?_)
      have hr7 := s7 _ _ (s6 _ _ (s5 _ _ hr4))
      have t1'' := s7 _ _ (s6 _ _ (s5 _ _ t1'))
      have t2'' := s7 _ _ (s6 _ _ (s5 _ _ t2'))
      have hD7 := s7 _ _ (s6 _ _ (s5 _ _ hD4))
      walk_at "rd"
      refine ⟨r, _, rfl, sq_of hr7, (fun h => absurd h.2 (show ¬ HT.sIx 4 4 (some 2) = 4 by decide)), fun p3 n3 => ?_⟩
      walk_at "rd"
      intro p4 n4
      refine ⟨A1, B1, _, _, Tp.of (same_upd n4 _ _ upd_same), Tp.of upd_same, ?_⟩
      have hr8 := same_upd (o := .tup [.int (a * e + b * f + c * g + d * h), .int (a * f - b * e + c * h - d * g)]) n4 _ _ (same_upd (o := .tup [.int A1, .int B1]) n3 _ _ hr7)
      have u1 := same_upd (o := .tup [.int (a * e + b * f + c * g + d * h), .int (a * f - b * e + c * h - d * g)]) n4 _ _ (same_upd (o := .tup [.int A1, .int B1]) n3 _ _ t1'')
      have u2 := same_upd (o := .tup [.int (a * e + b * f + c * g + d * h), .int (a * f - b * e + c * h - d * g)]) n4 _ _ (same_upd (o := .tup [.int A1, .int B1]) n3 _ _ t2'')
      have uD := same_upd (o := .tup [.int (a * e + b * f + c * g + d * h), .int (a * f - b * e + c * h - d * g)]) n4 _ _ (same_upd (o := .tup [.int A1, .int B1]) n3 _ _ hD7)
      generalize upd (upd H7 p3 (.tup (cutV [.int A1, .int B1, .int C1, .int D1] none (some 2)))) p4 (.tup [.int (a * e + b * f + c * g + d * h), .int (a * f - b * e + c * h - d * g)]) = H8 at hr8 u1 u2 uD ⊢
      walk_at "rd"
      refine ite2 (fun e => absurd e (ne2_self eA eB)) (fun _ => ?_)
      walk_at "rd"
      refine ⟨r, _, rfl, sq_of hr8, (fun h => absurd h.1 (show ¬ HT.sIx 4 0 (some 2) = 0 by decide)), fun p5 n5 => ?_⟩
      walk_at "rd"
      intro p6 n6
      refine ⟨C1, D1, _, _, Tp.of (same_upd n6 _ _ upd_same), Tp.of upd_same, ?_⟩
      have u3 := same_upd (o := .tup [.int (a * g - b * h - c * e + d * f), .int (a * h + b * g - c * f - d * e)]) n6 _ _ (same_upd (o := .tup (cutV [.int A1, .int B1, .int C1, .int D1] (some 2) none)) n5 _ _ u2)
      have uE := same_upd (o := .tup [.int (a * g - b * h - c * e + d * f), .int (a * h + b * g - c * f - d * e)]) n6 _ _ (same_upd (o := .tup (cutV [.int A1, .int B1, .int C1, .int D1] (some 2) none)) n5 _ _ uD)
      generalize upd (upd H8 p5 (.tup (cutV [.int A1, .int B1, .int C1, .int D1] (some 2) none))) p6 (.tup [.int (a * g - b * h - c * e + d * f), .int (a * h + b * g - c * f - d * e)]) = H9 at u3 uE ⊢
      walk_at "rd"
      refine ite2 (fun e => absurd e (ne2_self eC eD)) (fun _ => ?_)
      walk_at "rd"
      intro p7 n7
      walk_at "rd"
      refine ⟨p7, p2, 1, 0, 0, 0, e, f, g, h, rfl, sq_new, sq_of (same_upd n7 _ _ u3), ⟨Sm.lit, Sm.lit, Sm.lit, Sm.lit, se.mono (by omega), sf.mono (by omega), sg.mono (by omega), sh.mono (by omega)⟩, fun HA r2 sA nr2 hr2 => ?_⟩
      have v3 := sA _ _ (same_upd n7 _ _ u3)
      have hDA := sA _ _ (same_upd n7 _ _ uE)
      rw [show 1 * e + 0 * f + 0 * g + 0 * h = e by omega, show 1 * f - 0 * e + 0 * h - 0 * g = f by omega, show 1 * g - 0 * h - 0 * e + 0 * f = g by omega, show 1 * h + 0 * g - 0 * f - 0 * e = h by omega] at hr2
      walk_at "rd"
      refine ⟨.tuple [.int e, .int f, .int g, .int h], .tuple [.int e, .int f, .int g, .int h], .tup (sq_of hr2) (.cons (.int e) (.cons (.int f) (.cons (.int g) (.cons (.int h) .nil)))), .tup (sq_of v3) (.cons (.int e) (.cons (.int f) (.cons (.int g) (.cons (.int h) .nil)))), rfl, rfl, ?_⟩
      rw [SeqAt.eqv_refl _ (SeqAt.canLay_of_shaped rfl)]
      walk_at "rd"
      refine ixL_as (.inl (.inl hDA)) (at_of (j := 16) (by omega) (hdd 16 (by omega)).1) ?_
      obtain ⟨M, eM⟩ : ∃ M : Nat, M = dd 16 % 100000 := ⟨_, rfl⟩
      have eM2 : (dd 16 : Int) % 100000 = (M : Int) := by omega
      have sM : Sm 20 ((dd 16 : Int) % 100000) := Sm.le (y := 100000) (Sm.lit (k := 20)) (by omega) (by omega)
      walk_at "rd"
      refine ixL_as (.inl (.inl hDA)) (at_of (j := 17) (by omega) (hdd 17 (by omega)).1) ?_
      walk_at "rd"
      refine for_rng (n := dd 17 % 12) (fun j σ H' => ∃ (c3 : Option V), σ = [some (.ref sa), some (.ref D), some (.ref L), c3, some (.int (((2 * (4 * M + 3) + 1) * 2 ^ (2 * j) : Nat) : Int)), some (.int a), some (.int b), some (.int c), some (.int d), some (.int e), some (.int f), some (.int g), some (.int h), some (.ref p1), some (.ref p2), some (.ref r)] ∧ H' = HA) ?_ ?_ ?_
      · refine ⟨c3, ?_, rfl⟩
        rw [Nat.mul_zero, Nat.pow_zero, Nat.mul_one, show ((2 * (4 * M + 3) + 1 : Nat) : Int) = 8 * ((dd 16 : Int) % 100000) + 7 by omega]
        rfl
      · intro j σ HB hj hP
        obtain ⟨c3', rfl, rfl⟩ := hP
        have so : Sm 100 (((2 * (4 * M + 3) + 1) * 2 ^ (2 * j) : Nat) : Int) := by
          unfold Sm
          rw [Int.natAbs_natCast]
          have h1 : 2 ^ (2 * j) ≤ 2 ^ 24 := Nat.pow_le_pow_right (by decide) (by omega)
          have h2 := Nat.mul_le_mul (show 2 * (4 * M + 3) + 1 ≤ 1000000 by omega) h1
          omega
        walk_at "rd"
        refine ⟨some (V.int (j : Int)), ?_, rfl⟩
        rw [show (((2 * (4 * M + 3) + 1) * 2 ^ (2 * (j + 1)) : Nat) : Int) = (((2 * (4 * M + 3) + 1) * 2 ^ (2 * j) : Nat) : Int) * 4 by
          rw [show 2 * (j + 1) = 2 * j + 1 + 1 by omega, Nat.pow_succ, Nat.pow_succ, show (2 * (4 * M + 3) + 1) * (2 ^ (2 * j) * 2 * 2) = (2 * (4 * M + 3) + 1) * 2 ^ (2 * j) * 4 by grind]
          exact Int.natCast_mul _ 4]
        rfl
      intro σ HB hP
      obtain ⟨c3', rfl, rfl⟩ := hP
      obtain ⟨j, ej, hj⟩ : ∃ j, dd 17 % 12 = j ∧ j < 12 := ⟨_, rfl, by omega⟩
      rw [ej]
      have so : Sm 100 (((2 * (4 * M + 3) + 1) * 2 ^ (2 * j) : Nat) : Int) := by
        unfold Sm
        rw [Int.natAbs_natCast]
        have h1 : 2 ^ (2 * j) ≤ 2 ^ 24 := Nat.pow_le_pow_right (by decide) (by omega)
        have h2 := Nat.mul_le_mul (show 2 * (4 * M + 3) + 1 ≤ 1000000 by omega) h1
        omega
      have ef : ∀ i : Nat, (decide (2 * i % 2 = 1) || !decide ((2 * (4 * M + 3) + 1) % 8 = 7)) = false := fun i => by
        rw [decide_eq_false (by omega), decide_eq_true (by omega)]
        rfl
      walk_at "rd"
      refine .inr ⟨4 * M + 3, 2 * j, rfl, ?_⟩
      rw [ef]
      walk_at "rd"
      refine .inr ⟨4 * M + 3, 2 * (j + 1), ?_, ?_⟩
      · rw [show 2 * (j + 1) = 2 * j + 1 + 1 by omega, Nat.pow_succ, Nat.pow_succ]
        grind
      rw [ef]
      walk_at "rd"
      first
        | refine .inl ⟨rfl, ?_⟩
        | refine ⟨0, rfl, .inl ⟨rfl, ?_⟩⟩
      walk_at "rd"
      exact q _

end
end RR

namespace RR
open PySem PySem.Spec PyProof.Rows L2
theorem all_mk {l : PySem.W.OpenLaw} {w : World} {K : PySem.W.Frag} {h : Heap} {mg : Str → Option Value} {fa : Addr} (X : K.In h) (G : h.Ns mainGlobals mg) (hfa : mg "law" = some (.ref fa))
    {f0 : Addr} {od0 an0 : Option Addr} {sl0 : Array (Option Value)} {oc0 kV0 dc0 pm0 cd0 ct0 : Value}
    {f1 : Addr} {od1 an1 : Option Addr} {sl1 : Array (Option Value)} {oc1 kV1 dc1 pm1 cd1 ct1 : Value}
    {f2 : Addr} {od2 an2 : Option Addr} {sl2 : Array (Option Value)} {oc2 kV2 dc2 pm2 cd2 ct2 : Value}
    {f3 : Addr} {od3 an3 : Option Addr} {sl3 : Array (Option Value)} {oc3 kV3 dc3 pm3 cd3 ct3 : Value}
    {f4 : Addr} {od4 an4 : Option Addr} {sl4 : Array (Option Value)} {oc4 kV4 dc4 pm4 cd4 ct4 : Value}
    {f5 : Addr} {od5 an5 : Option Addr} {sl5 : Array (Option Value)} {oc5 kV5 dc5 pm5 cd5 ct5 : Value}
    (a0 : PySem.W.nsIn K mainGlobals "_law_draws" = some (some (.ref f0)))
    (l0 : K.lookup f0 = some ⟨oc0, od0, .func (PySem.W.fnOf "_law_draws" "_law_draws" (defArgs s__law_draws) (defBody s__law_draws) (defScope s__law_draws) .none kV0 dc0 pm0 an0 cd0 ct0), sl0⟩)
    (c0 : PySem.W.codeIn K cd0 "_law_draws" = true) (k0 : PySem.W.keepIn K (.ref f0) = true)
    (a1 : PySem.W.nsIn K mainGlobals "square_product" = some (some (.ref f1)))
    (l1 : K.lookup f1 = some ⟨oc1, od1, .func (PySem.W.fnOf "square_product" "square_product" (defArgs s_square_product) (defBody s_square_product) (defScope s_square_product) .none kV1 dc1 pm1 an1 cd1 ct1), sl1⟩)
    (c1 : PySem.W.codeIn K cd1 "square_product" = true) (k1 : PySem.W.keepIn K (.ref f1) = true)
    (a2 : PySem.W.nsIn K mainGlobals "_law_sum" = some (some (.ref f2)))
    (l2 : K.lookup f2 = some ⟨oc2, od2, .func (PySem.W.fnOf "_law_sum" "_law_sum" (defArgs s__law_sum) (defBody s__law_sum) (defScope s__law_sum) .none kV2 dc2 pm2 an2 cd2 ct2), sl2⟩)
    (c2 : PySem.W.codeIn K cd2 "_law_sum" = true) (k2 : PySem.W.keepIn K (.ref f2) = true)
    (a3 : PySem.W.nsIn K mainGlobals "twos" = some (some (.ref f3)))
    (l3 : K.lookup f3 = some ⟨oc3, od3, .func (PySem.W.fnOf "twos" "twos" (defArgs s_twos) (defBody s_twos) (defScope s_twos) .none kV3 dc3 pm3 an3 cd3 ct3), sl3⟩)
    (c3 : PySem.W.codeIn K cd3 "twos" = true) (k3 : PySem.W.keepIn K (.ref f3) = true)
    (a4 : PySem.W.nsIn K mainGlobals "is_three_squares" = some (some (.ref f4)))
    (l4 : K.lookup f4 = some ⟨oc4, od4, .func (PySem.W.fnOf "is_three_squares" "is_three_squares" (defArgs s_is_three_squares) (defBody s_is_three_squares) (defScope s_is_three_squares) .none kV4 dc4 pm4 an4 cd4 ct4), sl4⟩)
    (c4 : PySem.W.codeIn K cd4 "is_three_squares" = true) (k4 : PySem.W.keepIn K (.ref f4) = true)
    (a5 : PySem.W.nsIn K mainGlobals "law" = some (some (.ref f5)))
    (l5 : K.lookup f5 = some ⟨oc5, od5, .func (PySem.W.fnOf "law" "law" (defArgs s_law) (defBody s_law) (defScope s_law) .none kV5 dc5 pm5 an5 cd5 ct5), sl5⟩)
    (c5 : PySem.W.codeIn K cd5 "law" = true) (k5 : PySem.W.keepIn K (.ref f5) = true)
    (z_range : PySem.W.nsIn K mainGlobals "range" = some none)
    (z_abs : PySem.W.nsIn K mainGlobals "abs" = some none)
    (z_len : PySem.W.nsIn K mainGlobals "len" = some none)
    (z_int : PySem.W.nsIn K mainGlobals "int" = some none)
    (z_sum : PySem.W.nsIn K mainGlobals "sum" = some none)
    (z_isinstance : PySem.W.nsIn K mainGlobals "isinstance" = some none)
    (z_tuple : PySem.W.nsIn K mainGlobals "tuple" = some none)
    : ∃ fd : FuncData, (∀ (s : Shared) (v : Value), BindsTo s fd ⟨[v], []⟩ [("script", v)]) ∧ ∀ base : Heap, K.In base → base.Ns mainGlobals mg → FnOk l.prog w K mg base CX0 3 fa fd ["script"] (sp_law K) := by
  have e := hfa.symm.trans (PySem.W.mg_of X G a5)
  cases e
  have F0 := fun_mk (st := s__law_draws) l0 c0 k0
  have F1 := fun_mk (st := s_square_product) l1 c1 k1
  have F2 := fun_mk (st := s__law_sum) l2 c2 k2
  have F3 := fun_mk (st := s_twos) l3 c3 k3
  have F4 := fun_mk (st := s_is_three_squares) l4 c4 k4
  have F5 := fun_mk (st := s_law) l5 c5 k5
  have b0 := F0.binds (ps := ["script", "many"]) fun _ _ _ _ _ _ us hl => match us, hl with | [_, _], _ => rfl
  have b1 := F1.binds (ps := ["first", "second"]) fun _ _ _ _ _ _ us hl => match us, hl with | [_, _], _ => rfl
  have b2 := F2.binds (ps := ["numbers"]) fun _ _ _ _ _ _ us hl => match us, hl with | [_], _ => rfl
  have b3 := F3.binds (ps := ["n"]) fun _ _ _ _ _ _ us hl => match us, hl with | [_], _ => rfl
  have b4 := F4.binds (ps := ["n"]) fun _ _ _ _ _ _ us hl => match us, hl with | [_], _ => rfl
  refine ⟨PySem.W.fnOf "law" "law" (defArgs s_law) (defBody s_law) (defScope s_law) .none kV5 dc5 pm5 an5 cd5 ct5, fun s v => .of_eq rfl, fun base _ _ => ?_⟩
  have m_range := PySem.W.mg_none_of X G z_range
  have m_abs := PySem.W.mg_none_of X G z_abs
  have m_len := PySem.W.mg_none_of X G z_len
  have m_int := PySem.W.mg_none_of X G z_int
  have m_sum := PySem.W.mg_none_of X G z_sum
  have m_isinstance := PySem.W.mg_none_of X G z_isinstance
  have m_tuple := PySem.W.mg_none_of X G z_tuple
  have C__law_draws : Cal l.prog w K mg base "_law_draws" 1 ["script", "many"] (sp__law_draws K) := ⟨_, _, ok__law_draws F0 m_range m_abs m_len m_int, PySem.W.mg_of X G a0, F0.kp, b0⟩
  have C_square_product : Cal l.prog w K mg base "square_product" 1 ["first", "second"] (sp_square_product K) := ⟨_, _, ok_square_product F1 , PySem.W.mg_of X G a1, F1.kp, b1⟩
  have C__law_sum : Cal l.prog w K mg base "_law_sum" 1 ["numbers"] (sp__law_sum K) := ⟨_, _, ok__law_sum F2 m_sum, PySem.W.mg_of X G a2, F2.kp, b2⟩
  have C_twos : Cal l.prog w K mg base "twos" 1 ["n"] (sp_twos K) := ⟨_, _, ok_twos F3 , PySem.W.mg_of X G a3, F3.kp, b3⟩
  have C_is_three_squares : Cal l.prog w K mg base "is_three_squares" 2 ["n"] (sp_is_three_squares K) := ⟨_, _, ok_is_three_squares F4 C_twos, PySem.W.mg_of X G a4, F4.kp, b4⟩
  exact ok_law F5 C__law_draws C_square_product C__law_sum C_is_three_squares m_range m_isinstance m_tuple
end RR
open PySem PySem.W PyProof.Rows
set_option maxHeartbeats 0 in
theorem PySem.Challenge.cw_runroots_k61_products_of_sums_holds : PySem.Challenge.rw_runroots_k61_products_of_sums.Holds := by
  w_on; o_law; k_head; (case hw => w_witness2)
  k_fill
  refine L2.walk_of (l := PySem.Challenge.rw_runroots_k61_products_of_sums) (n := 63) (k := 3) (x := "script") (CX := fun _ => L2.CX0) (sp := fun w => RR.sp_law _) rfl (by decide) rfl ⟨rfl, by decide, by decide⟩ (fun w h Y => PySem.W.kIn_of Y) ?F (fun _ _ a ns hl _ hS => ⟨a, ns, rfl, hS, hl, fun _ => rfl⟩) (fun _ _ _ _ _ h => h)
  case F =>
    intro w mg fa h KX G hmg
    refine' RR.all_mk KX G hmg ?a0 ?l0 ?c0 ?k0 ?a1 ?l1 ?c1 ?k1 ?a2 ?l2 ?c2 ?k2 ?a3 ?l3 ?c3 ?k3 ?a4 ?l4 ?c4 ?k4 ?a5 ?l5 ?c5 ?k5 ?z_range ?z_abs ?z_len ?z_int ?z_sum ?z_isinstance ?z_tuple
    (case a0 => k_is); (case l0 => k_is); (case c0 => k_is); (case k0 => k_is); (case a1 => k_is); (case l1 => k_is); (case c1 => k_is); (case k1 => k_is); (case a2 => k_is); (case l2 => k_is); (case c2 => k_is); (case k2 => k_is); (case a3 => k_is); (case l3 => k_is); (case c3 => k_is); (case k3 => k_is); (case a4 => k_is); (case l4 => k_is); (case c4 => k_is); (case k4 => k_is); (case a5 => k_is); (case l5 => k_is); (case c5 => k_is); (case k5 => k_is); (case z_range => k_is); (case z_abs => k_is); (case z_len => k_is); (case z_int => k_is); (case z_sum => k_is); (case z_isinstance => k_is); (case z_tuple => k_is)
