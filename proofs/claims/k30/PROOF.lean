import PyProof.Rows.All
import PyProof.FString3
import PyProof.Rows.StrIntSpec
import HandS.ForMost
import HandS.FStr
import HandS.Wide
import HandS.WideBits
import HandS.Style
import HandS.Star
import HandS.RevRange
import HandS.EndBits
import HandS.IsInst
import HandS.Deep
import PySem.Challenge.RW_runroots_k30_pairs_and_their_indexes
set_option Elab.async false
set_option linter.all false
set_option maxRecDepth 100000
set_option maxHeartbeats 1000000
namespace RR
open PySem PySem.Spec PyProof.Rows L2 PySem.Builtin PySem.Builtin.Float
/-- a number's signs to the base two -/
def binL (n : Nat) : List Nat := (Nat.toDigits 2 n).map Char.toNat
def binS (n : Nat) : Str := ⟨(binL n).toArray⟩
def specB : FormatSpec := { align := 62, type := some 98 }
theorem parse_b (k : String) : parseFormatSpec (Str.ofString "b").cps.toList k 62 = .ok specB := rfl
theorem field_b {D : List Nat} (hD : D ≠ []) : intField' specB false [] D [] 4 = ⟨D.toArray⟩ := by
  have e : D.isEmpty = false := by cases D with
    | nil => exact absurd rfl hD
    | cons _ _ => rfl
  have p : ((-1 : Int) - 0 - (D.length : Int)).toNat = 0 := by omega
  simp [intField', specB, e, p]
theorem binL_ne (n : Nat) : binL n ≠ [] := by
  intro h
  have h2 : Nat.toDigits 2 n = [] := List.map_eq_nil_iff.mp h
  have := Nat.length_toDigits_pos (b := 2) (n := n)
  rw [h2] at this
  exact absurd this (by simp)
section
variable {prog : Program} {w : World} {A : Around} {E : Value → Shared → Prop} {s : Shared}
theorem bin_spec {n : Nat} {t : Tok} {Q : Value → Shared → Prop} (hl : (binS n).length ≤ sizeLine)
    (h : Q (.str (binS n) (s.toks + 1)) { s with toks := s.toks + 1 + 1 }) : wpAny (model prog w) A (formatField (.int (n : Int) t) (Str.ofString "b")) Q E s := by
  show wpAny _ _ (holding [Value.int (n : Int) t] (pyFormat (Value.int (n : Int) t) (Str.ofString "b"))) Q E s
  refine wpAny_holding ?_
  unfold pyFormat
  refine wpAny_bind (wpAny_mkStr ?_ (by decide))
  refine wpAny_bind (m := callSpecial? (.int (n : Int) t) (Str.ofString "__format__") [.str (Str.ofString "b") s.toks])
    (wpAny_callSpecial?_slot (name := Str.ofString "__format__") (typeIs_int _ _ t) slot_int_format ?_)
  refine wpAny_call (codeAny_call_builtin slot_int_format.plain entry_int_format
    (slot_int_format.check _ _ _ _ _ _ _ _ (typeIs_int _ _ t) (args_int_format _ _) ?_))
  unfold Builtin.«int.__format__»
  simp only [selfAndOne, noKeywords, Int.intOfSelf, asInt?, asStr?, List.isEmpty_nil, if_true, pure_bind, bind_assoc, Bool.false_eq_true, if_false,
    show ((Str.ofString "b").length == 0) = false by decide,
    show (((Str.ofString "b").cps.toList.drop 1).any (· ≥ 128) || ((Str.ofString "b").cps.getD 0 0 ≥ 128 && !([60, 62, 61, 94] : List Nat).contains ((Str.ofString "b").cps.getD 1 0))) = false by decide,
    show (Value.str (Str.ofString "b") s.toks == Value.none) = false from rfl]
  refine wpAny_bind (wpAny_typeNameOf (T := "str") (typeIs_str _ _ _) (by decide) fun _ => ?_)
  refine wpAny_bind (wpAny_typeNameOfCut_int ?_)
  obtain ⟨f, hf⟩ : ∃ f, f = specB := ⟨_, rfl⟩
  have hty : f.type.getD (if (Str.ofString "b").cps.back? == some 0 then 0 else 100) = 98 := by rw [hf]; rfl
  have hpr : f.precision.isSome = false := by rw [hf]; rfl
  have hz : f.noNeg0 = false := by rw [hf]; rfl
  have hal : f.alt = false := by rw [hf]; rfl
  have hw : f.width.getD 0 = 0 := by rw [hf]; rfl
  simp only [parse_b, ← hf, hty]
  rw [if_pos (by decide)]
  show wpAny _ _ (if _ then _ else _) _ _ _
  rw [if_neg (by simp [hpr])]
  show wpAny _ _ (if _ then _ else _) _ _ _
  rw [if_neg (by simp [hz])]
  show wpAny _ _ (if _ then _ else _) _ _ _
  rw [if_neg (by decide)]
  show wpAny _ _ (if _ then _ else _) _ _ _
  rw [if_neg (by decide)]
  show wpAny _ _ (if _ then _ else _) _ _ _
  rw [if_neg (by simp [hw])]
  show wpAny _ _ (retStr _) _ _ _
  unfold retStr
  have hneg : decide ((n : Int) < 0) = false := decide_eq_false (by omega)
  have key : intField' f (decide ((n : Int) < 0)) (if f.alt = true then [] else []) ((Nat.toDigits 2 (n : Int).natAbs).map fun c => (if (98 : Nat) == 88 then c.toUpper else c).toNat) [] 4 = binS n := by
    rw [hneg, hf]
    exact field_b (binL_ne n)
  have hl2 := key ▸ hl
  have h2 := key ▸ h
  clear h hl
  subst hf
  refine wpAny_bind (wpAny_mkStr (wpAny_pure ?_) hl2)
  exact wpAny_bind (wpAny_isInstance (typeIs_str _ _ _) isSubtype_str_str (wpAny_pure h2))
end
end RR
namespace RR
open PySem PySem.Spec PyProof.Rows L2
section
variable {X : Cx}
/-- f'{x:b}' of an int from 0 on -/
def tFmtB (te : TE) : TE := fun σ H Q => te σ H fun x H1 => ∃ n : Nat, x = .int n ∧ (binS n).length ≤ sizeLine ∧ Q (.str (binS n)) H1
theorem pe_fmtB {e : Expr} {te : TE} {k : Nat} {p1 p2 p3 p4 : Pos} (he : PE X e te) :
    PE X (.JoinedStr [.FormattedValue e (-1) (some (.JoinedStr [.Constant (.str "b") k p1] p2)) p3] p4) (tFmtB te) := by
  refine pe_joined1 ⟨fun pins s σ H Q I h => ?_⟩
  refine wpAny_FormattedValue_spec (thn (he.run pins s σ H _ I h) fun v s1 hv => ?_)
  obtain ⟨x, H1, I1, r1, n, rfl, hl, q⟩ := hv
  obtain ⟨t, rfl⟩ := r1
  refine wpAny_JoinedStr_one (Calls.Constant_str ⟨_, _, rfl, ?_⟩)
  exact bin_spec hl ⟨.str (binS n), H1, (I1.tok _).tok _, ⟨_, rfl⟩, q⟩
end
end RR

namespace RR
open PySem PySem.Spec PyProof.Rows L2
/-- a def of the text, as callers see it -/
structure Cal (P : Program) (w : World) (K : PySem.W.Frag) (mg : Str → Option Value) (base : Heap) (x : Str) (k : Nat) (ps : List Str) (sp : Sp) : Prop where
  ex : ∃ (f : Addr) (fd : FuncData), FnOk P w K mg base L2.CX0 k f fd ps sp ∧ mg x = some (.ref f) ∧ PySem.W.keepIn K (.ref f) = true ∧ Binds K fd ps []
theorem Cal.mk' {P : Program} {w : World} {K : PySem.W.Frag} {mg : Str → Option Value} {base : Heap} {x : Str} {k : Nat} {ps : List Str} {sp : Sp} {f : Addr} {fd : FuncData}
    (F : FnOk P w K mg base L2.CX0 k f fd ps sp) (g : mg x = some (.ref f)) (kp : PySem.W.keepIn K (.ref f) = true) (b : Binds K fd ps []) : Cal P w K mg base x k ps sp := ⟨f, fd, F, g, kp, b⟩
section
variable {X : Cx}
def tCal (sp : Sp) (t : TA) : TE := fun σ H Q => t σ H fun vs H1 => sp vs H1 Q L2.E0
theorem pe_cal {x : Str} {k : Nat} {ps : List Str} {sp : Sp} {p pos : Pos} {e : Expr} {es : List Expr} {t : TA} (C : Cal X.prog X.w X.K X.mg X.base x k ps sp) (hr : Room k X.A) (hg : Gl X x) (ha : PA X (e :: es) t)
    (hdb : (x == ("__debug__" : Str)) = false := by decide) (he : starEach (e :: es) X.env = (false, eval e X.env) :: starEach es X.env := by rfl) (hpl : (backTo pos (starEach es X.env)).any (·.1) = false := by rfl) :
    PE X (.Call (.Name x p) (e :: es) [] pos) (tCal sp t) := by
  obtain ⟨f, fd, F, g, kp, b⟩ := C.ex
  have h := pe_call (p := p) (pos := pos) F hr hg g kp b .nil L2.pass0 ha hdb he hpl
  refine ⟨fun pins s σ H Q I q => h.run pins s σ H Q I ?_⟩
  have e0 : tCall sp [] L2.E0 t σ H Q = tCal sp t σ H Q := by
    unfold tCall tCal
    simp only [List.append_nil]
  rw [e0]
  exact q
end
/-- int(x) of an int -/
theorem call_intI {X : Cx} : CallR X (.type "int") (fun xs H Q => ∃ i, xs = [.int i] ∧ Q (.int i) H) := fun pins s σ H xs us Q I r h => call_int1 pins s σ H xs us Q I r (.inl h)
/-- a loop over a text's signs -/
theorem for_str {x : Str} {g : TG} {tb : TS} {D : Ends} {σ : L2.St} {H : Hp} (Pv : Nat → L2.St → Hp → Prop) (h0 : Pv 0 σ H)
    (hs : ∀ i c σ H, x.cps[i]? = some c → Pv i σ H → g (.str ⟨#[c]⟩) σ H fun σ2 H2 => tb { D with nx := Pv (i + 1), ct := Pv (i + 1), bk := D.nx } σ2 H2) (hd : ∀ σ H, Pv x.cps.size σ H → D.nx σ H) :
    ∃ W : Nat → Nat → L2.St → Hp → Prop, (∃ m, W 0 m σ H) ∧ ∀ i m σ H, W i m σ H →
      ((Its x).stop i H ∧ D.nx σ H) ∨ ((Its x).go i H ∧ ∃ N : L2.St → Hp → Prop, (∀ σ' H', N σ' H' → ∃ m', m' < m ∧ W (i + 1) m' σ' H') ∧ ∀ v H', (Its x).yld i H v H' → g v σ H' fun σ2 H2 => tb { D with nx := N, ct := N, bk := D.nx } σ2 H2) := by
  refine ⟨fun i m σ H => m = x.cps.size - i ∧ i ≤ x.cps.size ∧ Pv i σ H, ⟨x.cps.size, by simp, Nat.zero_le _, h0⟩, ?_⟩
  rintro i m σ H ⟨rfl, hi, p⟩
  by_cases hlt : i < x.cps.size
  · refine .inr ⟨hlt, Pv (i + 1), fun σ' H' p' => ⟨x.cps.size - (i + 1), by omega, rfl, hlt, p'⟩, fun v H' y => ?_⟩
    obtain ⟨e, c, hc, e2⟩ := y
    subst e e2
    exact hs i c σ _ hc p
  · have e : i = x.cps.size := by omega
    subst e
    exact .inl ⟨Nat.le_refl _, hd σ H p⟩
/-- for k in range(n), the turn's number from 0 on -/
theorem for_rng {n : Nat} {g : TG} {tb : TS} {D : Ends} {σ : L2.St} {H : Hp} (Pv : Nat → L2.St → Hp → Prop) (h0 : Pv 0 σ H)
    (hs : ∀ i σ H, i < n → Pv i σ H → g (.int (i : Int)) σ H fun σ2 H2 => tb { D with nx := Pv (i + 1), ct := Pv (i + 1), bk := D.nx } σ2 H2) (hd : ∀ σ H, Pv n σ H → D.nx σ H) :
    ∃ W : Nat → Nat → L2.St → Hp → Prop, (∃ m, W 0 m σ H) ∧ ∀ i m σ H, W i m σ H →
      ((Itr 0 n).stop i H ∧ D.nx σ H) ∨ ((Itr 0 n).go i H ∧ ∃ N : L2.St → Hp → Prop, (∀ σ' H', N σ' H' → ∃ m', m' < m ∧ W (i + 1) m' σ' H') ∧
        ∀ x H', (Itr 0 n).yld i H x H' → g x σ H' fun σ2 H2 => tb { D with nx := N, ct := N, bk := D.nx } σ2 H2) :=
  for_range (lo := 0) (n := n) (g := g) (tb := tb) (D := D) Pv h0 (fun i σ H hi p => by rw [Int.zero_add]; exact hs i σ H hi p) hd
theorem tC_go {v : V} {σ : L2.St} {H : Hp} {Q : VK} (q : Q v H) : tC v σ H Q := q
theorem tNil_go {σ : L2.St} {H : Hp} {Q : List V → Hp → Prop} (q : Q [] H) : tNil σ H Q := q
theorem dV (x y : Int) : decide (V.int x = V.int y) = decide (x = y) := by
  by_cases h : x = y
  · rw [decide_eq_true h, decide_eq_true (by rw [h])]
  · rw [decide_eq_false h, decide_eq_false (fun e => h (V.int.inj e))]
theorem dB (x y : Bool) : decide (V.bl x = V.bl y) = decide (x = y) := by cases x <;> cases y <;> rfl
/-! heaps -/
theorem same_upd {H : Hp} {p : Addr} {o : HO} (h : H p = none) : Same H (upd H p o) := fun b x e => by
  rw [upd_ne (ne_of_none e h)]
  exact e
theorem sq_new {K : PySem.W.Frag} {H : Hp} {p : Addr} {xs : List V} : SqT K (upd H p (.tup xs)) p xs := .inl (.inl upd_same)
theorem sq_of {K : PySem.W.Frag} {H : Hp} {p : Addr} {xs : List V} (h : H p = some (.tup xs)) : SqT K H p xs := .inl (.inl h)
theorem gTup_new {K : PySem.W.Frag} {n : Nat} {t : TGs} {σ : L2.St} {H : Hp} {Q : L2.St → Hp → Prop} {p : Addr} {xs : List V} (h : xs.length = n) (q : t xs σ (upd H p (.tup xs)) Q) :
    gTup K n t (.ref p) σ (upd H p (.tup xs)) Q := ⟨p, xs, rfl, sq_new, h, q⟩
theorem gTup_as {K : PySem.W.Frag} {n : Nat} {t : TGs} {σ : L2.St} {H : Hp} {Q : L2.St → Hp → Prop} {p : Addr} {xs : List V} (hS : SqT K H p xs) (h : xs.length = n) (q : t xs σ H Q) :
    gTup K n t (.ref p) σ H Q := ⟨p, xs, rfl, hS, h, q⟩
theorem ixT_new {K : PySem.W.Frag} {H : Hp} {Q : VK} {p : Addr} {xs : List V} {i : Int} {v : V} (h : atI xs i = some v) (q : Q v (upd H p (.tup xs))) :
    rIxT K (.ref p) (.int i) (upd H p (.tup xs)) Q := ⟨p, xs, i, v, rfl, rfl, sq_new, h, q⟩
theorem ixT_as {K : PySem.W.Frag} {H : Hp} {Q : VK} {p : Addr} {xs : List V} {i : Int} {v : V} (hS : SqT K H p xs) (h : atI xs i = some v) (q : Q v H) :
    rIxT K (.ref p) (.int i) H Q := ⟨p, xs, i, v, rfl, rfl, hS, h, q⟩
theorem ixL_as {K : PySem.W.Frag} {H : Hp} {Q : VK} {p : Addr} {xs : List V} {i : Int} {v : V} (hS : SqL K H p xs) (h : atI xs i = some v) (q : Q v H) :
    rIxL K (.ref p) (.int i) H Q := ⟨p, xs, i, v, rfl, rfl, hS, h, q⟩
/-! sizes -/
/-- below 2 ^ k -/
def Sm (k : Nat) (x : Int) : Prop := x.natAbs < 2 ^ k
theorem Sm.mono {j k : Nat} {x : Int} (h : Sm j x) (l : j ≤ k) : Sm k x := Nat.lt_of_lt_of_le h (Nat.pow_le_pow_right (by omega) l)
theorem Sm.mul {j k : Nat} {x y : Int} (h : Sm j x) (l : Sm k y) : Sm (j + k) (x * y) := wide_lt h l
theorem Sm.add {k : Nat} {x y : Int} (h : Sm k x) (l : Sm k y) : Sm (k + 1) (x + y) := by
  unfold Sm at *
  have : (x + y).natAbs ≤ x.natAbs + y.natAbs := Int.natAbs_add_le x y
  rw [Nat.pow_succ]
  omega
theorem Sm.neg {k : Nat} {x : Int} (h : Sm k x) : Sm k (-x) := by
  unfold Sm at *
  omega
theorem Sm.sub {k : Nat} {x y : Int} (h : Sm k x) (l : Sm k y) : Sm (k + 1) (x - y) := by
  have := h.add l.neg
  rwa [← Int.sub_eq_add_neg] at this
theorem Sm.ad {j k : Nat} {x y : Int} (h : Sm j x) (l : Sm k y) : Sm (j + k + 1) (x + y) := (h.mono (Nat.le_add_right j k)).add (l.mono (Nat.le_add_left k j))
theorem Sm.sb {j k : Nat} {x y : Int} (h : Sm j x) (l : Sm k y) : Sm (j + k + 1) (x - y) := (h.mono (Nat.le_add_right j k)).sub (l.mono (Nat.le_add_left k j))
theorem Sm.lit {k : Nat} {x : Int} (h : x.natAbs < 2 ^ k := by decide) : Sm k x := h
theorem Sm.le {k : Nat} {x y : Int} (h : Sm k y) (h0 : 0 ≤ x) (h1 : x ≤ y) : Sm k x := by
  unfold Sm at *
  omega
theorem Sm.pw {j : Nat} {x : Int} (h : Sm j x) (n : Nat) : Sm (j * n + 1) (x ^ n) := by
  induction n with
  | zero => rw [Int.pow_zero]; exact (Sm.lit (k := 1)).mono (by omega)
  | succ n ih => rw [Int.pow_succ]; exact (ih.mul h).mono (by rw [Nat.mul_succ]; omega)
/-- what * asks -/
theorem Sm.mx {j k : Nat} {x y : Int} (h : Sm j x) (l : Sm k y) (b : j + k ≤ 134217728) : CMulX x y := mulx_ok h l b
end RR

namespace RR
open PySem PySem.Spec PyProof.Rows L2
/-- a tuple of two ints -/
def Tp (K : PySem.W.Frag) (H : Hp) (v : V) (x y : Int) : Prop := ∃ p, v = .ref p ∧ SqT K H p [.int x, .int y]
theorem Tp.of {K : PySem.W.Frag} {H : Hp} {p : Addr} {x y : Int} (h : H p = some (.tup [.int x, .int y])) : Tp K H (.ref p) x y := ⟨p, rfl, sq_of h⟩
theorem dp2 {K : PySem.W.Frag} {H : Hp} {v : V} {x y : Int} (h : Tp K H v x y) : Dp K H v (.tuple [.int x, .int y]) := by
  obtain ⟨p, rfl, h⟩ := h
  exact .tup h (.cons (.int x) (.cons (.int y) .nil))
theorem eqv2 (x y u v : Int) : PyData.eqv (.tuple [.int x, .int y]) (.tuple [.int u, .int v]) = (decide (x = u) && decide (y = v)) := by
  simp only [PyData.eqv, PyData.eqvAll, Bool.and_true]
  rfl
section
variable {X : Cx}
/-- ==, != of two tuples of two ints -/
theorem op_eq2 (hu : X.A.units + 64 < cLine) : OpR X (compareOp .Eq) (fun x y H Q => ∃ a b c d, Tp X.K H x a b ∧ Tp X.K H y c d ∧ Q (.bl (decide (a = c) && decide (b = d))) H) := by
  intro pins s σ H x y v u Q I rx ry h
  obtain ⟨a, b, c, d, h1, h2, q⟩ := h
  exact op_eqD hu pins s σ H x y v u Q I rx ry ⟨_, _, dp2 h1, dp2 h2, rfl, rfl, by rw [eqv2]; exact q⟩
theorem op_ne2 (hu : X.A.units + 64 < cLine) : OpR X (compareOp .NotEq) (fun x y H Q => ∃ a b c d, Tp X.K H x a b ∧ Tp X.K H y c d ∧ Q (.bl (!(decide (a = c) && decide (b = d)))) H) := by
  intro pins s σ H x y v u Q I rx ry h
  obtain ⟨a, b, c, d, h1, h2, q⟩ := h
  exact op_neD hu pins s σ H x y v u Q I rx ry ⟨_, _, dp2 h1, dp2 h2, rfl, rfl, by rw [eqv2]; exact q⟩
/-- a ** b of a great int -/
def CPowW (i j : Int) : Prop := 0 ≤ j ∧ (Builtin.Int.intBits i : Int) * j ≤ 2 ^ 27
theorem op_powW : OpR X (binaryOp .Pow) (rI CPowW fun i j => .int (i ^ j.toNat)) := opI fun i j _ _ _ _ _ hc q => pow_int hc.1 hc.2 q
/-- isinstance of an int -/
theorem isi_int : CallR X (.builtin "isinstance") (fun xs H Q => ∃ i : Int, xs = [.int i, .ty "int"] ∧ Q (.bl true) H) := by
  intro pins s σ H xs us Q I r h
  obtain ⟨i, rfl, q⟩ := h
  exact call_isi pins s σ H _ us Q I r ⟨.int i, .ty "int", .type "int", .type "int", true, rfl, .ty "int", .base (.int i), kit_ty (by decide +kernel), q⟩
theorem isi_bool : CallR X (.builtin "isinstance") (fun xs H Q => ∃ i : Int, xs = [.int i, .ty "bool"] ∧ Q (.bl false) H) := by
  intro pins s σ H xs us Q I r h
  obtain ⟨i, rfl, q⟩ := h
  exact call_isi pins s σ H _ us Q I r ⟨.int i, .ty "bool", .type "int", .type "bool", false, rfl, .ty "bool", .base (.int i), kit_ty (by decide +kernel), q⟩
theorem isi_list : CallR X (.builtin "isinstance") (fun xs H Q => ∃ (a : Addr) (ys : List V), xs = [.ref a, .ty "list"] ∧ H a = some (.lst ys) ∧ Q (.bl true) H) := by
  intro pins s σ H xs us Q I r h
  obtain ⟨a, ys, rfl, e, q⟩ := h
  exact call_isi pins s σ H _ us Q I r ⟨.ref a, .ty "list", .type "list", .type "list", true, rfl, .ty "list", .base (.lst e), kit_ty (by decide +kernel), q⟩
theorem isi_tup : CallR X (.builtin "isinstance") (fun xs H Q => ∃ (a : Addr) (ys : List V), xs = [.ref a, .ty "tuple"] ∧ H a = some (.tup ys) ∧ Q (.bl true) H) := by
  intro pins s σ H xs us Q I r h
  obtain ⟨a, ys, rfl, e, q⟩ := h
  exact call_isi pins s σ H _ us Q I r ⟨.ref a, .ty "tuple", .type "tuple", .type "tuple", true, rfl, .ty "tuple", .base (.tup e), kit_ty (by decide +kernel), q⟩
end
/-- an if and what follows it, once -/
theorem split_if {c : Prop} [Decidable c] {t u : TS} {D : Ends} {σ : L2.St} {H : Hp} (R : L2.St → Hp → Prop) (hR : ∀ σ' H', R σ' H' → D.nx σ' H')
    (h : ∀ D' : Ends, (∀ σ' H', R σ' H' → D'.nx σ' H') → if c then t D' σ H else u D' σ H) : if c then t D σ H else u D σ H := h D hR
theorem sm_bits {z : Int} {k : Nat} (h : Builtin.Int.intBits z ≤ k) : Sm k z := by
  unfold Builtin.Int.intBits at h
  unfold Sm
  split at h
  · rename_i e
    have e0 : z = 0 := by simpa using e
    subst e0
    exact Nat.two_pow_pos k
  · exact Nat.lt_of_lt_of_le Nat.lt_log2_self (Nat.pow_le_pow_right (by decide) h)
theorem getD_bits {ns : List Int} {k : Nat} (h : ∀ z ∈ ns, Builtin.Int.intBits z ≤ k) (i : Nat) : Sm k (ns.getD i 0) := by
  rw [List.getD_eq_getElem?_getD]
  cases e : ns[i]? with
  | none => exact Nat.two_pow_pos k
  | some z => exact sm_bits (h z (List.mem_of_getElem? e))
end RR

namespace RR
/-! the pairs of a base -/
def XY (a : Int) : Nat → Int × Int
  | 0 => (1, 0)
  | n + 1 => (a * (XY a n).1 + (a * a - 1) * (XY a n).2, (XY a n).1 + a * (XY a n).2)
def px (a : Int) (n : Nat) : Int := (XY a n).1
def py (a : Int) (n : Nat) : Int := (XY a n).2
theorem px0 (a : Int) : px a 0 = 1 := rfl
theorem py0 (a : Int) : py a 0 = 0 := rfl
theorem px1 (a : Int) (n : Nat) : px a (n + 1) = a * px a n + (a * a - 1) * py a n := rfl
theorem py1 (a : Int) (n : Nat) : py a (n + 1) = px a n + a * py a n := rfl
theorem pell (a : Int) (n : Nat) : px a n * px a n - (a * a - 1) * (py a n * py a n) = 1 := by
  induction n with
  | zero => rw [px0, py0]; omega
  | succ n ih => rw [px1, py1]; grind
theorem pxy_add (a : Int) (m n : Nat) : px a (m + n) = px a m * px a n + (a * a - 1) * (py a m * py a n) ∧ py a (m + n) = px a m * py a n + py a m * px a n := by
  induction n with
  | zero => rw [px0, py0, Nat.add_zero]; constructor <;> grind
  | succ n ih =>
    obtain ⟨h1, h2⟩ := ih
    rw [← Nat.add_assoc, px1, py1, px1, py1, h1, h2]
    constructor <;> grind
theorem px_dbl (a : Int) (n : Nat) : px a (2 * n) = 2 * px a n * px a n - 1 := by
  rw [Nat.two_mul, (pxy_add a n n).1]
  have := pell a n
  grind
theorem py_dbl (a : Int) (n : Nat) : py a (2 * n) = 2 * px a n * py a n := by
  rw [Nat.two_mul, (pxy_add a n n).2]
  grind
theorem pxy_pos {a : Int} (ha : 2 ≤ a) (n : Nat) : 0 ≤ py a n ∧ py a n < px a n := by
  induction n with
  | zero => rw [px0, py0]; omega
  | succ n ih =>
    obtain ⟨h1, h2⟩ := ih
    rw [px1, py1]
    have e1 : a * a ≥ 2 * a := Int.mul_le_mul_of_nonneg_right ha (by omega)
    have e2 : a * px a n ≥ 2 * px a n := Int.mul_le_mul_of_nonneg_right ha (by omega)
    have e3 : (a * a - 1) * py a n ≥ a * py a n := Int.mul_le_mul_of_nonneg_right (by omega) h1
    have e4 : 0 ≤ a * py a n := Int.mul_nonneg (by omega) h1
    omega
theorem px_mono1 {a : Int} (ha : 2 ≤ a) (n : Nat) : px a n ≤ px a (n + 1) := by
  obtain ⟨h1, h2⟩ := pxy_pos ha n
  rw [px1]
  have e1 : a * a ≥ 2 * a := Int.mul_le_mul_of_nonneg_right ha (by omega)
  have e2 : a * px a n ≥ 2 * px a n := Int.mul_le_mul_of_nonneg_right ha (by omega)
  have e3 : 0 ≤ (a * a - 1) * py a n := Int.mul_nonneg (by omega) h1
  omega
theorem px_mono {a : Int} (ha : 2 ≤ a) {m n : Nat} (h : m ≤ n) : px a m ≤ px a n := by
  induction h with
  | refl => exact Int.le_refl _
  | step _ ih => exact Int.le_trans ih (px_mono1 ha _)
/-! signs to the base two -/
def bval (l : List Nat) : Nat := l.foldl (fun v c => 2 * v + (c - 48)) 0
theorem bval_snoc (l : List Nat) (c : Nat) : bval (l ++ [c]) = 2 * bval l + (c - 48) := by
  unfold bval
  rw [List.foldl_append]
  rfl
theorem dig2 {d : Nat} (h : d < 2) : (Nat.digitChar d).toNat = 48 + d := by
  match d, h with
  | 0, _ => rfl
  | 1, _ => rfl
theorem binL_lt {n : Nat} (h : n < 2) : binL n = [48 + n] := by
  unfold binL
  rw [Nat.toDigits_of_lt_base h, List.map_singleton, dig2 h]
theorem binL_ge {n : Nat} (h : 2 ≤ n) : binL n = binL (n / 2) ++ [48 + n % 2] := by
  unfold binL
  rw [Nat.toDigits_of_base_le (by decide) h, List.map_append, List.map_singleton, dig2 (Nat.mod_lt _ (by decide))]
theorem bval_bin (n : Nat) : bval (binL n) = n := by
  induction n using Nat.strongRecOn with
  | ind n ih =>
    by_cases h : n < 2
    · rw [binL_lt h]
      show 2 * 0 + (48 + n - 48) = n
      omega
    · rw [binL_ge (by omega), bval_snoc, ih (n / 2) (by omega)]
      omega
theorem bin_mem (n : Nat) : ∀ c ∈ binL n, c = 48 ∨ c = 49 := by
  induction n using Nat.strongRecOn with
  | ind n ih =>
    intro c hc
    by_cases h : n < 2
    · rw [binL_lt h, List.mem_singleton] at hc
      omega
    · rw [binL_ge (by omega), List.mem_append, List.mem_singleton] at hc
      rcases hc with hc | hc
      · exact ih (n / 2) (by omega) c hc
      · omega
theorem bval_take {l : List Nat} {i c : Nat} (h : l[i]? = some c) : bval (l.take (i + 1)) = 2 * bval (l.take i) + (c - 48) := by
  rw [List.take_add_one, h]
  exact bval_snoc _ c
theorem fold_ge (m : List Nat) : ∀ v : Nat, v ≤ m.foldl (fun v c => 2 * v + (c - 48)) v := by
  induction m with
  | nil => intro v; exact Nat.le_refl _
  | cons c m ih =>
    intro v
    have := ih (2 * v + (c - 48))
    rw [List.foldl_cons]
    omega
theorem bval_app (l m : List Nat) : bval l ≤ bval (l ++ m) := by
  unfold bval
  rw [List.foldl_append]
  exact fold_ge m _
theorem bval_le (l : List Nat) (i : Nat) : bval (l.take i) ≤ bval l := by
  have := bval_app (l.take i) (l.drop i)
  rwa [List.take_append_drop] at this
theorem bin_len {n k : Nat} (h : n < 2 ^ k) (hk : 0 < k) : (binS n).length ≤ k := by
  show (binL n).toArray.size ≤ k
  rw [List.size_toArray]
  unfold binL
  rw [List.length_map]
  exact (Nat.length_toDigits_le_iff (by decide) hk).mpr h
end RR
namespace RR
theorem rest_dx (a : Int) (v : Nat) (m : Int) : (2 * (px a v % m) * (px a v % m) - 1) % m = (2 * px a v * px a v - 1) % m := by
  rw [Int.sub_emod, Int.mul_emod, Int.mul_emod 2, Int.emod_emod, ← Int.mul_emod 2, ← Int.mul_emod, ← Int.sub_emod]
theorem rest_dy (a : Int) (v : Nat) (m : Int) : (2 * (px a v % m) * (py a v % m)) % m = (2 * px a v * py a v) % m := by
  rw [Int.mul_emod, Int.mul_emod 2, Int.emod_emod, Int.emod_emod, ← Int.mul_emod 2, ← Int.mul_emod]
theorem modeq {m a b : Int} (k : Int) (h : a - b = m * k) : a % m = b % m :=
  Int.emod_eq_emod_iff_emod_sub_eq_zero.mpr (Int.emod_eq_zero_of_dvd ⟨k, h⟩)
theorem rest_nx (a x y m : Int) : (a * x + (a * a - 1) * y) % m = ((a % m) * (x % m) + ((a % m) * (a % m) - 1) * (y % m)) % m := by
  have h1 := Int.mul_ediv_add_emod a m
  have h2 := Int.mul_ediv_add_emod x m
  have h3 := Int.mul_ediv_add_emod y m
  generalize a % m = A at *
  generalize x % m = X at *
  generalize y % m = Y at *
  generalize a / m = q1 at *
  generalize x / m = q2 at *
  generalize y / m = q3 at *
  exact modeq (q1 * x + A * q2 + (a * a - 1) * q3 + q1 * (a + A) * Y) (by grind)
theorem rest_ny (a x y m : Int) : (x + a * y) % m = ((x % m) + (a % m) * (y % m)) % m := by
  have h1 := Int.mul_ediv_add_emod a m
  have h2 := Int.mul_ediv_add_emod x m
  have h3 := Int.mul_ediv_add_emod y m
  generalize a % m = A at *
  generalize x % m = X at *
  generalize y % m = Y at *
  generalize a / m = q1 at *
  generalize x / m = q2 at *
  generalize y / m = q3 at *
  exact modeq (q2 + q1 * y + A * q3) (by grind)
end RR
namespace RR
theorem px_step {a : Int} (ha : 2 ≤ a) (n : Nat) : (a * a - 1) * py a n ≤ a * px a n := by
  induction n with
  | zero => rw [px0, py0]; omega
  | succ n ih =>
    obtain ⟨h1, h2⟩ := pxy_pos ha n
    rw [px1, py1]
    have : a * (a * px a n + (a * a - 1) * py a n) - (a * a - 1) * (px a n + a * py a n) = px a n := by grind
    omega
theorem px_pow {a : Int} (ha : 2 ≤ a) (n : Nat) : px a n ≤ (2 * a) ^ n := by
  induction n with
  | zero => rw [px0, Int.pow_zero]; exact Int.le_refl _
  | succ n ih =>
    have h := px_step ha n
    rw [px1, Int.pow_succ]
    have e := Int.mul_le_mul_of_nonneg_right ih (show 0 ≤ 2 * a by omega)
    have : px a n * (2 * a) = a * px a n + a * px a n := by grind
    omega
theorem px_nat {a : Int} (ha : 2 ≤ a) (n B : Nat) (hB : 2 * a ≤ 2 ^ B) : (px a n).natAbs < 2 ^ (B * n + 1) := by
  have h := px_pow ha n
  have h0 := pxy_pos ha n
  have h2 : (2 * a) ^ n ≤ ((2 : Int) ^ B) ^ n := by
    have hp : ∀ k : Nat, (2 * a) ^ k ≤ ((2 : Int) ^ B) ^ k ∧ 0 ≤ (2 * a) ^ k := by
      intro k
      induction k with
      | zero => exact ⟨by rw [Int.pow_zero, Int.pow_zero]; exact Int.le_refl _, by rw [Int.pow_zero]; decide⟩
      | succ k ih =>
        rw [Int.pow_succ, Int.pow_succ]
        exact ⟨Int.mul_le_mul ih.1 hB (by omega) (Int.le_trans ih.2 ih.1), Int.mul_nonneg ih.2 (by omega)⟩
    exact (hp n).1
  have e : ((2 : Int) ^ B) ^ n = ((2 ^ (B * n) : Nat) : Int) := by
    rw [← Int.pow_mul]
    exact (Int.natCast_pow 2 (B * n)).symm
  rw [e] at h2
  rw [Nat.pow_succ]
  generalize (2 : Nat) ^ (B * n) = P at *
  omega
/-- what a power of x leaves -/
theorem px_power (a x : Int) (n : Nat) : ∃ k, px a n - py a n * (a - x) - x ^ n = (2 * a * x - x * x - 1) * k := by
  induction n with
  | zero => exact ⟨0, by rw [px0, py0, Int.pow_zero]; omega⟩
  | succ n ih =>
    obtain ⟨k, hk⟩ := ih
    refine ⟨x * k + py a n, ?_⟩
    rw [px1, py1, Int.pow_succ]
    grind
theorem px_cong (a b m : Int) (k : Int) (h : a - b = m * k) (n : Nat) : (∃ q, px a n - px b n = m * q) ∧ ∃ q, py a n - py b n = m * q := by
  induction n with
  | zero => exact ⟨⟨0, by rw [px0, px0]; omega⟩, ⟨0, by rw [py0, py0]; omega⟩⟩
  | succ n ih =>
    obtain ⟨⟨q, hq⟩, ⟨r, hr⟩⟩ := ih
    refine ⟨⟨k * px a n + b * q + (a * a - 1) * r + k * (a + b) * py b n, ?_⟩, ⟨q + k * py a n + b * r, ?_⟩⟩
    · rw [px1, px1]; grind
    · rw [py1, py1]; grind
end RR
namespace RR
theorem px_rec (a : Int) (k : Nat) : px a (k + 2) = 2 * a * px a (k + 1) - px a k := by
  rw [px1 a (k + 1), px1, py1]; grind
theorem py_rec (a : Int) (k : Nat) : py a (k + 2) = 2 * a * py a (k + 1) - py a k := by
  rw [py1 a (k + 1), px1, py1]; grind
theorem rest_rec {a m x2 X2 x1 X1 : Int} (h2 : x2 % m = X2 % m) (h1 : x1 % m = X1 % m) : (2 * a * x2 - x1) % m = (2 * a * X2 - X1) % m := by
  have e1 := Int.mul_ediv_add_emod x2 m
  have e2 := Int.mul_ediv_add_emod X2 m
  have e3 := Int.mul_ediv_add_emod x1 m
  have e4 := Int.mul_ediv_add_emod X1 m
  rw [h2] at e1
  rw [h1] at e3
  generalize X2 % m = A at *
  generalize X1 % m = B at *
  exact modeq (2 * a * (x2 / m - X2 / m) - (x1 / m - X1 / m)) (by grind)
theorem rest_dx' {a x : Int} {v : Nat} {m : Int} (h : x % m = px a v % m) : (2 * x * x - 1) % m = px a (2 * v) % m := by
  rw [px_dbl, ← rest_dx a v m, ← h]
  have e1 := Int.mul_ediv_add_emod x m
  generalize x % m = A at *
  exact modeq (2 * (x / m) * (x + A)) (by grind)
theorem rest_dy' {a x y : Int} {v : Nat} {m : Int} (h : x % m = px a v % m) (h' : y % m = py a v % m) : (2 * x * y) % m = py a (2 * v) % m := by
  rw [py_dbl, ← rest_dy a v m, ← h, ← h']
  have e1 := Int.mul_ediv_add_emod x m
  have e2 := Int.mul_ediv_add_emod y m
  generalize x % m = A at *
  generalize y % m = B at *
  exact modeq (2 * (x / m) * y + 2 * A * (y / m)) (by grind)
theorem rest_nx' {a x y : Int} {v : Nat} {m : Int} (h : x % m = px a v % m) (h' : y % m = py a v % m) : (a * x + (a * a - 1) * y) % m = px a (v + 1) % m := by
  rw [px1, rest_nx a x y, rest_nx a (px a v), h, h']
theorem rest_ny' {a x y : Int} {v : Nat} {m : Int} (h : x % m = px a v % m) (h' : y % m = py a v % m) : (x + a * y) % m = py a (v + 1) % m := by
  rw [py1, rest_ny a x y, rest_ny a (px a v), h, h']
/-- the value of signs, the lowest first -/
def lval : List Int → Nat
  | [] => 0
  | d :: r => d.toNat + 2 * lval r
theorem lval_app (l : List Int) (d : Int) : lval (l ++ [d]) = lval l + 2 ^ l.length * d.toNat := by
  induction l with
  | nil => show d.toNat + 2 * 0 = 0 + 2 ^ 0 * d.toNat; omega
  | cons c l ih =>
    show c.toNat + 2 * lval (l ++ [d]) = c.toNat + 2 * lval l + 2 ^ (l.length + 1) * d.toNat
    rw [ih, Nat.pow_succ, Nat.mul_add, Nat.mul_comm (2 ^ l.length) 2, Nat.mul_assoc]
    omega
theorem lval_drop {l : List Int} {i : Nat} {d : Int} (h : l[i]? = some d) : lval (l.drop i) = d.toNat + 2 * lval (l.drop (i + 1)) := by
  obtain ⟨hi, e⟩ := List.getElem?_eq_some_iff.mp h
  rw [List.drop_eq_getElem_cons hi, e]
  rfl
end RR
namespace RR
theorem rest_addx (a m : Int) (i j : Nat) : ((px a i % m) * (px a j % m) + (a * a - 1) * (py a i % m) * (py a j % m)) % m = px a (i + j) % m := by
  rw [(pxy_add a i j).1]
  have e1 := Int.mul_ediv_add_emod (px a i) m
  have e2 := Int.mul_ediv_add_emod (px a j) m
  have e3 := Int.mul_ediv_add_emod (py a i) m
  have e4 := Int.mul_ediv_add_emod (py a j) m
  generalize px a i % m = A at *
  generalize px a j % m = B at *
  generalize py a i % m = C at *
  generalize py a j % m = D at *
  exact (modeq ((px a i / m) * px a j + A * (px a j / m) + (a * a - 1) * ((py a i / m) * py a j + C * (py a j / m))) (by grind)).symm
theorem rest_addy (a m : Int) (i j : Nat) : ((px a i % m) * (py a j % m) + (py a i % m) * (px a j % m)) % m = py a (i + j) % m := by
  rw [(pxy_add a i j).2]
  have e1 := Int.mul_ediv_add_emod (px a i) m
  have e2 := Int.mul_ediv_add_emod (px a j) m
  have e3 := Int.mul_ediv_add_emod (py a i) m
  have e4 := Int.mul_ediv_add_emod (py a j) m
  generalize px a i % m = A at *
  generalize px a j % m = B at *
  generalize py a i % m = C at *
  generalize py a j % m = D at *
  exact (modeq ((px a i / m) * py a j + A * (py a j / m) + (py a i / m) * px a j + C * (px a j / m)) (by grind)).symm
end RR
namespace RR
theorem sq_lt {g k e : Nat} (h : g < 2 ^ e) (hk : k < 4) (he : 3 ≤ e) : g * g + k < 2 ^ (e * 2) := by
  have h8 : 2 ^ 3 ≤ 2 ^ e := Nat.pow_le_pow_right (by decide) he
  rw [Nat.pow_mul, Nat.pow_two]
  generalize 2 ^ e = P at *
  have h1 := Nat.mul_le_mul (show g + 1 ≤ P from h) (show g + 1 ≤ P from h)
  have h2 := Nat.mul_le_mul h8 h8
  have h3 : (g + 1) * (g + 1) = g * g + 2 * g + 1 := by grind
  by_cases hg : g < 2
  · have : g * g ≤ 1 * 1 := Nat.mul_le_mul (by omega) (by omega)
    omega
  · omega
end RR

namespace RR
open PySem PySem.Spec PyProof.Rows L2
section
variable {X : Cx}
/-- f(*y) -/
theorem pe_calS {x : Str} {k : Nat} {ps : List Str} {sp : Sp} {p pos sp_ : Pos} {e : Expr} {te : TE} (C : Cal X.prog X.w X.K X.mg X.base x k ps sp) (hr : Room k X.A) (hg : Gl X x) (he : PE X e te)
    (hd : (x == ("__debug__" : Str)) = false := by decide) (hst : starEach [.Starred e sp_] X.env = [(true, eval e X.env)] := by rfl) :
    PE X (.Call (.Name x p) [.Starred e sp_] [] pos) (fun σ H Q => te σ H fun y H1 => ∃ a xs, y = V.ref a ∧ (SqT X.K H1 a xs ∨ SqL X.K H1 a xs) ∧ sp xs H1 Q L2.E0) := by
  obtain ⟨f, fd, F, g, kp, b⟩ := C.ex
  have h := StX.pe_callS1 (p := p) (pos := pos) (sp_ := sp_) (F.raw b .nil) hr kp hg g L2.pass0 he hd hst
  refine ⟨fun pins s σ H Q I q => h.run pins s σ H Q I ?_⟩
  simp only [List.append_nil]
  exact q
end
/-- for x in reversed(xs) -/
theorem for_rev {K : PySem.W.Frag} {a : Addr} {xs : List V} {g : TG} {tb : TS} {D : Ends} {σ : L2.St} {H : Hp} (Pv : Nat → L2.St → Hp → Prop) (h0 : Pv 0 σ H) (hl : ∀ i σ H, i ≤ xs.length → Pv i σ H → SqL K H a xs)
    (hs : ∀ i x σ H, i < xs.length → xs[xs.length - 1 - i]? = some x → Pv i σ H → g x σ H fun σ2 H2 => tb { D with nx := Pv (i + 1), ct := Pv (i + 1), bk := D.nx } σ2 H2) (hd : ∀ σ H, Pv xs.length σ H → D.nx σ H) :
    ∃ W : Nat → Nat → L2.St → Hp → Prop, (∃ m, W 0 m σ H) ∧ ∀ i m σ H, W i m σ H →
      ((Itv K a xs.length).stop i H ∧ D.nx σ H) ∨ ((Itv K a xs.length).go i H ∧ ∃ N : L2.St → Hp → Prop, (∀ σ' H', N σ' H' → ∃ m', m' < m ∧ W (i + 1) m' σ' H') ∧
        ∀ x H', (Itv K a xs.length).yld i H x H' → g x σ H' fun σ2 H2 => tb { D with nx := N, ct := N, bk := D.nx } σ2 H2) := by
  refine ⟨fun i m σ H => m = xs.length - i ∧ i ≤ xs.length ∧ Pv i σ H, ⟨xs.length, by simp, Nat.zero_le _, h0⟩, ?_⟩
  rintro i m σ H ⟨rfl, hi, p⟩
  have q := hl i σ H hi p
  by_cases hlt : i < xs.length
  · have hix : xs[xs.length - 1 - i]? = some (xs[xs.length - 1 - i]'(by omega)) := List.getElem?_eq_getElem (by omega)
    refine .inr ⟨⟨hlt, xs, _, q, hix⟩, Pv (i + 1), fun σ' H' p' => ⟨xs.length - (i + 1), by omega, rfl, hlt, p'⟩, fun x H' y => ?_⟩
    obtain ⟨e, y⟩ := y
    subst e
    exact hs i x σ _ hlt (y xs q) p
  · have e : i = xs.length := by omega
    subst e
    exact .inl ⟨Nat.le_refl _, hd σ H p⟩
theorem Same.new {H H1 : Hp} {p : Addr} {o : HO} (s : Same H H1) (h : H p = none) : Same H (upd H1 p o) := fun b u e => by
  rw [upd_ne (ne_of_none e h)]
  exact s b u e
theorem px_ge {a : Int} (ha : 2 ≤ a) (n : Nat) : ((2 ^ n : Nat) : Int) ≤ px a n := by
  induction n with
  | zero => rw [px0]; decide
  | succ n ih =>
    obtain ⟨h1, h2⟩ := pxy_pos ha n
    rw [px1]
    have e1 : a * a ≥ 2 * a := Int.mul_le_mul_of_nonneg_right ha (by omega)
    have e2 : a * px a n ≥ 2 * px a n := Int.mul_le_mul_of_nonneg_right ha (by omega)
    have e3 : 0 ≤ (a * a - 1) * py a n := Int.mul_nonneg (by omega) h1
    rw [Nat.pow_succ]
    push_cast at *
    omega
theorem px_ix {a : Int} (ha : 2 ≤ a) {n B : Nat} (h : Sm B (px a n)) : n < B := by
  have h1 := px_ge ha n
  have h2 := pxy_pos ha n
  unfold Sm at h
  by_cases c : n < B
  · exact c
  · have := Nat.pow_le_pow_right (n := 2) (by decide) (show B ≤ n by omega)
    omega
theorem app_go {H : Hp} {Q : VK} {p : Addr} {v : V} {xs : List V} (h : H p = some (.lst xs)) (hl : xs.length < sizeLine) (q : Q .non (upd H p (.lst (xs ++ [v])))) : rAppend (.ref p) [v] H Q :=
  ⟨p, xs, v, rfl, rfl, h, hl, q⟩
theorem atI_neg {α : Type} {xs : List α} {k : Nat} {v : α} (h0 : 0 < k) (hk : k ≤ xs.length) (h : xs[xs.length - k]? = some v) : atI xs (-(k : Int)) = some v := by
  unfold atI ixN
  rw [if_neg (by omega), if_pos (by omega)]
  show xs[(-(k : Int) + xs.length).toNat]? = some v
  rw [show (-(k : Int) + xs.length).toNat = xs.length - k by omega]
  exact h
theorem cut_take (xs : List V) (n : Nat) (h : n ≤ xs.length) : cutV xs none (some (n : Int)) = xs.take n := by
  unfold cutV
  rw [HT.sIx_none, HT.sIx_nat, Nat.min_eq_left h, List.drop_zero, Nat.sub_zero]
/-- at L a list of the pairs with the indexes 0, 1, .. -/
def PL (a : Int) (H : Hp) (L : Addr) (n : Nat) : Prop := ∃ ps : List Addr, ps.length = n ∧ H L = some (.lst (ps.map V.ref)) ∧ ∀ (i : Nat) (p : Addr), ps[i]? = some p → H p = some (.tup [.int (px a i), .int (py a i)])
theorem PL.keep {a : Int} {H H' : Hp} {L : Addr} {n : Nat} (h : PL a H L n) (s : Same H H') : PL a H' L n := by
  obtain ⟨ps, e, hL, hp⟩ := h
  exact ⟨ps, e, s _ _ hL, fun i p hi => s _ _ (hp i p hi)⟩
theorem PL.at {K : PySem.W.Frag} {a : Int} {H : Hp} {L : Addr} {n : Nat} (h : PL a H L n) {Q : VK} {i : Nat} (hi : i < n) (q : ∀ p, H p = some (.tup [.int (px a i), .int (py a i)]) → Q (.ref p) H) :
    rIxL K (.ref L) (.int (i : Int)) H Q := by
  obtain ⟨ps, e, hL, hp⟩ := h
  have h1 : ps[i]? = some (ps[i]'(by omega)) := List.getElem?_eq_getElem (by omega)
  exact ixL_as (.inl (.inl hL)) (atI_nat (by rw [List.getElem?_map, h1]; rfl)) (q _ (hp i _ h1))
theorem PL.at' {K : PySem.W.Frag} {a : Int} {H : Hp} {L : Addr} {n : Nat} (h : PL a H L n) {Q : VK} {i : Nat} {z : Int} (e : z = (i : Int)) (hi : i < n) (q : ∀ p, H p = some (.tup [.int (px a i), .int (py a i)]) → Q (.ref p) H) :
    rIxL K (.ref L) (.int z) H Q := by
  subst e
  exact h.at hi q
theorem ne_self {x y : V} (h : x = y) : ¬ (!decide (x = y)) = true := by
  rw [decide_eq_true h]
  decide
theorem ne2_self {a b c d : Int} (h : a = c) (h' : b = d) : ¬ (!(decide (a = c) && decide (b = d))) = true := by
  rw [decide_eq_true h, decide_eq_true h']
  decide
theorem PL.push {a : Int} {H : Hp} {L : Addr} {ps : List Addr} (hL : H L = some (.lst (ps.map V.ref))) (hp : ∀ (i : Nat) (p : Addr), ps[i]? = some p → H p = some (.tup [.int (px a i), .int (py a i)])) {p : Addr}
    (h : H p = some (.tup [.int (px a ps.length), .int (py a ps.length)])) : PL a (upd H L (.lst (ps.map V.ref ++ [V.ref p]))) L (ps.length + 1) := by
  refine ⟨ps ++ [p], by rw [List.length_append]; rfl, by rw [upd_same, List.map_append]; rfl, fun i t hi => ?_⟩
  by_cases hj : i < ps.length
  · rw [List.getElem?_append_left hj] at hi
    have h1 := hp i t hi
    rw [upd_ne (ne_of hL h1 (by intro z; cases z)).symm]
    exact h1
  · rw [List.getElem?_append_right (by omega)] at hi
    have h3 : i - ps.length < 1 := (List.getElem?_eq_some_iff.mp hi).1
    have h4 : i = ps.length := by omega
    rw [h4, Nat.sub_self] at hi
    have h5 : p = t := Option.some.inj hi
    rw [← h5, h4, upd_ne (ne_of hL h (by intro z; cases z)).symm]
    exact h
/-! more on pairs -/
theorem py_lt1 {a : Int} (ha : 2 ≤ a) (n : Nat) : py a n < py a (n + 1) := by
  obtain ⟨h1, h2⟩ := pxy_pos ha n
  rw [py1]
  have : 2 * py a n ≤ a * py a n := Int.mul_le_mul_of_nonneg_right ha h1
  omega
theorem py_lt {a : Int} (ha : 2 ≤ a) {m n : Nat} (h : m < n) : py a m < py a n := by
  induction n with
  | zero => omega
  | succ n ih =>
    by_cases e : m = n
    · rw [e]; exact py_lt1 ha n
    · exact Int.lt_trans (ih (by omega)) (py_lt1 ha n)
theorem py_le_iff {a : Int} (ha : 2 ≤ a) (m n : Nat) : py a m ≤ py a n ↔ m ≤ n := by
  constructor
  · intro h
    by_cases e : m ≤ n
    · exact e
    · exact absurd (py_lt ha (show n < m by omega)) (by omega)
  · intro h
    by_cases e : m = n
    · rw [e]; exact Int.le_refl _
    · exact Int.le_of_lt (py_lt ha (by omega))
theorem pxy_sub (a : Int) (s t : Nat) : px a (t + s) * px a s - (a * a - 1) * py a (t + s) * py a s = px a t ∧ py a (t + s) * px a s - px a (t + s) * py a s = py a t := by
  rw [(pxy_add a t s).1, (pxy_add a t s).2]
  have := pell a s
  constructor <;> grind
/-- every two squares one apart are a pair's -/
theorem pell_all {a : Int} (ha : 2 ≤ a) : ∀ (k : Nat) (x y : Int), y.toNat ≤ k → 0 ≤ x → 0 ≤ y → x * x - (a * a - 1) * y * y = 1 → ∃ n, x = px a n ∧ y = py a n := by
  intro k
  induction k with
  | zero =>
    intro x y hk hx hy h
    have e : y = 0 := by omega
    subst e
    refine ⟨0, ?_, rfl⟩
    rw [px0]
    have h2 : x * x = 1 := by grind
    have h3 : x < 2 := by
      by_cases c : x < 2
      · exact c
      · have := Int.mul_le_mul (a := 2) (b := 2) (c := x) (d := x) (by omega) (by omega) (by omega) hx
        omega
    have h4 : x ≠ 0 := by
      intro z
      rw [z] at h2
      exact absurd h2 (by decide)
    omega
  | succ k ih =>
    intro x y hk hx hy h
    by_cases e : y = 0
    · exact ih x y (by omega) hx hy h
    · have y1 : 1 ≤ y := by omega
      have hyy : 1 ≤ y * y := by
        have := Int.mul_le_mul (a := 1) (b := 1) (c := y) (d := y) y1 y1 (by omega) hy
        omega
      have hxy : x ≤ a * y := by
        by_cases c : x ≤ a * y
        · exact c
        · have c2 : a * y + 1 ≤ x := by omega
          have p0 : 0 ≤ a * y := Int.mul_nonneg (by omega) hy
          have := Int.mul_le_mul (a := a * y + 1) (b := a * y + 1) (c := x) (d := x) c2 c2 (by omega) hx
          have e1 : (a * y + 1) * (a * y + 1) = a * a * y * y + 2 * (a * y) + 1 := by grind
          have e2 : x * x = a * a * y * y - y * y + 1 := by grind
          omega
      have hlt : a * y - x < y := by
        by_cases c : a * y - x < y
        · exact c
        · have c2 : x ≤ (a - 1) * y := by
            have : (a - 1) * y = a * y - y := by grind
            omega
          have p0 : 0 ≤ (a - 1) * y := Int.mul_nonneg (by omega) hy
          have := Int.mul_le_mul c2 c2 hx p0
          have e1 : (a - 1) * y * ((a - 1) * y) = a * a * y * y - y * y - 2 * (a - 1) * (y * y) := by grind
          have e2 : x * x = a * a * y * y - y * y + 1 := by grind
          have e3 : 0 ≤ (a - 1) * (y * y) := Int.mul_nonneg (by omega) (by omega)
          have e4 : 2 * (a - 1) * (y * y) = 2 * ((a - 1) * (y * y)) := by grind
          omega
      have hx0 : 0 ≤ a * x - (a * a - 1) * y := by
        by_cases c : 0 ≤ a * x - (a * a - 1) * y
        · exact c
        · have c2 : a * x ≤ (a * a - 1) * y := by omega
          have p1 : 0 ≤ a * x := Int.mul_nonneg (by omega) hx
          have p2 : 2 * a ≤ a * a := Int.mul_le_mul_of_nonneg_right ha (by omega)
          have p0 : 0 ≤ (a * a - 1) * y := Int.mul_nonneg (by omega) hy
          have := Int.mul_le_mul c2 c2 p1 p0
          have e1 : a * x * (a * x) = a * a * (x * x) := by grind
          have e2 : (a * a - 1) * y * ((a * a - 1) * y) = (a * a - 1) * (x * x - 1) := by
            rw [← h]; grind
          have e3 : (a * a - 1) * (x * x - 1) = a * a * (x * x) - x * x - (a * a - 1) := by grind
          have e4 : 0 ≤ x * x := Int.mul_nonneg hx hx
          omega
      obtain ⟨n, e1, e2⟩ := ih (a * x - (a * a - 1) * y) (a * y - x) (by omega) hx0 (by omega) (by grind)
      refine ⟨n + 1, ?_, ?_⟩
      · rw [px1, ← e1, ← e2]; grind
      · rw [py1, ← e1, ← e2]; grind
theorem pell_only {a x y : Int} (ha : 2 ≤ a) (hx : 0 ≤ x) (hy : 0 ≤ y) (h : x * x - (a * a - 1) * y * y = 1) : ∃ n, x = px a n ∧ y = py a n := pell_all ha _ x y (Nat.le_refl _) hx hy h
theorem py_ge {a : Int} (ha : 2 ≤ a) (n : Nat) : (n : Int) ≤ py a n := by
  induction n with
  | zero => rw [py0]; decide
  | succ n ih =>
    have := py_lt1 ha n
    omega
end RR

namespace RR
open PySem PySem.Spec PyProof.Rows L2
def topS (i : Nat) : Stmt := PySem.Challenge.pw_runroots_k30_pairs_and_their_indexes.main.body.getD i (.Pass ⟨0, 0, 0, 0⟩)
abbrev s__law_pairs : Stmt := topS 12
theorem sc__law_pairs : FnScope ["a", "count", "found", "k", "one", "two"] ["a", "count"] (defScope s__law_pairs) := ⟨rfl, rfl, rfl, by decide +kernel, rfl, by decide +kernel, by decide +kernel⟩
abbrev s__doubled : Stmt := topS 2
theorem sc__doubled : FnScope ["x", "y"] ["x", "y"] (defScope s__doubled) := ⟨rfl, rfl, rfl, by decide +kernel, rfl, by decide +kernel, by decide +kernel⟩
abbrev s__next : Stmt := topS 3
theorem sc__next : FnScope ["x", "y", "a"] ["x", "y", "a"] (defScope s__next) := ⟨rfl, rfl, rfl, by decide +kernel, rfl, by decide +kernel, by decide +kernel⟩
abbrev s_pair : Stmt := topS 1
theorem sc_pair : FnScope ["n", "a", "x", "y", "digit"] ["n", "a"] (defScope s_pair) := ⟨rfl, rfl, rfl, by decide +kernel, rfl, by decide +kernel, by decide +kernel⟩
abbrev s_taken : Stmt := topS 5
theorem sc_taken : FnScope ["first", "second", "a", "x", "y", "u", "v"] ["first", "second", "a"] (defScope s_taken) := ⟨rfl, rfl, rfl, by decide +kernel, rfl, by decide +kernel, by decide +kernel⟩
abbrev s_index_of : Stmt := topS 6
theorem sc_index_of : FnScope ["value", "a", "x", "y", "steps", "here", "index", "rest", "step"] ["value", "a"] (defScope s_index_of) := ⟨rfl, rfl, rfl, by decide +kernel, rfl, by decide +kernel, by decide +kernel⟩
abbrev s__law_cell : Stmt := topS 9
theorem sc__law_cell : FnScope ["script", "k"] ["script", "k"] (defScope s__law_cell) := ⟨rfl, rfl, rfl, by decide +kernel, rfl, by decide +kernel, by decide +kernel⟩
abbrev s_added : Stmt := topS 4
theorem sc_added : FnScope ["first", "second", "a", "x", "y", "u", "v"] ["first", "second", "a"] (defScope s_added) := ⟨rfl, rfl, rfl, by decide +kernel, rfl, by decide +kernel, by decide +kernel⟩
abbrev s__law_is_integer : Stmt := topS 8
theorem sc__law_is_integer : FnScope ["actual"] ["actual"] (defScope s__law_is_integer) := ⟨rfl, rfl, rfl, by decide +kernel, rfl, by decide +kernel, by decide +kernel⟩
abbrev s_law : Stmt := topS 13
theorem sc_law : FnScope ["script", "number", "a", "m", "n", "pairs", "first", "second", "x", "y", "far", "bad", "one"] ["script"] (defScope s_law) := ⟨rfl, rfl, rfl, by decide +kernel, rfl, by decide +kernel, by decide +kernel⟩
local macro_rules | `(tactic| walk_at "sm") => `(tactic| first
  | assumption
  | exact Sm.lit (k := 64)
  | (refine' Sm.mul ?h1 ?h2; (case h1 => walk_at "sm"); (case h2 => walk_at "sm"))
  | (refine' Sm.ad ?h1 ?h2; (case h1 => walk_at "sm"); (case h2 => walk_at "sm"))
  | (refine' Sm.sb ?h1 ?h2; (case h1 => walk_at "sm"); (case h2 => walk_at "sm"))
  | (refine' Sm.neg ?h1; (case h1 => walk_at "sm"))
  | fail "sm")
local macro_rules | `(tactic| walk_at "rd") => `(tactic| repeat' first
  | (refine ⟨_, rfl, ?_⟩)
  | (refine ⟨_, _, rfl, rfl, ?_⟩)
  | (with_reducible refine tC_go ?_)
  | (with_reducible refine tNil_go ?_)
  | (with_reducible refine gTup_new (by with_unfolding_all rfl) ?_)
  | (with_reducible refine gTup_as (by first | exact sq_of (by assumption) | assumption) (by with_unfolding_all rfl) ?_)
  | (with_reducible refine ixT_new (by with_unfolding_all rfl) ?_)
  | (with_reducible refine ixT_as (by first | exact sq_of (by assumption) | assumption) (by with_unfolding_all rfl) ?_)
  | (refine ⟨_, _, (rfl : _ :: _ = _ :: _), ?_⟩)
  | (refine ⟨_, _, _, (rfl : _ :: _ = _ :: _), ?_⟩)
  | (refine ⟨rfl, ?_⟩)
  | (show _ ∧ _; refine And.intro (by omega) ?_)
  | ((with_reducible show CMulX _ _ ∧ _); refine And.intro (Sm.mx (by walk_at "sm") (by walk_at "sm") (by omega)) ?_)
  | ((with_reducible show CPow _ _ ∧ _); refine And.intro ⟨by decide, by decide, by decide⟩ ?_)
  | ((with_reducible show CDivW _ _ ∧ _); refine And.intro ⟨by first | omega | decide, by decide⟩ ?_)
  | (show _ ∧ _; refine And.intro (by assumption) ?_)
  | (show _ ∧ _; refine And.intro (Nat.le_of_ble_eq_true rfl) ?_)
  | ((with_reducible show tyV _ "list" _ _ ∧ _); refine And.intro (.inl ⟨rfl, _, .inl (.inl (by assumption))⟩) ?_)
  | fail "rd")

section
variable {P : Program} {w : World} {K : PySem.W.Frag} {mg : Str → Option Value} {base : Heap}
def sp__law_pairs (K : PySem.W.Frag) : Sp := fun vs H Q _ => ∃ (a : Int) (count B : Nat), vs = [.int a, .int count] ∧ 2 ≤ a ∧ Sm B a ∧ Sm B (px a (count + 1)) ∧ B ≤ 1000000 ∧ count ≤ 1000 ∧
  ∀ H' L, Same H H' → H L = none → PL a H' L count → Q (.ref L) H'
theorem ok__law_pairs {f : Addr} {fd : FuncData} (F : Fun K "_law_pairs" "_law_pairs" s__law_pairs f fd) (m_range : mg "range" = none) : FnOk P w K mg base CX0 1 f fd ["a", "count"] (sp__law_pairs K) := by
  refine F.ok sc__law_pairs (fun vs H Q E h => ?_) (fun cdv A outer s H vs Q E hr h => ?_)
  · obtain ⟨a, count, B, rfl, _⟩ := h
    rfl
  · obtain ⟨a, count, B, rfl, ha, sa, sx, hB, hc, q⟩ := h
    refine ⟨_, (pss_cons (ps_set (i := 2) sc__law_pairs.nd rfl (.inl rfl) (pe_lst (pa_cons (pe_tup (pa_cons pe_int (pa_cons pe_int pa_nil))) (pa_cons (pe_tup (pa_cons (pv 0) (pa_cons pe_int pa_nil))) pa_nil))))
      (pss_cons (ps_for PassesOwn.never rfl (pi_range1 (by rfl) m_range (pa_cons (pv 1) pa_nil)) (pg_name (i := 3) sc__law_pairs.nd rfl (.inl rfl)) (pss_cons (ps_par (by rfl) sc__law_pairs.nd (i := 4) (j := 5) rfl rfl (by decide) rfl rfl (pa_cons (pe_ix ix_list (pv 2) (pe_un un_neg pe_int) (fun _ _ => rfl)) (pa_cons (pe_ix ix_list (pv 2) (pe_un un_neg pe_int) (fun _ _ => rfl)) pa_nil)) (by rfl))
      (pss_one (ps_expr (pe_bm PySem.F.plainAttrs_list PySem.F.slot_list_append PySem.F.type_list_append mt_append (pv 2) (pa_cons (pe_tup (pa_cons (pe_op op_sub (pe_op op_mulX (pe_op op_mulX pe_int (pv 0)) (pe_ix ix_tup (pv 5) pe_int (fun _ _ => rfl))) (pe_ix ix_tup (pv 4) pe_int (fun _ _ => rfl))) (pa_cons (pe_op op_sub (pe_op op_mulX (pe_op op_mulX pe_int (pv 0)) (pe_ix ix_tup (pv 5) pe_int (fun _ _ => rfl))) (pe_ix ix_tup (pv 4) pe_int (fun _ _ => rfl))) pa_nil))) pa_nil))))))
      (pss_one (ps_ret (pe_slice sl_list (pv 2) po_none (po_some (pv 1))))))), ?_⟩
    walk_at "rd"
    intro p1 n1
    walk_at "rd"
    intro p2 n2
    walk_at "rd"
    intro L nL
    walk_at "rd"
    have h1 := same_upd (o := .lst [.ref p1, .ref p2]) nL _ _ (same_upd (o := .tup [.int a, .int 1]) n2 p1 (.tup [.int 1, .int 0]) upd_same)
    have h2 := same_upd (o := .lst [.ref p1, .ref p2]) nL p2 (.tup [.int a, .int 1]) upd_same
    have hL0 : H L = none := by
      cases e : H L with
      | none => rfl
      | some o => rw [same_upd n2 _ _ (same_upd n1 _ _ e)] at nL; cases nL
    have small : ∀ j : Nat, j ≤ count + 1 → Sm B (px a j) ∧ Sm B (py a j) := fun j hj =>
      ⟨sx.le (by have := pxy_pos ha j; omega) (px_mono ha hj), sx.le (pxy_pos ha j).1 (Int.le_trans (Int.le_of_lt (pxy_pos ha j).2) (px_mono ha hj))⟩
    refine for_rng (n := count) (fun k σ H' => ∃ (c3 c4 c5 : Option V), σ = [some (.int a), some (.int count), some (.ref L), c3, c4, c5] ∧ PL a H' L (k + 2) ∧ Same H H') ?_ ?_ ?_
    · refine ⟨none, none, none, rfl, ⟨[p1, p2], rfl, upd_same, fun i p hi => ?_⟩, ((same_upd n1).trans (same_upd n2)).trans (same_upd nL)⟩
      match i, hi with
      | 0, hi =>
        rw [← (Option.some.inj hi : p1 = p)]
        exact h1
      | 1, hi =>
        rw [← (Option.some.inj hi : p2 = p)]
        rw [py1, px1, px0, py0, Int.mul_one, Int.mul_zero, Int.mul_zero, Int.add_zero, Int.add_zero]
        exact h2
    · intro k σ H1 hk hP
      obtain ⟨c3, c4, c5, rfl, ⟨ps, eps, hL, hp⟩, sH⟩ := hP
      have i1 : ps[k]? = some (ps[k]'(by omega)) := List.getElem?_eq_getElem (by omega)
      have i2 : ps[k + 1]? = some (ps[k + 1]'(by omega)) := List.getElem?_eq_getElem (by omega)
      have t1 := hp _ _ i1
      have t2 := hp _ _ i2
      have s1 := small k (by omega)
      have s2 := small (k + 1) (by omega)
      obtain ⟨u1, u2⟩ := s1
      obtain ⟨u3, u4⟩ := s2
      generalize ps[k]'(by omega) = q1 at *
      generalize ps[k + 1]'(by omega) = q2 at *
      walk_at "rd"
      refine ixL_as (.inl (.inl hL)) (atI_neg (k := 2) (by decide) (by rw [List.length_map]; omega) (by rw [List.length_map, List.getElem?_map, show ps.length - 2 = k by omega, i1]; rfl)) ?_
      walk_at "rd"
      refine ixL_as (.inl (.inl hL)) (atI_neg (k := 1) (by decide) (by rw [List.length_map]; omega) (by rw [List.length_map, List.getElem?_map, show ps.length - 1 = k + 1 by omega, i2]; rfl)) ?_
      walk_at "rd"
      intro p3 n3
      walk_at "rd"
      have hL3 := same_upd (o := .tup [.int (2 * a * px a (k + 1) - px a k), .int (2 * a * py a (k + 1) - py a k)]) n3 _ _ hL
      refine app_go hL3 (by rw [List.length_map]; exact Nat.lt_of_le_of_lt (show ps.length ≤ 2000 by omega) (by decide)) ?_
      have hnew : (upd H1 p3 (.tup [.int (2 * a * px a (k + 1) - px a k), .int (2 * a * py a (k + 1) - py a k)])) p3 = some (.tup [.int (px a ps.length), .int (py a ps.length)]) := by
        rw [upd_same, eps, px_rec, py_rec]
      have hPL := PL.push hL3 (fun i t hi => same_upd (o := .tup [.int (2 * a * px a (k + 1) - px a k), .int (2 * a * py a (k + 1) - py a k)]) n3 _ _ (hp i t hi)) hnew
      rw [eps] at hPL
      exact ⟨_, _, _, rfl, hPL, Same.new (sH.trans (same_upd n3)) hL0⟩
    · intro σ H1 hP
      obtain ⟨c3, c4, c5, rfl, ⟨ps, eps, hL, hp⟩, sH⟩ := hP
      walk_at "rd"
      refine ⟨L, _, rfl, .inl (.inl hL), fun p np => ?_⟩
      refine q _ p (sH.trans (same_upd np)) (sH.free np) ⟨ps.take count, by rw [List.length_take]; omega, ?_, fun i t hi => ?_⟩
      · rw [upd_same, cut_take _ _ (by rw [List.length_map]; omega), List.map_take]
      · rw [List.getElem?_take] at hi
        split at hi
        · exact same_upd np _ _ (hp i t hi)
        · cases hi

def sp__doubled (K : PySem.W.Frag) : Sp := fun vs H Q _ => ∃ (x y : Int) (B : Nat), vs = [.int x, .int y] ∧ Sm B x ∧ Sm B y ∧ B ≤ 10000000 ∧
  ∀ p, H p = none → Q (.ref p) (upd H p (.tup [.int (2 * x * x - 1), .int (2 * x * y)]))
theorem ok__doubled {f : Addr} {fd : FuncData} (F : Fun K "_doubled" "_doubled" s__doubled f fd)  : FnOk P w K mg base CX0 1 f fd ["x", "y"] (sp__doubled K) := by
  refine F.ok sc__doubled (fun vs H Q E h => ?_) (fun cdv A outer s H vs Q E hr h => ?_)
  · obtain ⟨x, y, B, rfl, _⟩ := h
    rfl
  · obtain ⟨x, y, B, rfl, hx, hy, hB, q⟩ := h
    refine ⟨_, (pss_one (ps_ret (pe_tup (pa_cons (pe_op op_sub (pe_op op_mulX (pe_op op_mulX pe_int (pv 0)) (pv 0)) pe_int) (pa_cons (pe_op op_mulX (pe_op op_mulX pe_int (pv 0)) (pv 1)) pa_nil))))), ?_⟩
    walk_at "rd"
    exact q

def sp__next (K : PySem.W.Frag) : Sp := fun vs H Q _ => ∃ (x y a : Int) (B : Nat), vs = [.int x, .int y, .int a] ∧ Sm B x ∧ Sm B y ∧ Sm B a ∧ B ≤ 10000000 ∧
  ∀ p, H p = none → Q (.ref p) (upd H p (.tup [.int (a * x + (a * a - 1) * y), .int (x + a * y)]))
theorem ok__next {f : Addr} {fd : FuncData} (F : Fun K "_next" "_next" s__next f fd)  : FnOk P w K mg base CX0 1 f fd ["x", "y", "a"] (sp__next K) := by
  refine F.ok sc__next (fun vs H Q E h => ?_) (fun cdv A outer s H vs Q E hr h => ?_)
  · obtain ⟨x, y, a, B, rfl, _⟩ := h
    rfl
  · obtain ⟨x, y, a, B, rfl, hx, hy, ha, hB, q⟩ := h
    refine ⟨_, (pss_one (ps_ret (pe_tup (pa_cons (pe_op op_add (pe_op op_mulX (pv 2) (pv 0)) (pe_op op_mulX (pe_op op_sub (pe_op op_mulX (pv 2) (pv 2)) pe_int) (pv 1))) (pa_cons (pe_op op_add (pv 0) (pe_op op_mulX (pv 2) (pv 1))) pa_nil))))), ?_⟩
    walk_at "rd"
    exact q

def sp_pair (K : PySem.W.Frag) : Sp := fun vs H Q _ => ∃ (n : Nat) (a : Int) (B : Nat), vs = [.int n, .int a] ∧ 2 ≤ a ∧ Sm B a ∧ Sm B (px a n) ∧ B ≤ 1000000 ∧ n < 2 ^ 10000 ∧
  ∀ H' p, Same H H' → H p = none → H' p = some (.tup [.int (px a n), .int (py a n)]) → Q (.ref p) H'
theorem ok_pair {f : Addr} {fd : FuncData} (F : Fun K "pair" "pair" s_pair f fd) (C__doubled : Cal P w K mg base "_doubled" 1 ["x", "y"] (sp__doubled K)) (C__next : Cal P w K mg base "_next" 1 ["x", "y", "a"] (sp__next K)) : FnOk P w K mg base CX0 2 f fd ["n", "a"] (sp_pair K) := by
  refine F.ok sc_pair (fun vs H Q E h => ?_) (fun cdv A outer s H vs Q E hr h => ?_)
  · obtain ⟨n, a, B, rfl, _⟩ := h
    rfl
  · obtain ⟨n, a, B, rfl, ha, sa, sx, hB, hn, q⟩ := h
    refine ⟨_, (pss_cons (ps_asg (pe_tup (pa_cons pe_int (pa_cons pe_int pa_nil))) (pg_tup (by rfl) (pgs_cons (pg_name (i := 2) sc_pair.nd rfl (.inl rfl)) (pgs_cons (pg_name (i := 3) sc_pair.nd rfl (.inl rfl)) pgs_nil))))
      (pss_cons (ps_for PassesOwn.never rfl (pi_str (pe_fmtB (pv 0))) (pg_name (i := 4) sc_pair.nd rfl (.inl rfl)) (pss_cons (ps_asg (pe_cal C__doubled hr (by rfl) (pa_cons (pv 2) (pa_cons (pv 3) pa_nil))) (pg_tup (by rfl) (pgs_cons (pg_name (i := 2) sc_pair.nd rfl (.inl rfl)) (pgs_cons (pg_name (i := 3) sc_pair.nd rfl (.inl rfl)) pgs_nil))))
      (pss_one (ps_if (pt_cmpR op_eq (pv 4) pe_str (nomark _)) (pss_one (ps_asg (pe_cal C__next hr (by rfl) (pa_cons (pv 2) (pa_cons (pv 3) (pa_cons (pv 1) pa_nil)))) (pg_tup (by rfl) (pgs_cons (pg_name (i := 2) sc_pair.nd rfl (.inl rfl)) (pgs_cons (pg_name (i := 3) sc_pair.nd rfl (.inl rfl)) pgs_nil))))) pss_nil))))
      (pss_one (ps_ret (pe_tup (pa_cons (pv 2) (pa_cons (pv 3) pa_nil))))))), ?_⟩
    walk_at "rd"
    intro c nc
    walk_at "rd"
    refine ⟨Nat.le_trans (bin_len hn (by decide)) (by decide), _, rfl, ?_⟩
    refine for_str (fun i σ H' => ∃ (c5 : Option V), σ = [some (.int n), some (.int a), some (.int (px a (bval ((binL n).take i)))), some (.int (py a (bval ((binL n).take i)))), c5] ∧ Same H H') ?_ ?_ ?_
    · exact ⟨none, rfl, same_upd nc⟩
    · intro i d σ H1 hd hP
      obtain ⟨c5, rfl, sm⟩ := hP
      have hd1 : (binL n)[i]? = some d := by rw [← hd]; exact (List.getElem?_toArray).symm
      have hb := bval_take hd1
      have hle := bval_le (binL n) (i + 1)
      rw [bval_bin] at hle
      obtain ⟨v, hv⟩ : ∃ v, v = bval ((binL n).take i) := ⟨_, rfl⟩
      rw [← hv] at hb ⊢
      have s1 : Sm B (px a v) := sx.le (by have := pxy_pos ha v; omega) (px_mono ha (by omega))
      have s2 : Sm B (py a v) := sx.le (pxy_pos ha v).1 (Int.le_trans (Int.le_of_lt (pxy_pos ha v).2) (px_mono ha (by omega)))
      walk_at "rd"
      refine ⟨_, _, B, rfl, s1, s2, by omega, fun p1 n1 => ?_⟩
      walk_at "rd"
      have m1 := sm.trans (same_upd (o := .tup [.int (2 * px a v * px a v - 1), .int (2 * px a v * py a v)]) n1)
      rcases bin_mem n d (List.mem_of_getElem? hd1) with rfl | rfl
      · refine ite2 (fun e => absurd e (by decide)) (fun _ => ?_)
        refine ⟨some (.str ⟨#[48]⟩), ?_, m1⟩
        rw [hb, show 2 * v + (48 - 48) = 2 * v by omega, px_dbl, py_dbl]
        rfl
      · refine ite2 (fun _ => ?_) (fun e => absurd (by decide) e)
        have e1 : bval ((binL n).take (i + 1)) = 2 * v + 1 := by omega
        have s3 : Sm B (2 * px a v * px a v - 1) := by
          rw [← px_dbl]
          exact sx.le (by have := pxy_pos ha (2 * v); omega) (px_mono ha (by omega))
        have s4 : Sm B (2 * px a v * py a v) := by
          rw [← py_dbl]
          exact sx.le (pxy_pos ha (2 * v)).1 (Int.le_trans (Int.le_of_lt (pxy_pos ha (2 * v)).2) (px_mono ha (by omega)))
        walk_at "rd"
        refine ⟨_, _, _, B, rfl, s3, s4, sa, by omega, fun p2 n2 => ?_⟩
        walk_at "rd"
        refine ⟨some (.str ⟨#[49]⟩), ?_, m1.trans (same_upd n2)⟩
        rw [e1, px1, py1, px_dbl, py_dbl]
        rfl
    · intro σ H1 hP
      obtain ⟨c5, rfl, sm⟩ := hP
      have e : (binL n).take (binS n).cps.size = binL n := List.take_of_length_le (by show _ ≤ (binL n).toArray.size; simp)
      rw [e, bval_bin]
      walk_at "rd"
      intro p np
      exact q _ p (sm.trans (same_upd np)) (sm.free np) upd_same

def sp_taken (K : PySem.W.Frag) : Sp := fun vs H Q _ => ∃ (p1 p2 : Addr) (x y u v a : Int) (B : Nat), vs = [.ref p1, .ref p2, .int a] ∧ SqT K H p1 [.int x, .int y] ∧ SqT K H p2 [.int u, .int v] ∧
  Sm B x ∧ Sm B y ∧ Sm B u ∧ Sm B v ∧ Sm B a ∧ B ≤ 10000000 ∧ ∀ p, H p = none → Q (.ref p) (upd H p (.tup [.int (x * u - (a * a - 1) * y * v), .int (y * u - x * v)]))
theorem ok_taken {f : Addr} {fd : FuncData} (F : Fun K "taken" "taken" s_taken f fd)  : FnOk P w K mg base CX0 1 f fd ["first", "second", "a"] (sp_taken K) := by
  refine F.ok sc_taken (fun vs H Q E h => ?_) (fun cdv A outer s H vs Q E hr h => ?_)
  · obtain ⟨p1, p2, x, y, u, v, a, B, rfl, _⟩ := h
    rfl
  · obtain ⟨p1, p2, x, y, u, v, a, B, rfl, hS, hS2, s1, s2, s3, s4, s5, hB, q⟩ := h
    refine ⟨_, (pss_cons (ps_asg (pv 0) (pg_tup (by rfl) (pgs_cons (pg_name (i := 3) sc_taken.nd rfl (.inl rfl)) (pgs_cons (pg_name (i := 4) sc_taken.nd rfl (.inl rfl)) pgs_nil))))
      (pss_cons (ps_asg (pv 1) (pg_tup (by rfl) (pgs_cons (pg_name (i := 5) sc_taken.nd rfl (.inl rfl)) (pgs_cons (pg_name (i := 6) sc_taken.nd rfl (.inl rfl)) pgs_nil))))
      (pss_one (ps_ret (pe_tup (pa_cons (pe_op op_sub (pe_op op_mulX (pv 3) (pv 5)) (pe_op op_mulX (pe_op op_mulX (pe_op op_sub (pe_op op_mulX (pv 2) (pv 2)) pe_int) (pv 4)) (pv 6))) (pa_cons (pe_op op_sub (pe_op op_mulX (pv 4) (pv 5)) (pe_op op_mulX (pv 3) (pv 6))) pa_nil))))))), ?_⟩
    walk_at "rd"
    refine gTup_as hS rfl ?_
    walk_at "rd"
    refine gTup_as hS2 rfl ?_
    walk_at "rd"
    exact q

def sp_index_of (K : PySem.W.Frag) : Sp := fun vs H Q _ => ∃ (p : Addr) (x y a : Int) (B : Nat), vs = [.ref p, .int a] ∧ SqT K H p [.int x, .int y] ∧ 2 ≤ a ∧ Sm B a ∧ Sm B x ∧ Sm B y ∧ B ≤ 1000000 ∧
  (((x < 0 ∨ y < 0 ∨ x * x - (a * a - 1) * y * y ≠ 1) ∧ Q .non H) ∨ ∃ n : Nat, x = px a n ∧ y = py a n ∧ ∀ H', Same H H' → Q (.int n) H')
theorem ok_index_of {f : Addr} {fd : FuncData} (F : Fun K "index_of" "index_of" s_index_of f fd) (C__doubled : Cal P w K mg base "_doubled" 1 ["x", "y"] (sp__doubled K)) (C_taken : Cal P w K mg base "taken" 1 ["first", "second", "a"] (sp_taken K)) (m_reversed : mg "reversed" = none) : FnOk P w K mg base CX0 2 f fd ["value", "a"] (sp_index_of K) := by
  refine F.ok sc_index_of (fun vs H Q E h => ?_) (fun cdv A outer s H vs Q E hr h => ?_)
  · obtain ⟨p, x, y, a, B, rfl, _⟩ := h
    rfl
  · obtain ⟨p, x, y, a, B, rfl, hS, ha, sa, sx, sy, hB, q⟩ := h
    refine ⟨_, (pss_cons (ps_asg (pv 0) (pg_tup (by rfl) (pgs_cons (pg_name (i := 2) sc_index_of.nd rfl (.inl rfl)) (pgs_cons (pg_name (i := 3) sc_index_of.nd rfl (.inl rfl)) pgs_nil))))
      (pss_cons (ps_if (PW.pt (pw_or (pt_cmpR op_lt (pv 2) pe_int (nomark _)) (pw_or (pt_cmpR op_lt (pv 3) pe_int (nomark _)) (pw_or1 (pt_cmpR op_ne (pe_op op_sub (pe_op op_mulX (pv 2) (pv 2)) (pe_op op_mulX (pe_op op_mulX (pe_op op_sub (pe_op op_mulX (pv 1) (pv 1)) pe_int) (pv 3)) (pv 3))) pe_int (nomark _)))))) (pss_one (ps_ret pe_non)) pss_nil)
      (pss_cons (ps_set (i := 4) sc_index_of.nd rfl (.inl rfl) (pe_lst pa_nil))
      (pss_cons (ps_set (i := 5) sc_index_of.nd rfl (.inl rfl) (pe_tup (pa_cons (pv 1) (pa_cons pe_int pa_nil))))
      (pss_cons (ps_while PassesOwn.never (pt_cmpR op_le (pe_ix ix_tup (pv 5) pe_int (fun _ _ => rfl)) (pv 3) (nomark _)) (pss_cons (ps_expr (pe_bm PySem.F.plainAttrs_list PySem.F.slot_list_append PySem.F.type_list_append mt_append (pv 4) (pa_cons (pv 5) pa_nil)))
      (pss_one (ps_set (i := 5) sc_index_of.nd rfl (.inl rfl) (pe_calS C__doubled hr (by rfl) (pv 5))))))
      (pss_cons (ps_set (i := 6) sc_index_of.nd rfl (.inl rfl) pe_int)
      (pss_cons (ps_set (i := 7) sc_index_of.nd rfl (.inl rfl) (pe_tup (pa_cons (pv 2) (pa_cons (pv 3) pa_nil))))
      (pss_cons (ps_for PassesOwn.never rfl (pi_reversed (by rfl) m_reversed (pa_cons (pv 4) pa_nil)) (pg_name (i := 8) sc_index_of.nd rfl (.inl rfl)) (pss_cons (ps_set (i := 6) sc_index_of.nd rfl (.inl rfl) (pe_op op_mulX pe_int (pv 6)))
      (pss_one (ps_if (pt_cmpR op_le (pe_ix ix_tup (pv 8) pe_int (fun _ _ => rfl)) (pe_ix ix_tup (pv 7) pe_int (fun _ _ => rfl)) (nomark _)) (pss_cons (ps_set (i := 6) sc_index_of.nd rfl (.inl rfl) (pe_op op_add (pv 6) pe_int))
      (pss_one (ps_set (i := 7) sc_index_of.nd rfl (.inl rfl) (pe_cal C_taken hr (by rfl) (pa_cons (pv 7) (pa_cons (pv 8) (pa_cons (pv 1) pa_nil))))))) pss_nil))))
      (pss_one (ps_ret (pv 6))))))))))), ?_⟩
    walk_at "rd"
    refine gTup_as hS rfl ?_
    walk_at "rd"
    rcases q with ⟨hbad, q⟩ | ⟨n, rfl, rfl, q⟩
    · refine ite2 (fun e => ?_) (fun e => ?_)
      · walk_at "rd"
        exact q
      · walk_at "rd"
        refine ite2 (fun e2 => ?_) (fun e2 => ?_)
        · walk_at "rd"
          exact q
        · walk_at "rd"
          refine ite2 (fun e3 => ?_) (fun e3 => ?_)
          · walk_at "rd"
            exact q
          · exfalso
            have h1 : ¬ x < 0 := fun l => e (decide_eq_true l)
            have h2 : ¬ y < 0 := fun l => e2 (decide_eq_true l)
            have h3 : x * x - (a * a - 1) * y * y ≠ 1 := by
              rcases hbad with l | l | l
              · exact absurd l h1
              · exact absurd l h2
              · exact l
            refine e3 ?_
            show (!decide (V.int (x * x - (a * a - 1) * y * y) = V.int 1)) = true
            rw [dV, decide_eq_false h3]
            rfl
    · have hxy := pxy_pos ha n
      refine ite2 (fun e => absurd (of_decide_eq_true e) (by omega)) (fun _ => ?_)
      walk_at "rd"
      refine ite2 (fun e => absurd (of_decide_eq_true e) (by omega)) (fun _ => ?_)
      walk_at "rd"
      refine ite2 (fun e => absurd e ?_) (fun _ => ?_)
      · show ¬ (!decide (V.int (px a n * px a n - (a * a - 1) * py a n * py a n) = V.int 1)) = true
        have e0 : px a n * px a n - (a * a - 1) * py a n * py a n = 1 := by
          have := pell a n
          grind
        rw [e0]
        decide
      walk_at "rd"
      intro st nst
      walk_at "rd"
      intro p0 np0
      walk_at "rd"
      have big : ∀ v : Nat, v ≤ 2 * n → Sm (2 * B + 2) (px a v) ∧ Sm (2 * B + 2) (py a v) := fun v hv => by
        have s1 : Sm (2 * B + 2) (px a (2 * n)) := by
          rw [px_dbl]
          have t1 : Sm (2 + B + B) (2 * px a n * px a n) := ((Sm.lit (k := 2)).mul sx).mul sx
          have t2 : 1 ≤ 2 * px a n * px a n := by
            have := Int.mul_le_mul (a := 1) (b := 1) (c := px a n) (d := px a n) (by omega) (by omega) (by omega) (by omega)
            have e4 : 2 * px a n * px a n = 2 * (px a n * px a n) := by grind
            omega
          exact (t1.le (by omega) (by omega)).mono (by omega)
        exact ⟨s1.le (by have := pxy_pos ha v; omega) (px_mono ha hv), s1.le (pxy_pos ha v).1 (Int.le_trans (Int.le_of_lt (pxy_pos ha v).2) (px_mono ha hv))⟩
      have sa' : Sm (2 * B + 2) a := sa.mono (by omega)
      have hnB := px_ix ha sx
      have lt2 : ∀ i : Nat, i < 2 ^ i := fun i => Nat.lt_two_pow_self
      refine ⟨fun m σ H' => ∃ (ps : List Addr) (ph : Addr), σ = [some (.ref p), some (.int a), some (.int (px a n)), some (.int (py a n)), some (.ref st), some (.ref ph), none, none, none] ∧ H' st = some (.lst (ps.map V.ref)) ∧
        (∀ (j : Nat) (r : Addr), ps[j]? = some r → H' r = some (.tup [.int (px a (2 ^ j)), .int (py a (2 ^ j))])) ∧ H' ph = some (.tup [.int (px a (2 ^ ps.length)), .int (py a (2 ^ ps.length))]) ∧
        (∀ j, j < ps.length → 2 ^ j ≤ n) ∧ m = n - ps.length ∧ Same H H', ⟨n, [], p0, rfl, ?_, ?_, ?_, ?_, ?_, ?_⟩, ?_⟩
      · rw [upd_ne (ne_of_none upd_same np0)]
        exact upd_same
      · intro j r hj
        simp at hj
      · rw [upd_same]
        show some (HO.tup [V.int a, V.int 1]) = some (HO.tup [V.int (a * 1 + (a * a - 1) * 0), V.int (1 + a * 0)])
        rw [Int.mul_one, Int.mul_zero, Int.mul_zero, Int.add_zero, Int.add_zero]
      · intro j hj
        exact absurd hj (Nat.not_lt_zero j)
      · rfl
      · exact (same_upd nst).trans (same_upd np0)
      · intro m σ H1 hP
        obtain ⟨ps, ph, rfl, hst, hps, hph, hle, rfl, sH⟩ := hP
        walk_at "rd"
        refine ite2 (fun e => ?_) (fun e => ?_)
        · have hl : 2 ^ ps.length ≤ n := (py_le_iff ha _ _).mp (of_decide_eq_true e)
          have hln := lt2 ps.length
          refine ⟨fun σ' H' => ∃ (r : Addr), σ' = [some (.ref p), some (.int a), some (.int (px a n)), some (.int (py a n)), some (.ref st), some (.ref r), none, none, none] ∧ H' st = some (.lst ((ps ++ [ph]).map V.ref)) ∧
            (∀ (j : Nat) (r : Addr), (ps ++ [ph])[j]? = some r → H' r = some (.tup [.int (px a (2 ^ j)), .int (py a (2 ^ j))])) ∧ H' r = some (.tup [.int (px a (2 ^ (ps.length + 1))), .int (py a (2 ^ (ps.length + 1)))]) ∧ Same H H', ?_, ?_⟩
          · intro σ' H' hN
            obtain ⟨r, rfl, h1, h2, h3, h4⟩ := hN
            refine ⟨n - (ps.length + 1), by omega, ps ++ [ph], r, rfl, h1, h2, ?_, ?_, ?_, h4⟩
            · rw [List.length_append]
              exact h3
            · intro j hj
              rw [List.length_append] at hj
              by_cases hj2 : j < ps.length
              · exact hle j hj2
              · have : j = ps.length := by
                  have : j < ps.length + 1 := hj
                  omega
                rw [this]
                exact hl
            · rw [List.length_append]
              rfl
          · walk_at "rd"
            have hlen : ps.length ≤ 10000000 := by omega
            refine app_go hst (by rw [List.length_map]; exact Nat.lt_of_le_of_lt hlen (by decide)) ?_
            have hne : st ≠ ph := ne_of hst hph (by intro z; cases z)
            have hph' : (upd H1 st (.lst (ps.map V.ref ++ [V.ref ph]))) ph = some (.tup [.int (px a (2 ^ ps.length)), .int (py a (2 ^ ps.length))]) := by
              rw [upd_ne hne.symm]
              exact hph
            walk_at "rd"
            refine ⟨_, _, rfl, .inl (sq_of hph'), ?_⟩
            refine ⟨_, _, 2 * B + 2, rfl, (big _ (by omega)).1, (big _ (by omega)).2, by omega, fun r nr => ?_⟩
            walk_at "rd"
            refine ⟨?_, ?_, ?_, (Same.new sH nst).trans (same_upd nr)⟩
            · rw [upd_ne (ne_of_none upd_same nr), upd_same, List.map_append]
              rfl
            · intro j t hj
              have key : (upd H1 st (.lst (ps.map V.ref ++ [V.ref ph]))) t = some (.tup [.int (px a (2 ^ j)), .int (py a (2 ^ j))]) := by
                by_cases hj2 : j < ps.length
                · rw [List.getElem?_append_left hj2] at hj
                  have h1 := hps j t hj
                  rw [upd_ne (ne_of hst h1 (by intro z; cases z)).symm]
                  exact h1
                · rw [List.getElem?_append_right (by omega)] at hj
                  have hj3 : j - ps.length < 1 := (List.getElem?_eq_some_iff.mp hj).1
                  have hj4 : j = ps.length := by omega
                  rw [hj4, Nat.sub_self] at hj
                  have : ph = t := Option.some.inj hj
                  rw [← this, hj4]
                  exact hph'
              rw [upd_ne (ne_of_none key nr)]
              exact key
            · rw [upd_same, Nat.pow_succ, Nat.mul_comm (2 ^ ps.length) 2, px_dbl, py_dbl]
        · have hl : n < 2 ^ ps.length := by
            by_cases c : 2 ^ ps.length ≤ n
            · exact absurd (decide_eq_true ((py_le_iff ha _ _).mpr c)) e
            · omega
          walk_at "rd"
          intro pr npr
          walk_at "rd"
          refine ⟨st, _, rfl, .inl (.inl (same_upd npr _ _ hst)), ?_⟩
          refine for_rev (fun j σ H' => ∃ (idx r : Nat) (pr : Addr) (c8 : Option V), σ = [some (.ref p), some (.int a), some (.int (px a n)), some (.int (py a n)), some (.ref st), some (.ref ph), some (.int idx), some (.ref pr), c8] ∧
            H' st = some (.lst (ps.map V.ref)) ∧ (∀ (j : Nat) (r : Addr), ps[j]? = some r → H' r = some (.tup [.int (px a (2 ^ j)), .int (py a (2 ^ j))])) ∧ H' pr = some (.tup [.int (px a r), .int (py a r)]) ∧
            n = idx * 2 ^ (ps.length - j) + r ∧ r < 2 ^ (ps.length - j) ∧ Same H H') ?_ ?_ ?_ ?_
          · exact ⟨0, n, pr, none, rfl, same_upd npr _ _ hst, fun j r hj => same_upd npr _ _ (hps j r hj), upd_same, by omega, hl, sH.trans (same_upd npr)⟩
          · intro j σ H2 _ hP
            obtain ⟨idx, r, pr, c8, rfl, h1, _⟩ := hP
            exact .inl (.inl h1)
          · intro j v σ H2 hj hv hP
            obtain ⟨idx, r, pr, c8, rfl, h1, h2, h3, h4, h5, sH2⟩ := hP
            rw [List.length_map] at hj hv
            obtain ⟨t, ht⟩ : ∃ t, ps[ps.length - 1 - j]? = some t := ⟨_, List.getElem?_eq_getElem (by omega)⟩
            have ev : v = .ref t := by
              rw [List.getElem?_map, ht] at hv
              exact (Option.some.inj hv).symm
            subst ev
            have h6 := h2 _ _ ht
            have e7 : ps.length - j = ps.length - 1 - j + 1 := by omega
            rw [e7, Nat.pow_succ] at h4 h5
            have e8 : ps.length - (j + 1) = ps.length - 1 - j := by omega
            have hs2 : 2 ^ (ps.length - 1 - j) ≤ n := hle _ (by omega)
            have hs1 := Nat.two_pow_pos (ps.length - 1 - j)
            have hidx : idx ≤ n := by
              have := Nat.mul_le_mul (Nat.le_refl idx) (show 1 ≤ 2 ^ (ps.length - 1 - j) * 2 by omega)
              omega
            have si : Sm 64 (idx : Int) := Sm.le (y := 10000000) (Sm.lit (k := 64)) (by omega) (by omega)
            have hr : r ≤ n := by omega
            rw [e8]
            generalize 2 ^ (ps.length - 1 - j) = S at *
            walk_at "rd"
            refine ite2 (fun e9 => ?_) (fun e9 => ?_)
            · have hSr : S ≤ r := (py_le_iff ha _ _).mp (of_decide_eq_true e9)
              walk_at "rd"
              refine ⟨_, _, _, _, _, _, _, 2 * B + 2, rfl, sq_of h3, sq_of h6, (big r (by omega)).1, (big r (by omega)).2, (big S (by omega)).1, (big S (by omega)).2, sa', by omega, fun u nu => ?_⟩
              walk_at "rd"
              obtain ⟨g1, g2⟩ := pxy_sub a S (r - S)
              rw [show r - S + S = r by omega] at g1 g2
              refine ⟨2 * idx + 1, r - S, u, some (.ref t), by push_cast; rfl, same_upd nu _ _ h1, fun j r hj => same_upd nu _ _ (h2 j r hj), ?_, ?_, by omega, sH2.trans (same_upd nu)⟩
              · rw [upd_same, ← g1, ← g2]
              · have : (2 * idx + 1) * S = idx * (S * 2) + S := by grind
                omega
            · have hSr : r < S := by
                by_cases c : S ≤ r
                · exact absurd (decide_eq_true ((py_le_iff ha _ _).mpr c)) e9
                · omega
              refine ⟨2 * idx, r, pr, some (.ref t), by push_cast; rfl, h1, h2, h3, ?_, hSr, sH2⟩
              have : 2 * idx * S = idx * (S * 2) := by grind
              omega
          · intro σ H2 hP
            obtain ⟨idx, r, pr, c8, rfl, h1, h2, h3, h4, h5, sH2⟩ := hP
            rw [List.length_map, Nat.sub_self, Nat.pow_zero] at h4 h5
            have : idx = n := by omega
            subst this
            walk_at "rd"
            exact q _ sH2

def sp__law_cell (K : PySem.W.Frag) : Sp := fun vs H Q _ => ∃ (a : Addr) (ns : List Int) (k : Nat), vs = [.ref a, .int k] ∧ SqL K H a (ns.map V.int) ∧ Q (.int (ns.getD k 0)) H
theorem ok__law_cell {f : Addr} {fd : FuncData} (F : Fun K "_law_cell" "_law_cell" s__law_cell f fd) (m_len : mg "len" = none) : FnOk P w K mg base CX0 1 f fd ["script", "k"] (sp__law_cell K) := by
  refine F.ok sc__law_cell (fun vs H Q E h => ?_) (fun cdv A outer s H vs Q E hr h => ?_)
  · obtain ⟨a, ns, k, rfl, _⟩ := h
    rfl
  · obtain ⟨a, ns, k, rfl, hS, q⟩ := h
    refine ⟨_, (pss_cons (ps_if (pt_cmpR op_lt (pv 1) (pe_callB call_len_seq (by rfl) m_len (by decide +kernel) (pa_cons (pv 0) pa_nil)) (nomark _)) (pss_one (ps_ret (pe_ix ix_list (pv 0) (pv 1) (fun _ _ => rfl)))) pss_nil)
      (pss_one (ps_ret pe_int))), ?_⟩
    walk_at "rd"
    refine ⟨_, _, rfl, .inl hS, ?_⟩
    walk_at "rd"
    refine ite2 (fun e => ?_) (fun e => ?_)
    · have h1 : k < ns.length := by
        have := of_decide_eq_true e
        rw [List.length_map] at this
        omega
      walk_at "rd"
      refine ⟨_, _, _, .int ns[k], rfl, rfl, hS, atI_nat (by rw [List.getElem?_map, List.getElem?_eq_getElem h1]; rfl), ?_⟩
      rw [List.getD_eq_getElem?_getD, List.getElem?_eq_getElem h1] at q
      exact q
    · have h1 : ¬ k < ns.length := fun l => e (decide_eq_true (by rw [List.length_map]; omega))
      walk_at "rd"
      rw [List.getD_eq_getElem?_getD, List.getElem?_eq_none (by omega)] at q
      exact q

def sp_added (K : PySem.W.Frag) : Sp := fun vs H Q _ => ∃ (p1 p2 : Addr) (x y u v a : Int) (B : Nat), vs = [.ref p1, .ref p2, .int a] ∧ SqT K H p1 [.int x, .int y] ∧ SqT K H p2 [.int u, .int v] ∧
  Sm B x ∧ Sm B y ∧ Sm B u ∧ Sm B v ∧ Sm B a ∧ B ≤ 10000000 ∧ ∀ p, H p = none → Q (.ref p) (upd H p (.tup [.int (x * u + (a * a - 1) * y * v), .int (x * v + y * u)]))
theorem ok_added {f : Addr} {fd : FuncData} (F : Fun K "added" "added" s_added f fd)  : FnOk P w K mg base CX0 1 f fd ["first", "second", "a"] (sp_added K) := by
  refine F.ok sc_added (fun vs H Q E h => ?_) (fun cdv A outer s H vs Q E hr h => ?_)
  · obtain ⟨p1, p2, x, y, u, v, a, B, rfl, _⟩ := h
    rfl
  · obtain ⟨p1, p2, x, y, u, v, a, B, rfl, hS, hS2, s1, s2, s3, s4, s5, hB, q⟩ := h
    refine ⟨_, (pss_cons (ps_asg (pv 0) (pg_tup (by rfl) (pgs_cons (pg_name (i := 3) sc_added.nd rfl (.inl rfl)) (pgs_cons (pg_name (i := 4) sc_added.nd rfl (.inl rfl)) pgs_nil))))
      (pss_cons (ps_asg (pv 1) (pg_tup (by rfl) (pgs_cons (pg_name (i := 5) sc_added.nd rfl (.inl rfl)) (pgs_cons (pg_name (i := 6) sc_added.nd rfl (.inl rfl)) pgs_nil))))
      (pss_one (ps_ret (pe_tup (pa_cons (pe_op op_add (pe_op op_mulX (pv 3) (pv 5)) (pe_op op_mulX (pe_op op_mulX (pe_op op_sub (pe_op op_mulX (pv 2) (pv 2)) pe_int) (pv 4)) (pv 6))) (pa_cons (pe_op op_add (pe_op op_mulX (pv 3) (pv 6)) (pe_op op_mulX (pv 4) (pv 5))) pa_nil))))))), ?_⟩
    walk_at "rd"
    refine gTup_as hS rfl ?_
    walk_at "rd"
    refine gTup_as hS2 rfl ?_
    walk_at "rd"
    exact q

def sp__law_is_integer (K : PySem.W.Frag) : Sp := fun vs H Q _ => ∃ (i : Int), vs = [.int i] ∧ Q (.bl true) H
theorem ok__law_is_integer {f : Addr} {fd : FuncData} (F : Fun K "_law_is_integer" "_law_is_integer" s__law_is_integer f fd) (m_isinstance : mg "isinstance" = none) (m_int : mg "int" = none) (m_bool : mg "bool" = none) : FnOk P w K mg base CX0 1 f fd ["actual"] (sp__law_is_integer K) := by
  refine F.ok sc__law_is_integer (fun vs H Q E h => ?_) (fun cdv A outer s H vs Q E hr h => ?_)
  · obtain ⟨i, rfl, _⟩ := h
    rfl
  · obtain ⟨i, rfl, q⟩ := h
    refine ⟨_, (pss_one (ps_ret (pe_and (pe_callB isi_int (by rfl) m_isinstance (by decide +kernel) (pa_cons (pv 0) (pa_cons (pe_bltn (v := .ty "int") rfl m_int (by decide +kernel) rfl) pa_nil))) (pe_one (pe_not (pe_callB isi_bool (by rfl) m_isinstance (by decide +kernel) (pa_cons (pv 0) (pa_cons (pe_bltn (v := .ty "bool") rfl m_bool (by decide +kernel) rfl) pa_nil)))))))), ?_⟩
    walk_at "rd"
    exact q

def sp_law (K : PySem.W.Frag) : Sp := fun vs H Q _ => ∃ (a : Addr) (ns : List Int), vs = [.ref a] ∧ SqL K H a (ns.map V.int) ∧ ns.length ≤ 63 ∧ ∀ H', Q (.bl true) H'
theorem ok_law {f : Addr} {fd : FuncData} (F : Fun K "law" "law" s_law f fd) (C__law_pairs : Cal P w K mg base "_law_pairs" 1 ["a", "count"] (sp__law_pairs K)) (C_pair : Cal P w K mg base "pair" 2 ["n", "a"] (sp_pair K)) (C_index_of : Cal P w K mg base "index_of" 2 ["value", "a"] (sp_index_of K)) (C__law_cell : Cal P w K mg base "_law_cell" 1 ["script", "k"] (sp__law_cell K)) (C_added : Cal P w K mg base "added" 1 ["first", "second", "a"] (sp_added K)) (C_taken : Cal P w K mg base "taken" 1 ["first", "second", "a"] (sp_taken K)) (C__law_is_integer : Cal P w K mg base "_law_is_integer" 1 ["actual"] (sp__law_is_integer K)) (m_int : mg "int" = none) (m_isinstance : mg "isinstance" = none) (m_tuple : mg "tuple" = none) (m_all : mg "all" = none) (m_abs : mg "abs" = none) (m_max : mg "max" = none) (m_min : mg "min" = none) : FnOk P w K mg base CX0 3 f fd ["script"] (sp_law K) := by
  refine F.ok sc_law (fun vs H Q E h => ?_) (fun cdv A outer s H vs Q E hr h => ?_)
  · obtain ⟨a, ns, rfl, _⟩ := h
    rfl
  · obtain ⟨sa, ns, rfl, hS, hlen, q⟩ := h
    refine ⟨_, (pss_cons (ps_set (i := 1) sc_law.nd rfl (.inl rfl) (pe_op op_mod (pe_callTy call_intI (by rfl) m_int (by decide +kernel) (pa_cons (pe_cal C__law_cell (hr.mono (by decide)) (by rfl) (pa_cons (pv 0) (pa_cons pe_int pa_nil))) pa_nil)) pe_int))
      (pss_cons (ps_set (i := 2) sc_law.nd rfl (.inl rfl) (pe_op op_add pe_int (pe_op op_mod (pv 1) pe_int)))
      (pss_cons (ps_if (pt_cmpR op_eq (pe_op op_mod (pe_op op_fdivW (pv 1) pe_int) pe_int) pe_int (nomark _)) (pss_one (ps_set (i := 2) sc_law.nd rfl (.inl rfl) (pe_op op_add pe_int (pe_op op_mod (pe_callB call_abs (by rfl) m_abs (by decide +kernel) (pa_cons (pe_callTy call_intI (by rfl) m_int (by decide +kernel) (pa_cons (pe_cal C__law_cell (hr.mono (by decide)) (by rfl) (pa_cons (pv 0) (pa_cons pe_int pa_nil))) pa_nil)) pa_nil)) (pe_op op_pow pe_int pe_int))))) pss_nil)
      (pss_cons (ps_par (by rfl) sc_law.nd (i := 3) (j := 4) rfl rfl (by decide) rfl rfl (pa_cons (pe_op op_mod (pe_op op_fdivW (pv 1) pe_int) pe_int) (pa_cons (pe_op op_mod (pe_op op_fdivW (pv 1) pe_int) pe_int) pa_nil)) (by rfl))
      (pss_cons (ps_set (i := 5) sc_law.nd rfl (.inl rfl) (pe_cal C__law_pairs (hr.mono (by decide)) (by rfl) (pa_cons (pv 2) (pa_cons pe_int pa_nil))))
      (pss_cons (ps_par (by rfl) sc_law.nd (i := 6) (j := 7) rfl rfl (by decide) rfl rfl (pa_cons (pe_cal C_pair hr (by rfl) (pa_cons (pv 3) (pa_cons (pv 2) pa_nil))) (pa_cons (pe_cal C_pair hr (by rfl) (pa_cons (pv 4) (pa_cons (pv 2) pa_nil))) pa_nil)) (by rfl))
      (pss_cons (ps_if (PW.pt (pw_or (pt_not (pt_val (pe_callB isi_tup (by rfl) m_isinstance (by decide +kernel) (pa_cons (pv 6) (pa_cons (pe_bltn (v := .ty "tuple") rfl m_tuple (by decide +kernel) rfl) pa_nil))))) (pw_or (pt_cmpR (op_ne2 hr.units) (pv 6) (pe_ix ix_list (pv 5) (pv 3) (fun _ _ => rfl)) (nomark _)) (pw_or (pt_cmpR (op_ne2 hr.units) (pv 7) (pe_ix ix_list (pv 5) (pv 4) (fun _ _ => rfl)) (nomark _)) (pw_or1 (pt_not (pt_val (pe_callB (cr_all rfl) (by rfl) m_all (by decide +kernel) (pa_cons (pe_lc (own := [("one", 12)]) (g := gName 12) (by rfl) sc_law.nd (pi_tup (pv 6)) (blkOk_by (own := [("one", 12)]) (N := ["script", "number", "a", "m", "n", "pairs", "first", "second", "x", "y", "far", "bad", "one"]) (sc := defScope s_law) (by decide +kernel)) (fun _ _ _ _ _ => pg_name (i := 12) sc_law.nd rfl (Or.inl rfl)) (fun _ _ _ _ _ => pts_nil) (fun _ _ _ _ _ => (pe_cal C__law_is_integer (hr.mono (by decide)) (by rfl) (pa_cons (pv 12) pa_nil)))) pa_nil))))))))) (pss_one (ps_ret pe_bl)) pss_nil)
      (pss_cons (ps_if (PW.pt (pw_or (pt_cmpR (op_ne2 hr.units) (pe_cal C_added (hr.mono (by decide)) (by rfl) (pa_cons (pv 6) (pa_cons (pv 7) (pa_cons (pv 2) pa_nil)))) (pe_ix ix_list (pv 5) (pe_op op_add (pv 3) (pv 4)) (fun _ _ => rfl)) (nomark _)) (pw_or1 (pt_cmpR (op_ne2 hr.units) (pe_cal C_taken (hr.mono (by decide)) (by rfl) (pa_cons (pe_ix ix_list (pv 5) (pe_callB (call_max2 rfl) (by rfl) m_max (by decide +kernel) (pa_cons (pv 3) (pa_cons (pv 4) pa_nil))) (fun _ _ => rfl)) (pa_cons (pe_ix ix_list (pv 5) (pe_callB (call_min2 rfl) (by rfl) m_min (by decide +kernel) (pa_cons (pv 3) (pa_cons (pv 4) pa_nil))) (fun _ _ => rfl)) (pa_cons (pv 2) pa_nil)))) (pe_ix ix_list (pv 5) (pe_op op_sub (pe_callB (call_max2 rfl) (by rfl) m_max (by decide +kernel) (pa_cons (pv 3) (pa_cons (pv 4) pa_nil))) (pe_callB (call_min2 rfl) (by rfl) m_min (by decide +kernel) (pa_cons (pv 3) (pa_cons (pv 4) pa_nil)))) (fun _ _ => rfl)) (nomark _))))) (pss_one (ps_ret pe_bl)) pss_nil)
      (pss_cons (ps_asg (pv 6) (pg_tup (by rfl) (pgs_cons (pg_name (i := 8) sc_law.nd rfl (.inl rfl)) (pgs_cons (pg_name (i := 9) sc_law.nd rfl (.inl rfl)) pgs_nil))))
      (pss_cons (ps_if (PW.pt (pw_or (pt_cmpR op_ne (pe_op op_sub (pe_op op_mulX (pv 8) (pv 8)) (pe_op op_mulX (pe_op op_mulX (pe_op op_sub (pe_op op_mulX (pv 2) (pv 2)) pe_int) (pv 9)) (pv 9))) pe_int (nomark _)) (pw_or (pt_not (pt_val (pe_cal C__law_is_integer (hr.mono (by decide)) (by rfl) (pa_cons (pe_cal C_index_of hr (by rfl) (pa_cons (pv 6) (pa_cons (pv 2) pa_nil))) pa_nil)))) (pw_or (pt_cmpR op_ne (pe_cal C_index_of hr (by rfl) (pa_cons (pv 6) (pa_cons (pv 2) pa_nil))) (pv 3) (nomark _)) (pw_or1 (pt_cmpR op_ne (pe_cal C_index_of hr (by rfl) (pa_cons (pv 7) (pa_cons (pv 2) pa_nil))) (pv 4) (nomark _))))))) (pss_one (ps_ret pe_bl)) pss_nil)
      (pss_cons (ps_if (pt_cmpR op_eq (pe_op op_mod (pe_op op_fdivW (pv 1) pe_int) pe_int) pe_int (nomark _)) (pss_cons (ps_set (i := 10) sc_law.nd rfl (.inl rfl) (pe_cal C__law_pairs (hr.mono (by decide)) (by rfl) (pa_cons (pe_op op_add pe_int (pe_op op_mod (pv 1) pe_int)) (pa_cons pe_int pa_nil))))
      (pss_one (ps_if (PW.pt (pw_or (pt_cmpR op_ne (pe_cal C_index_of hr (by rfl) (pa_cons (pe_ix ix_list (pv 10) pe_int (fun _ _ => rfl)) (pa_cons (pe_op op_add pe_int (pe_op op_mod (pv 1) pe_int)) pa_nil))) pe_int (nomark _)) (pw_or1 (pt_cmpR (op_ne2 hr.units) (pe_cal C_pair hr (by rfl) (pa_cons pe_int (pa_cons (pe_op op_add pe_int (pe_op op_mod (pv 1) pe_int)) pa_nil))) (pe_ix ix_list (pv 10) pe_int (fun _ _ => rfl)) (nomark _))))) (pss_one (ps_ret pe_bl)) pss_nil))) pss_nil)
      (pss_cons (ps_set (i := 11) sc_law.nd rfl (.inl rfl) (pe_lst (pa_cons (pe_tup (pa_cons (pe_op op_add (pv 8) pe_int) (pa_cons (pv 9) pa_nil))) (pa_cons (pe_tup (pa_cons (pv 8) (pa_cons (pe_op op_add (pv 9) pe_int) pa_nil))) (pa_cons (pe_tup (pa_cons (pe_op op_sub pe_int (pv 8)) (pa_cons (pv 9) pa_nil))) (pa_cons (pe_tup (pa_cons (pv 8) (pa_cons (pe_op op_sub (pe_op op_sub pe_int (pv 9)) (pe_callTy call_int1 (by rfl) m_int (by decide +kernel) (pa_cons (pe_cmpR op_eq (pv 9) pe_int (nomark _)) pa_nil))) pa_nil))) (pa_cons (pe_tup (pa_cons pe_int (pa_cons pe_int pa_nil))) pa_nil)))))))
      (pss_one (ps_ret (pe_cmpR op_isN (pe_cal C_index_of hr (by rfl) (pa_cons (pe_ix ix_list (pv 11) (pe_op op_mod (pe_callTy call_intI (by rfl) m_int (by decide +kernel) (pa_cons (pe_cal C__law_cell (hr.mono (by decide)) (by rfl) (pa_cons (pv 0) (pa_cons pe_int pa_nil))) pa_nil)) pe_int) (fun _ _ => rfl)) (pa_cons (pv 2) pa_nil))) pe_non (nomark _)))))))))))))))), ?_⟩
    walk_at "rd"
    refine ⟨_, _, 0, rfl, hS, ?_⟩
    generalize ns.getD 0 0 = z
    obtain ⟨N, eN⟩ : ∃ N : Nat, z % 90000 = N := ⟨(z % 90000).toNat, by omega⟩
    have h30 : (0 : Int) < 10 ^ (30 : Int).toNat := by decide +kernel
    walk_at "rd"
    refine split_if (fun σ' H' => ∃ (a : Int), σ' = [some (.ref sa), some (.int N), some (.int a), none, none, none, none, none, none, none, none, none, none] ∧ 2 ≤ a ∧ 2 * a ≤ 2 ^ 101 ∧ H' = H) ?_ ?_
    · intro σ H0 hP
      obtain ⟨a, rfl, ha, ha2, rfl⟩ := hP
      obtain ⟨m, em⟩ : ∃ m : Nat, m = N / 44 % 41 := ⟨_, rfl⟩
      obtain ⟨n, en⟩ : ∃ n : Nat, n = N / 1804 % 41 := ⟨_, rfl⟩
      have em' : (N : Int) / 44 % 41 = m := by omega
      have en' : (N : Int) / 1804 % 41 = n := by omega
      have hm : m < 41 := by omega
      have hn : n < 41 := by omega
      have sx : ∀ j : Nat, j ≤ 83 → Sm 8400 (px a j) := fun j hj => Nat.lt_of_lt_of_le (px_nat ha j 101 ha2) (Nat.pow_le_pow_right (by decide) (by omega))
      have sy : ∀ j : Nat, j ≤ 83 → Sm 8400 (py a j) := fun j hj => (sx j hj).le (pxy_pos ha j).1 (Int.le_of_lt (pxy_pos ha j).2)
      have sa1 : Sm 8400 a := (show Sm 101 a by unfold Sm; omega).mono (by decide)
      have small : ∀ j : Nat, j < 41 → j < 2 ^ 10000 := fun j hj => Nat.lt_of_lt_of_le (show j < 2 ^ 6 by omega) (Nat.pow_le_pow_right (by decide) (by decide))
      walk_at "rd"
      refine ⟨a, 82, 8400, rfl, ha, sa1, sx _ (by decide), by decide, by decide, fun H1 L m1 f1 hPL => ?_⟩
      walk_at "rd"
      refine ⟨m, a, 8400, by rw [← em'], ha, sa1, sx _ (by omega), by decide, small m hm, fun H2 p1 m2 f2 h2 => ?_⟩
      walk_at "rd"
      refine ⟨n, a, 8400, by rw [← en'], ha, sa1, sx _ (by omega), by decide, small n hn, fun H3 p2 m3 f3 h3 => ?_⟩
      have h2a := m3 _ _ h2
      have hPL3 := (hPL.keep m2).keep m3
      walk_at "rd"
      refine ⟨_, _, rfl, h2a, ?_⟩
      walk_at "rd"
      refine PL.at' hPL3 em' (by omega) (fun t ht => ?_)
      refine ⟨_, _, _, _, Tp.of h2a, Tp.of ht, ?_⟩
      walk_at "rd"
      refine ite2 (fun e => absurd e (ne2_self rfl rfl)) (fun _ => ?_)
      walk_at "rd"
      refine PL.at' hPL3 en' (by omega) (fun t2 ht2 => ?_)
      refine ⟨_, _, _, _, Tp.of h3, Tp.of ht2, ?_⟩
      walk_at "rd"
      refine ite2 (fun e => absurd e (ne2_self rfl rfl)) (fun _ => ?_)
      walk_at "rd"
      refine ⟨⟨_, sq_of h2a⟩, ?_⟩
      intro D nD
      refine lc_tup (K := K) (a := p1) (xs := [.int (px a m), .int (py a m)]) (fun i H' => H' D = some (.lst ((List.replicate i true).map V.bl)) ∧ Same H3 H') ?_ ?_ ?_ ?_
      · exact ⟨upd_same, same_upd nD⟩
      · intro i H' _ hP
        exact sq_of (hP.2 _ _ h2a)
      · intro i v H' hv hP
        obtain ⟨hD, sH⟩ := hP
        obtain ⟨t, rfl⟩ : ∃ t : Int, v = .int t := by
          match i, hv with
          | 0, hv => exact ⟨_, (Option.some.inj hv).symm⟩
          | 1, hv => exact ⟨_, (Option.some.inj hv).symm⟩
        have hi : i < 2 := (List.getElem?_eq_some_iff.mp hv).1
        walk_at "rd"
        refine ⟨_, hD, Nat.lt_of_lt_of_le (show _ < 3 by rw [List.length_map, List.length_replicate]; omega) (by decide), ?_, Same.new sH nD⟩
        rw [upd_same, List.replicate_succ', List.map_append]
        rfl
      · intro H4 hP
        obtain ⟨hD, sH4⟩ := hP
        have h2b := sH4 _ _ h2a
        have h3b := sH4 _ _ h3
        have hPL4 := hPL3.keep sH4
        walk_at "rd"
        refine ⟨_, [true, true], rfl, .inl (.inl hD), ?_⟩
        walk_at "rd"
        refine ⟨_, _, _, _, _, _, _, 8400, rfl, sq_of h2b, sq_of h3b, sx m (by omega), sy m (by omega), sx n (by omega), sy n (by omega), sa1, by decide, fun p4 n4 => ?_⟩
        have s4 := same_upd (o := .tup [.int (px a m * px a n + (a * a - 1) * py a m * py a n), .int (px a m * py a n + py a m * px a n)]) n4
        have hPL5 := hPL4.keep s4
        walk_at "rd"
        refine PL.at' hPL5 (i := m + n) (by rw [em', en']; rfl) (by omega) (fun t ht => ?_)
        refine ⟨_, _, _, _, Tp.of upd_same, Tp.of ht, ?_⟩
        walk_at "rd"
        refine ite2 (fun e => absurd e (ne2_self (by rw [(pxy_add a m n).1]; grind) (by rw [(pxy_add a m n).2]))) (fun _ => ?_)
        walk_at "rd"
        obtain ⟨M, eM⟩ : ∃ M : Nat, M = max m n := ⟨_, rfl⟩
        obtain ⟨I, eI⟩ : ∃ I : Nat, I = min m n := ⟨_, rfl⟩
        have hMI : I ≤ M ∧ M < 41 := by omega
        refine PL.at' hPL5 (i := M) (by rw [em', en']; split <;> omega) (by omega) (fun t1 ht1 => ?_)
        walk_at "rd"
        refine PL.at' hPL5 (i := I) (by rw [em', en']; split <;> omega) (by omega) (fun t2 ht2 => ?_)
        walk_at "rd"
        refine ⟨_, _, _, _, _, _, _, 8400, rfl, sq_of ht1, sq_of ht2, sx M (by omega), sy M (by omega), sx I (by omega), sy I (by omega), sa1, by decide, fun p5 n5 => ?_⟩
        have s5 := same_upd (o := .tup [.int (px a M * px a I - (a * a - 1) * py a M * py a I), .int (py a M * px a I - px a M * py a I)]) n5
        have hPL6 := hPL5.keep s5
        obtain ⟨g1, g2⟩ := pxy_sub a I (M - I)
        rw [show M - I + I = M by omega] at g1 g2
        walk_at "rd"
        refine PL.at' hPL6 (i := M - I) (by rw [em', en']; split <;> split <;> omega) (by omega) (fun t3 ht3 => ?_)
        refine ⟨_, _, _, _, Tp.of upd_same, Tp.of ht3, ?_⟩
        walk_at "rd"
        refine ite2 (fun e => absurd e (ne2_self g1 g2)) (fun _ => ?_)
        have h2c := s5 _ _ (s4 _ _ h2b)
        have h3c := s5 _ _ (s4 _ _ h3b)
        have hS5 := s5.seq (s4.seq (sH4.seq (m3.seq (m2.seq (m1.seq hS)))))
        have hPell : px a m * px a m - (a * a - 1) * py a m * py a m = 1 := by
          have := pell a m
          grind
        have xm := sx m (by omega)
        have ym := sy m (by omega)
        walk_at "rd"
        refine ite2 (fun e => absurd e (ne_self (congrArg V.int hPell))) (fun _ => ?_)
        walk_at "rd"
        refine ⟨p1, px a m, py a m, a, 8400, rfl, sq_of h2c, ha, sa1, xm, ym, by decide, .inr ⟨m, rfl, rfl, fun H6 s6 => ?_⟩⟩
        walk_at "rd"
        refine ⟨p1, px a m, py a m, a, 8400, rfl, sq_of (s6 _ _ h2c), ha, sa1, xm, ym, by decide, .inr ⟨m, rfl, rfl, fun H7 s7 => ?_⟩⟩
        walk_at "rd"
        refine ite2 (fun e => absurd e (ne_self (congrArg V.int em'.symm))) (fun _ => ?_)
        walk_at "rd"
        refine ⟨p2, px a n, py a n, a, 8400, rfl, sq_of (s7 _ _ (s6 _ _ h3c)), ha, sa1, sx n (by omega), sy n (by omega), by decide, .inr ⟨n, rfl, rfl, fun H8 s8 => ?_⟩⟩
        walk_at "rd"
        refine ite2 (fun e => absurd e (ne_self (congrArg V.int en'.symm))) (fun _ => ?_)
        have hS8 := s8.seq (s7.seq (s6.seq hS5))
        walk_at "rd"
        refine split_if (fun σ' H' => ∃ (c10 : Option V), σ' = [some (.ref sa), some (.int N), some (.int a), some (.int ((N : Int) / 44 % 41)), some (.int ((N : Int) / 1804 % 41)), some (.ref L), some (.ref p1), some (.ref p2), some (.int (px a m)), some (.int (py a m)), c10, none, none] ∧ Same H8 H') ?_ ?_
        · intro σ H9 hP
          obtain ⟨c10, rfl, s9⟩ := hP
          have hxy := pxy_pos ha m
          walk_at "rd"
          intro b1 nb1
          walk_at "rd"
          intro b2 nb2
          walk_at "rd"
          intro b3 nb3
          walk_at "rd"
          refine .inr ⟨_, rfl, ?_⟩
          walk_at "rd"
          intro b4 nb4
          walk_at "rd"
          intro b5 nb5
          walk_at "rd"
          intro Lb nLb
          walk_at "rd"
          refine ⟨_, _, 2, rfl, Same.seq (same_upd nLb) (Same.seq (same_upd nb5) (Same.seq (same_upd nb4) (Same.seq (same_upd nb3) (Same.seq (same_upd nb2) (Same.seq (same_upd nb1) (s9.seq hS8)))))), ?_⟩
          generalize ns.getD 2 0 = z2
          have haa : 2 * a ≤ a * a := Int.mul_le_mul_of_nonneg_right ha (by omega)
          have one : Sm 8400 1 := (Sm.lit (k := 64)).mono (by decide)
          have zero : Sm 8400 0 := (Sm.lit (k := 64)).mono (by decide)
          obtain ⟨k, ek, hk⟩ : ∃ k : Nat, z2 % 5 = k ∧ k < 5 := ⟨(z2 % 5).toNat, by omega, by omega⟩
          walk_at "rd"
          match k, hk with
          | 0, _ =>
            refine ixL_as (.inl (.inl upd_same)) (by rw [ek]; rfl) ?_
            walk_at "rd"
            refine ⟨b1, px a m + 1, py a m, a, 8401, rfl, sq_of (same_upd nLb _ _ (same_upd nb5 _ _ (same_upd nb4 _ _ (same_upd nb3 _ _ (same_upd nb2 _ _ upd_same))))), ha, sa1.mono (by decide), xm.add one, ym.mono (by decide), by decide, .inl ⟨.inr (.inr fun e => ?_), ?_⟩⟩
            · have : (px a m + 1) * (px a m + 1) = px a m * px a m + 2 * px a m + 1 := by grind
              omega
            · walk_at "rd"
              exact q _
          | 1, _ =>
            refine ixL_as (.inl (.inl upd_same)) (by rw [ek]; rfl) ?_
            walk_at "rd"
            refine ⟨b2, px a m, py a m + 1, a, 8401, rfl, sq_of (same_upd nLb _ _ (same_upd nb5 _ _ (same_upd nb4 _ _ (same_upd nb3 _ _ upd_same)))), ha, sa1.mono (by decide), xm.mono (by decide), ym.add one, by decide, .inl ⟨.inr (.inr fun e => ?_), ?_⟩⟩
            · have e1 : (a * a - 1) * (py a m + 1) * (py a m + 1) = (a * a - 1) * py a m * py a m + (2 * ((a * a - 1) * py a m) + (a * a - 1)) := by grind
              have e2 : 0 ≤ (a * a - 1) * py a m := Int.mul_nonneg (by omega) hxy.1
              omega
            · walk_at "rd"
              exact q _
          | 2, _ =>
            refine ixL_as (.inl (.inl upd_same)) (by rw [ek]; rfl) ?_
            walk_at "rd"
            refine ⟨b3, 0 - px a m, py a m, a, 8401, rfl, sq_of (same_upd nLb _ _ (same_upd nb5 _ _ (same_upd nb4 _ _ upd_same))), ha, sa1.mono (by decide), zero.sub xm, ym.mono (by decide), by decide, .inl ⟨.inl (by omega), ?_⟩⟩
            walk_at "rd"
            exact q _
          | 3, _ =>
            refine ixL_as (.inl (.inl upd_same)) (by rw [ek]; rfl) ?_
            walk_at "rd"
            refine ⟨b4, px a m, 0 - py a m - (if decide (V.int (py a m) = V.int 0) = true then 1 else 0), a, 8402, rfl, sq_of (same_upd nLb _ _ (same_upd nb5 _ _ upd_same)), ha, sa1.mono (by decide), xm.mono (by decide), ?_, by decide, .inl ⟨.inr (.inl ?_), ?_⟩⟩
            · split
              · exact (zero.sub ym).sub (one.mono (by decide))
              · exact (zero.sub ym).sub (zero.mono (by decide))
            · split
              · omega
              · rename_i c
                have : py a m ≠ 0 := fun e => c (decide_eq_true (by rw [e]))
                omega
            · walk_at "rd"
              exact q _
          | 4, _ =>
            refine ixL_as (.inl (.inl upd_same)) (by rw [ek]; rfl) ?_
            walk_at "rd"
            refine ⟨b5, 0, 0, a, 8401, rfl, sq_of (same_upd nLb _ _ upd_same), ha, sa1.mono (by decide), zero.mono (by decide), zero.mono (by decide), by decide, .inl ⟨.inr (.inr fun e => by rw [Int.mul_zero] at e; omega), ?_⟩⟩
            walk_at "rd"
            exact q _
        · intro D' hD'
          refine ite2 (fun e => ?_) (fun e => ?_)
          · obtain ⟨b, eb⟩ : ∃ b : Int, b = 2 + (N : Int) % 3 := ⟨_, rfl⟩
            have hb : 2 ≤ b := by omega
            have hb2 : 2 * b ≤ 2 ^ 3 := by omega
            have bx : ∀ j : Nat, j ≤ 403 → Sm 1300 (px b j) := fun j hj => Nat.lt_of_lt_of_le (px_nat hb j 3 hb2) (Nat.pow_le_pow_right (by decide) (by omega))
            have by' : ∀ j : Nat, j ≤ 403 → Sm 1300 (py b j) := fun j hj => (bx j hj).le (pxy_pos hb j).1 (Int.le_of_lt (pxy_pos hb j).2)
            have sb : Sm 1300 b := (show Sm 3 b by unfold Sm; omega).mono (by decide)
            walk_at "rd"
            refine ⟨b, 402, 1300, by rw [eb]; rfl, hb, sb, bx _ (by decide), by decide, by decide, fun H9 Lf s9 fL hF => ?_⟩
            walk_at "rd"
            refine PL.at' hF (i := 401) rfl (by decide) (fun t ht => ?_)
            walk_at "rd"
            refine ⟨t, px b 401, py b 401, b, 1300, by rw [eb], sq_of ht, hb, sb, bx _ (by decide), by' _ (by decide), by decide, .inr ⟨401, rfl, rfl, fun H10 s10 => ?_⟩⟩
            walk_at "rd"
            refine ⟨390, b, 1300, by rw [eb]; rfl, hb, sb, bx _ (by decide), by decide, Nat.lt_of_lt_of_le (show 390 < 2 ^ 9 by decide) (Nat.pow_le_pow_right (by decide) (by decide)), fun H11 t2 s11 f11 h11 => ?_⟩
            walk_at "rd"
            refine PL.at' ((hF.keep s10).keep s11) (i := 390) rfl (by decide) (fun t3 ht3 => ?_)
            refine ⟨_, _, _, _, Tp.of h11, Tp.of ht3, ?_⟩
            walk_at "rd"
            refine ite2 (fun e => absurd e (ne2_self rfl rfl)) (fun _ => ?_)
            exact hD' _ _ ⟨_, rfl, (s9.trans s10).trans s11⟩
          · exact hD' _ _ ⟨_, rfl, Same.refl _⟩
    · intro D' hD'
      refine ite2 (fun e => ?_) (fun e => ?_)
      · walk_at "rd"
        refine ⟨_, _, 1, rfl, hS, ?_⟩
        walk_at "rd"
        have e30 : (10 : Int) ^ (30 : Int).toNat = 1000000000000000000000000000000 := by decide +kernel
        obtain ⟨u1, eu1⟩ : ∃ u : Int, u = (if ns.getD 1 0 < 0 then -ns.getD 1 0 else ns.getD 1 0) % 10 ^ (30 : Int).toNat := ⟨_, rfl⟩
        have b1 : 0 ≤ u1 ∧ u1 < 1000000000000000000000000000000 := by
          rw [eu1, e30]
          exact ⟨Int.emod_nonneg _ (by decide), Int.emod_lt_of_pos _ (by decide)⟩
        refine hD' _ _ ⟨2 + u1, ?_, by omega, by omega, rfl⟩
        rw [eu1, ← eN]
        rfl
      · walk_at "rd"
        refine hD' _ _ ⟨2 + z % 90000 % 11, ?_, by omega, by omega, rfl⟩
        rw [← eN]
        rfl

end
end RR

namespace RR
open PySem PySem.Spec PyProof.Rows L2
theorem all_mk {l : PySem.W.OpenLaw} {w : World} {K : PySem.W.Frag} {h : Heap} {mg : Str → Option Value} {fa : Addr} (X : K.In h) (G : h.Ns mainGlobals mg) (hfa : mg "law" = some (.ref fa))
    {f0 : Addr} {od0 an0 : Option Addr} {sl0 : Array (Option Value)} {oc0 kV0 dc0 pm0 cd0 ct0 : Value}
    {f1 : Addr} {od1 an1 : Option Addr} {sl1 : Array (Option Value)} {oc1 kV1 dc1 pm1 cd1 ct1 : Value}
    {f2 : Addr} {od2 an2 : Option Addr} {sl2 : Array (Option Value)} {oc2 kV2 dc2 pm2 cd2 ct2 : Value}
    {f3 : Addr} {od3 an3 : Option Addr} {sl3 : Array (Option Value)} {oc3 kV3 dc3 pm3 cd3 ct3 : Value}
    {f4 : Addr} {od4 an4 : Option Addr} {sl4 : Array (Option Value)} {oc4 kV4 dc4 pm4 cd4 ct4 : Value}
    {f5 : Addr} {od5 an5 : Option Addr} {sl5 : Array (Option Value)} {oc5 kV5 dc5 pm5 cd5 ct5 : Value}
    {f6 : Addr} {od6 an6 : Option Addr} {sl6 : Array (Option Value)} {oc6 kV6 dc6 pm6 cd6 ct6 : Value}
    {f7 : Addr} {od7 an7 : Option Addr} {sl7 : Array (Option Value)} {oc7 kV7 dc7 pm7 cd7 ct7 : Value}
    {f8 : Addr} {od8 an8 : Option Addr} {sl8 : Array (Option Value)} {oc8 kV8 dc8 pm8 cd8 ct8 : Value}
    {f9 : Addr} {od9 an9 : Option Addr} {sl9 : Array (Option Value)} {oc9 kV9 dc9 pm9 cd9 ct9 : Value}
    (a0 : PySem.W.nsIn K mainGlobals "_law_pairs" = some (some (.ref f0)))
    (l0 : K.lookup f0 = some ⟨oc0, od0, .func (PySem.W.fnOf "_law_pairs" "_law_pairs" (defArgs s__law_pairs) (defBody s__law_pairs) (defScope s__law_pairs) .none kV0 dc0 pm0 an0 cd0 ct0), sl0⟩)
    (c0 : PySem.W.codeIn K cd0 "_law_pairs" = true) (k0 : PySem.W.keepIn K (.ref f0) = true)
    (a1 : PySem.W.nsIn K mainGlobals "_doubled" = some (some (.ref f1)))
    (l1 : K.lookup f1 = some ⟨oc1, od1, .func (PySem.W.fnOf "_doubled" "_doubled" (defArgs s__doubled) (defBody s__doubled) (defScope s__doubled) .none kV1 dc1 pm1 an1 cd1 ct1), sl1⟩)
    (c1 : PySem.W.codeIn K cd1 "_doubled" = true) (k1 : PySem.W.keepIn K (.ref f1) = true)
    (a2 : PySem.W.nsIn K mainGlobals "_next" = some (some (.ref f2)))
    (l2 : K.lookup f2 = some ⟨oc2, od2, .func (PySem.W.fnOf "_next" "_next" (defArgs s__next) (defBody s__next) (defScope s__next) .none kV2 dc2 pm2 an2 cd2 ct2), sl2⟩)
    (c2 : PySem.W.codeIn K cd2 "_next" = true) (k2 : PySem.W.keepIn K (.ref f2) = true)
    (a3 : PySem.W.nsIn K mainGlobals "pair" = some (some (.ref f3)))
    (l3 : K.lookup f3 = some ⟨oc3, od3, .func (PySem.W.fnOf "pair" "pair" (defArgs s_pair) (defBody s_pair) (defScope s_pair) .none kV3 dc3 pm3 an3 cd3 ct3), sl3⟩)
    (c3 : PySem.W.codeIn K cd3 "pair" = true) (k3 : PySem.W.keepIn K (.ref f3) = true)
    (a4 : PySem.W.nsIn K mainGlobals "taken" = some (some (.ref f4)))
    (l4 : K.lookup f4 = some ⟨oc4, od4, .func (PySem.W.fnOf "taken" "taken" (defArgs s_taken) (defBody s_taken) (defScope s_taken) .none kV4 dc4 pm4 an4 cd4 ct4), sl4⟩)
    (c4 : PySem.W.codeIn K cd4 "taken" = true) (k4 : PySem.W.keepIn K (.ref f4) = true)
    (a5 : PySem.W.nsIn K mainGlobals "index_of" = some (some (.ref f5)))
    (l5 : K.lookup f5 = some ⟨oc5, od5, .func (PySem.W.fnOf "index_of" "index_of" (defArgs s_index_of) (defBody s_index_of) (defScope s_index_of) .none kV5 dc5 pm5 an5 cd5 ct5), sl5⟩)
    (c5 : PySem.W.codeIn K cd5 "index_of" = true) (k5 : PySem.W.keepIn K (.ref f5) = true)
    (a6 : PySem.W.nsIn K mainGlobals "_law_cell" = some (some (.ref f6)))
    (l6 : K.lookup f6 = some ⟨oc6, od6, .func (PySem.W.fnOf "_law_cell" "_law_cell" (defArgs s__law_cell) (defBody s__law_cell) (defScope s__law_cell) .none kV6 dc6 pm6 an6 cd6 ct6), sl6⟩)
    (c6 : PySem.W.codeIn K cd6 "_law_cell" = true) (k6 : PySem.W.keepIn K (.ref f6) = true)
    (a7 : PySem.W.nsIn K mainGlobals "added" = some (some (.ref f7)))
    (l7 : K.lookup f7 = some ⟨oc7, od7, .func (PySem.W.fnOf "added" "added" (defArgs s_added) (defBody s_added) (defScope s_added) .none kV7 dc7 pm7 an7 cd7 ct7), sl7⟩)
    (c7 : PySem.W.codeIn K cd7 "added" = true) (k7 : PySem.W.keepIn K (.ref f7) = true)
    (a8 : PySem.W.nsIn K mainGlobals "_law_is_integer" = some (some (.ref f8)))
    (l8 : K.lookup f8 = some ⟨oc8, od8, .func (PySem.W.fnOf "_law_is_integer" "_law_is_integer" (defArgs s__law_is_integer) (defBody s__law_is_integer) (defScope s__law_is_integer) .none kV8 dc8 pm8 an8 cd8 ct8), sl8⟩)
    (c8 : PySem.W.codeIn K cd8 "_law_is_integer" = true) (k8 : PySem.W.keepIn K (.ref f8) = true)
    (a9 : PySem.W.nsIn K mainGlobals "law" = some (some (.ref f9)))
    (l9 : K.lookup f9 = some ⟨oc9, od9, .func (PySem.W.fnOf "law" "law" (defArgs s_law) (defBody s_law) (defScope s_law) .none kV9 dc9 pm9 an9 cd9 ct9), sl9⟩)
    (c9 : PySem.W.codeIn K cd9 "law" = true) (k9 : PySem.W.keepIn K (.ref f9) = true)
    (z_range : PySem.W.nsIn K mainGlobals "range" = some none)
    (z_reversed : PySem.W.nsIn K mainGlobals "reversed" = some none)
    (z_len : PySem.W.nsIn K mainGlobals "len" = some none)
    (z_isinstance : PySem.W.nsIn K mainGlobals "isinstance" = some none)
    (z_int : PySem.W.nsIn K mainGlobals "int" = some none)
    (z_bool : PySem.W.nsIn K mainGlobals "bool" = some none)
    (z_tuple : PySem.W.nsIn K mainGlobals "tuple" = some none)
    (z_all : PySem.W.nsIn K mainGlobals "all" = some none)
    (z_abs : PySem.W.nsIn K mainGlobals "abs" = some none)
    (z_max : PySem.W.nsIn K mainGlobals "max" = some none)
    (z_min : PySem.W.nsIn K mainGlobals "min" = some none)
    : ∃ fd : FuncData, (∀ (s : Shared) (v : Value), BindsTo s fd ⟨[v], []⟩ [("script", v)]) ∧ ∀ base : Heap, K.In base → base.Ns mainGlobals mg → FnOk l.prog w K mg base CX0 3 fa fd ["script"] (sp_law K) := by
  have e := hfa.symm.trans (PySem.W.mg_of X G a9)
  cases e
  have F0 := fun_mk (st := s__law_pairs) l0 c0 k0
  have F1 := fun_mk (st := s__doubled) l1 c1 k1
  have F2 := fun_mk (st := s__next) l2 c2 k2
  have F3 := fun_mk (st := s_pair) l3 c3 k3
  have F4 := fun_mk (st := s_taken) l4 c4 k4
  have F5 := fun_mk (st := s_index_of) l5 c5 k5
  have F6 := fun_mk (st := s__law_cell) l6 c6 k6
  have F7 := fun_mk (st := s_added) l7 c7 k7
  have F8 := fun_mk (st := s__law_is_integer) l8 c8 k8
  have F9 := fun_mk (st := s_law) l9 c9 k9
  have b0 := F0.binds (ps := ["a", "count"]) fun _ _ _ _ _ _ us hl => match us, hl with | [_, _], _ => rfl
  have b1 := F1.binds (ps := ["x", "y"]) fun _ _ _ _ _ _ us hl => match us, hl with | [_, _], _ => rfl
  have b2 := F2.binds (ps := ["x", "y", "a"]) fun _ _ _ _ _ _ us hl => match us, hl with | [_, _, _], _ => rfl
  have b3 := F3.binds (ps := ["n", "a"]) fun _ _ _ _ _ _ us hl => match us, hl with | [_, _], _ => rfl
  have b4 := F4.binds (ps := ["first", "second", "a"]) fun _ _ _ _ _ _ us hl => match us, hl with | [_, _, _], _ => rfl
  have b5 := F5.binds (ps := ["value", "a"]) fun _ _ _ _ _ _ us hl => match us, hl with | [_, _], _ => rfl
  have b6 := F6.binds (ps := ["script", "k"]) fun _ _ _ _ _ _ us hl => match us, hl with | [_, _], _ => rfl
  have b7 := F7.binds (ps := ["first", "second", "a"]) fun _ _ _ _ _ _ us hl => match us, hl with | [_, _, _], _ => rfl
  have b8 := F8.binds (ps := ["actual"]) fun _ _ _ _ _ _ us hl => match us, hl with | [_], _ => rfl
  refine ⟨PySem.W.fnOf "law" "law" (defArgs s_law) (defBody s_law) (defScope s_law) .none kV9 dc9 pm9 an9 cd9 ct9, fun s v => .of_eq rfl, fun base _ _ => ?_⟩
  have m_range := PySem.W.mg_none_of X G z_range
  have m_reversed := PySem.W.mg_none_of X G z_reversed
  have m_len := PySem.W.mg_none_of X G z_len
  have m_isinstance := PySem.W.mg_none_of X G z_isinstance
  have m_int := PySem.W.mg_none_of X G z_int
  have m_bool := PySem.W.mg_none_of X G z_bool
  have m_tuple := PySem.W.mg_none_of X G z_tuple
  have m_all := PySem.W.mg_none_of X G z_all
  have m_abs := PySem.W.mg_none_of X G z_abs
  have m_max := PySem.W.mg_none_of X G z_max
  have m_min := PySem.W.mg_none_of X G z_min
  have C__law_pairs : Cal l.prog w K mg base "_law_pairs" 1 ["a", "count"] (sp__law_pairs K) := ⟨_, _, ok__law_pairs F0 m_range, PySem.W.mg_of X G a0, F0.kp, b0⟩
  have C__doubled : Cal l.prog w K mg base "_doubled" 1 ["x", "y"] (sp__doubled K) := ⟨_, _, ok__doubled F1 , PySem.W.mg_of X G a1, F1.kp, b1⟩
  have C__next : Cal l.prog w K mg base "_next" 1 ["x", "y", "a"] (sp__next K) := ⟨_, _, ok__next F2 , PySem.W.mg_of X G a2, F2.kp, b2⟩
  have C_pair : Cal l.prog w K mg base "pair" 2 ["n", "a"] (sp_pair K) := ⟨_, _, ok_pair F3 C__doubled C__next, PySem.W.mg_of X G a3, F3.kp, b3⟩
  have C_taken : Cal l.prog w K mg base "taken" 1 ["first", "second", "a"] (sp_taken K) := ⟨_, _, ok_taken F4 , PySem.W.mg_of X G a4, F4.kp, b4⟩
  have C_index_of : Cal l.prog w K mg base "index_of" 2 ["value", "a"] (sp_index_of K) := ⟨_, _, ok_index_of F5 C__doubled C_taken m_reversed, PySem.W.mg_of X G a5, F5.kp, b5⟩
  have C__law_cell : Cal l.prog w K mg base "_law_cell" 1 ["script", "k"] (sp__law_cell K) := ⟨_, _, ok__law_cell F6 m_len, PySem.W.mg_of X G a6, F6.kp, b6⟩
  have C_added : Cal l.prog w K mg base "added" 1 ["first", "second", "a"] (sp_added K) := ⟨_, _, ok_added F7 , PySem.W.mg_of X G a7, F7.kp, b7⟩
  have C__law_is_integer : Cal l.prog w K mg base "_law_is_integer" 1 ["actual"] (sp__law_is_integer K) := ⟨_, _, ok__law_is_integer F8 m_isinstance m_int m_bool, PySem.W.mg_of X G a8, F8.kp, b8⟩
  exact ok_law F9 C__law_pairs C_pair C_index_of C__law_cell C_added C_taken C__law_is_integer m_int m_isinstance m_tuple m_all m_abs m_max m_min
end RR
open PySem PySem.W PyProof.Rows
set_option maxHeartbeats 0 in
theorem PySem.Challenge.cw_runroots_k30_pairs_and_their_indexes_holds : PySem.Challenge.rw_runroots_k30_pairs_and_their_indexes.Holds := by
  w_on; o_law; k_head; (case hw => w_witness2)
  k_fill
  refine L2.walk_of (l := PySem.Challenge.rw_runroots_k30_pairs_and_their_indexes) (n := 63) (k := 3) (x := "script") (CX := fun _ => L2.CX0) (sp := fun w => RR.sp_law _) rfl (by decide) rfl ⟨rfl, by decide, by decide⟩ (fun w h Y => PySem.W.kIn_of Y) ?F (fun _ _ a ns hl _ hS => ⟨a, ns, rfl, hS, hl, fun _ => rfl⟩) (fun _ _ _ _ _ h => h)
  case F =>
    intro w mg fa h KX G hmg
    refine' RR.all_mk KX G hmg ?a0 ?l0 ?c0 ?k0 ?a1 ?l1 ?c1 ?k1 ?a2 ?l2 ?c2 ?k2 ?a3 ?l3 ?c3 ?k3 ?a4 ?l4 ?c4 ?k4 ?a5 ?l5 ?c5 ?k5 ?a6 ?l6 ?c6 ?k6 ?a7 ?l7 ?c7 ?k7 ?a8 ?l8 ?c8 ?k8 ?a9 ?l9 ?c9 ?k9 ?z_range ?z_reversed ?z_len ?z_isinstance ?z_int ?z_bool ?z_tuple ?z_all ?z_abs ?z_max ?z_min
    (case a0 => k_is); (case l0 => k_is); (case c0 => k_is); (case k0 => k_is); (case a1 => k_is); (case l1 => k_is); (case c1 => k_is); (case k1 => k_is); (case a2 => k_is); (case l2 => k_is); (case c2 => k_is); (case k2 => k_is); (case a3 => k_is); (case l3 => k_is); (case c3 => k_is); (case k3 => k_is); (case a4 => k_is); (case l4 => k_is); (case c4 => k_is); (case k4 => k_is); (case a5 => k_is); (case l5 => k_is); (case c5 => k_is); (case k5 => k_is); (case a6 => k_is); (case l6 => k_is); (case c6 => k_is); (case k6 => k_is); (case a7 => k_is); (case l7 => k_is); (case c7 => k_is); (case k7 => k_is); (case a8 => k_is); (case l8 => k_is); (case c8 => k_is); (case k8 => k_is); (case a9 => k_is); (case l9 => k_is); (case c9 => k_is); (case k9 => k_is); (case z_range => k_is); (case z_reversed => k_is); (case z_len => k_is); (case z_isinstance => k_is); (case z_int => k_is); (case z_bool => k_is); (case z_tuple => k_is); (case z_all => k_is); (case z_abs => k_is); (case z_max => k_is); (case z_min => k_is)
