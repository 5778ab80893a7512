import PyProof.Rows.All
import PyProof.FString3
import PyProof.Rows.StrIntSpec
import HandS.ForMost
import HandS.FStr
import HandS.Wide
import HandS.WideBits
import HandS.Style
import HandS.Star
import HandS.RevRange
import HandS.EndBits
import HandS.IsInst
import HandS.Deep
import HandS.Gcd
import HandS.Text
import HandS.NoneIn
import HandS.Walk
import HandS.DictComp
import HandS.DictTup
import PyProof.Rows.BitMore
import KE.KDictDisplayH
import HandS.More
import HandS.TupAny
import HandS.TupLen
import HandS.Small
import HandS.TupLe
import PySem.Challenge.RW_runroots_k03_relations_that_hold
set_option Elab.async false
set_option linter.all false
set_option maxRecDepth 100000
set_option maxHeartbeats 16000000
namespace RR
open PySem PySem.Spec PyProof.Rows L2 PySem.Builtin PySem.Builtin.Float
/-- a number's signs to the base two -/
def binL (n : Nat) : List Nat := (Nat.toDigits 2 n).map Char.toNat
def binS (n : Nat) : Str := ⟨(binL n).toArray⟩
def specB : FormatSpec := { align := 62, type := some 98 }
theorem parse_b (k : String) : parseFormatSpec (Str.ofString "b").cps.toList k 62 = .ok specB := rfl
theorem field_b {D : List Nat} (hD : D ≠ []) : intField' specB false [] D [] 4 = ⟨D.toArray⟩ := by
  have e : D.isEmpty = false := by cases D with
    | nil => exact absurd rfl hD
    | cons _ _ => rfl
  have p : ((-1 : Int) - 0 - (D.length : Int)).toNat = 0 := by omega
  simp [intField', specB, e, p]
theorem binL_ne (n : Nat) : binL n ≠ [] := by
  intro h
  have h2 : Nat.toDigits 2 n = [] := List.map_eq_nil_iff.mp h
  have := Nat.length_toDigits_pos (b := 2) (n := n)
  rw [h2] at this
  exact absurd this (by simp)
section
variable {prog : Program} {w : World} {A : Around} {E : Value → Shared → Prop} {s : Shared}
theorem bin_spec {n : Nat} {t : Tok} {Q : Value → Shared → Prop} (hl : (binS n).length ≤ sizeLine)
    (h : Q (.str (binS n) (s.toks + 1)) { s with toks := s.toks + 1 + 1 }) : wpAny (model prog w) A (formatField (.int (n : Int) t) (Str.ofString "b")) Q E s := by
  show wpAny _ _ (holding [Value.int (n : Int) t] (pyFormat (Value.int (n : Int) t) (Str.ofString "b"))) Q E s
  refine wpAny_holding ?_
  unfold pyFormat
  refine wpAny_bind (wpAny_mkStr ?_ (by decide))
  refine wpAny_bind (m := callSpecial? (.int (n : Int) t) (Str.ofString "__format__") [.str (Str.ofString "b") s.toks])
    (wpAny_callSpecial?_slot (name := Str.ofString "__format__") (typeIs_int _ _ t) slot_int_format ?_)
  refine wpAny_call (codeAny_call_builtin slot_int_format.plain entry_int_format
    (slot_int_format.check _ _ _ _ _ _ _ _ (typeIs_int _ _ t) (args_int_format _ _) ?_))
  unfold Builtin.«int.__format__»
  simp only [selfAndOne, noKeywords, Int.intOfSelf, asInt?, asStr?, List.isEmpty_nil, if_true, pure_bind, bind_assoc, Bool.false_eq_true, if_false,
    show ((Str.ofString "b").length == 0) = false by decide,
    show (((Str.ofString "b").cps.toList.drop 1).any (· ≥ 128) || ((Str.ofString "b").cps.getD 0 0 ≥ 128 && !([60, 62, 61, 94] : List Nat).contains ((Str.ofString "b").cps.getD 1 0))) = false by decide,
    show (Value.str (Str.ofString "b") s.toks == Value.none) = false from rfl]
  refine wpAny_bind (wpAny_typeNameOf (T := "str") (typeIs_str _ _ _) (by decide) fun _ => ?_)
  refine wpAny_bind (wpAny_typeNameOfCut_int ?_)
  obtain ⟨f, hf⟩ : ∃ f, f = specB := ⟨_, rfl⟩
  have hty : f.type.getD (if (Str.ofString "b").cps.back? == some 0 then 0 else 100) = 98 := by rw [hf]; rfl
  have hpr : f.precision.isSome = false := by rw [hf]; rfl
  have hz : f.noNeg0 = false := by rw [hf]; rfl
  have hal : f.alt = false := by rw [hf]; rfl
  have hw : f.width.getD 0 = 0 := by rw [hf]; rfl
  simp only [parse_b, ← hf, hty]
  rw [if_pos (by decide)]
  show wpAny _ _ (if _ then _ else _) _ _ _
  rw [if_neg (by simp [hpr])]
  show wpAny _ _ (if _ then _ else _) _ _ _
  rw [if_neg (by simp [hz])]
  show wpAny _ _ (if _ then _ else _) _ _ _
  rw [if_neg (by decide)]
  show wpAny _ _ (if _ then _ else _) _ _ _
  rw [if_neg (by decide)]
  show wpAny _ _ (if _ then _ else _) _ _ _
  rw [if_neg (by simp [hw])]
  show wpAny _ _ (retStr _) _ _ _
  unfold retStr
  have hneg : decide ((n : Int) < 0) = false := decide_eq_false (by omega)
  have key : intField' f (decide ((n : Int) < 0)) (if f.alt = true then [] else []) ((Nat.toDigits 2 (n : Int).natAbs).map fun c => (if (98 : Nat) == 88 then c.toUpper else c).toNat) [] 4 = binS n := by
    rw [hneg, hf]
    exact field_b (binL_ne n)
  have hl2 := key ▸ hl
  have h2 := key ▸ h
  clear h hl
  subst hf
  refine wpAny_bind (wpAny_mkStr (wpAny_pure ?_) hl2)
  exact wpAny_bind (wpAny_isInstance (typeIs_str _ _ _) isSubtype_str_str (wpAny_pure h2))
end
end RR
namespace RR
open PySem PySem.Spec PyProof.Rows L2
section
variable {X : Cx}
/-- f'{x:b}' of an int from 0 on -/
def tFmtB (te : TE) : TE := fun σ H Q => te σ H fun x H1 => ∃ n : Nat, x = .int n ∧ (binS n).length ≤ sizeLine ∧ Q (.str (binS n)) H1
theorem pe_fmtB {e : Expr} {te : TE} {k : Nat} {p1 p2 p3 p4 : Pos} (he : PE X e te) :
    PE X (.JoinedStr [.FormattedValue e (-1) (some (.JoinedStr [.Constant (.str "b") k p1] p2)) p3] p4) (tFmtB te) := by
  refine pe_joined1 ⟨fun pins s σ H Q I h => ?_⟩
  refine wpAny_FormattedValue_spec (thn (he.run pins s σ H _ I h) fun v s1 hv => ?_)
  obtain ⟨x, H1, I1, r1, n, rfl, hl, q⟩ := hv
  obtain ⟨t, rfl⟩ := r1
  refine wpAny_JoinedStr_one (Calls.Constant_str ⟨_, _, rfl, ?_⟩)
  exact bin_spec hl ⟨.str (binS n), H1, (I1.tok _).tok _, ⟨_, rfl⟩, q⟩
end
end RR

namespace RR
open PySem PySem.Spec PyProof.Rows L2
/-- a def of the text, as callers see it -/
structure Cal (P : Program) (w : World) (K : PySem.W.Frag) (mg : Str → Option Value) (base : Heap) (x : Str) (k : Nat) (ps : List Str) (sp : Sp) : Prop where
  ex : ∃ (f : Addr) (fd : FuncData), FnOk P w K mg base L2.CX0 k f fd ps sp ∧ mg x = some (.ref f) ∧ PySem.W.keepIn K (.ref f) = true ∧ Binds K fd ps []
theorem Cal.mk' {P : Program} {w : World} {K : PySem.W.Frag} {mg : Str → Option Value} {base : Heap} {x : Str} {k : Nat} {ps : List Str} {sp : Sp} {f : Addr} {fd : FuncData}
    (F : FnOk P w K mg base L2.CX0 k f fd ps sp) (g : mg x = some (.ref f)) (kp : PySem.W.keepIn K (.ref f) = true) (b : Binds K fd ps []) : Cal P w K mg base x k ps sp := ⟨f, fd, F, g, kp, b⟩
section
variable {X : Cx}
def tCal (sp : Sp) (t : TA) : TE := fun σ H Q => t σ H fun vs H1 => sp vs H1 Q L2.E0
theorem pe_cal {x : Str} {k : Nat} {ps : List Str} {sp : Sp} {p pos : Pos} {e : Expr} {es : List Expr} {t : TA} (C : Cal X.prog X.w X.K X.mg X.base x k ps sp) (hr : Room k X.A) (hg : Gl X x) (ha : PA X (e :: es) t)
    (hdb : (x == ("__debug__" : Str)) = false := by decide) (he : starEach (e :: es) X.env = (false, eval e X.env) :: starEach es X.env := by rfl) (hpl : (backTo pos (starEach es X.env)).any (·.1) = false := by rfl) :
    PE X (.Call (.Name x p) (e :: es) [] pos) (tCal sp t) := by
  obtain ⟨f, fd, F, g, kp, b⟩ := C.ex
  have h := pe_call (p := p) (pos := pos) F hr hg g kp b .nil L2.pass0 ha hdb he hpl
  refine ⟨fun pins s σ H Q I q => h.run pins s σ H Q I ?_⟩
  have e0 : tCall sp [] L2.E0 t σ H Q = tCal sp t σ H Q := by
    unfold tCall tCal
    simp only [List.append_nil]
  rw [e0]
  exact q
end
/-- int(x) of an int -/
theorem call_intI {X : Cx} : CallR X (.type "int") (fun xs H Q => ∃ i, xs = [.int i] ∧ Q (.int i) H) := fun pins s σ H xs us Q I r h => call_int1 pins s σ H xs us Q I r (.inl h)
/-- a loop over a text's signs -/
theorem for_str {x : Str} {g : TG} {tb : TS} {D : Ends} {σ : L2.St} {H : Hp} (Pv : Nat → L2.St → Hp → Prop) (h0 : Pv 0 σ H)
    (hs : ∀ i c σ H, x.cps[i]? = some c → Pv i σ H → g (.str ⟨#[c]⟩) σ H fun σ2 H2 => tb { D with nx := Pv (i + 1), ct := Pv (i + 1), bk := D.nx } σ2 H2) (hd : ∀ σ H, Pv x.cps.size σ H → D.nx σ H) :
    ∃ W : Nat → Nat → L2.St → Hp → Prop, (∃ m, W 0 m σ H) ∧ ∀ i m σ H, W i m σ H →
      ((Its x).stop i H ∧ D.nx σ H) ∨ ((Its x).go i H ∧ ∃ N : L2.St → Hp → Prop, (∀ σ' H', N σ' H' → ∃ m', m' < m ∧ W (i + 1) m' σ' H') ∧ ∀ v H', (Its x).yld i H v H' → g v σ H' fun σ2 H2 => tb { D with nx := N, ct := N, bk := D.nx } σ2 H2) := by
  refine ⟨fun i m σ H => m = x.cps.size - i ∧ i ≤ x.cps.size ∧ Pv i σ H, ⟨x.cps.size, by simp, Nat.zero_le _, h0⟩, ?_⟩
  rintro i m σ H ⟨rfl, hi, p⟩
  by_cases hlt : i < x.cps.size
  · refine .inr ⟨hlt, Pv (i + 1), fun σ' H' p' => ⟨x.cps.size - (i + 1), by omega, rfl, hlt, p'⟩, fun v H' y => ?_⟩
    obtain ⟨e, c, hc, e2⟩ := y
    subst e e2
    exact hs i c σ _ hc p
  · have e : i = x.cps.size := by omega
    subst e
    exact .inl ⟨Nat.le_refl _, hd σ H p⟩
/-- for k in range(n), the turn's number from 0 on -/
theorem for_rng {n : Nat} {g : TG} {tb : TS} {D : Ends} {σ : L2.St} {H : Hp} (Pv : Nat → L2.St → Hp → Prop) (h0 : Pv 0 σ H)
    (hs : ∀ i σ H, i < n → Pv i σ H → g (.int (i : Int)) σ H fun σ2 H2 => tb { D with nx := Pv (i + 1), ct := Pv (i + 1), bk := D.nx } σ2 H2) (hd : ∀ σ H, Pv n σ H → D.nx σ H) :
    ∃ W : Nat → Nat → L2.St → Hp → Prop, (∃ m, W 0 m σ H) ∧ ∀ i m σ H, W i m σ H →
      ((Itr 0 n).stop i H ∧ D.nx σ H) ∨ ((Itr 0 n).go i H ∧ ∃ N : L2.St → Hp → Prop, (∀ σ' H', N σ' H' → ∃ m', m' < m ∧ W (i + 1) m' σ' H') ∧
        ∀ x H', (Itr 0 n).yld i H x H' → g x σ H' fun σ2 H2 => tb { D with nx := N, ct := N, bk := D.nx } σ2 H2) :=
  for_range (lo := 0) (n := n) (g := g) (tb := tb) (D := D) Pv h0 (fun i σ H hi p => by rw [Int.zero_add]; exact hs i σ H hi p) hd
theorem tC_go {v : V} {σ : L2.St} {H : Hp} {Q : VK} (q : Q v H) : tC v σ H Q := q
theorem tNil_go {σ : L2.St} {H : Hp} {Q : List V → Hp → Prop} (q : Q [] H) : tNil σ H Q := q
theorem dV (x y : Int) : decide (V.int x = V.int y) = decide (x = y) := by
  by_cases h : x = y
  · rw [decide_eq_true h, decide_eq_true (by rw [h])]
  · rw [decide_eq_false h, decide_eq_false (fun e => h (V.int.inj e))]
theorem dB (x y : Bool) : decide (V.bl x = V.bl y) = decide (x = y) := by cases x <;> cases y <;> rfl
/-! heaps -/
theorem same_upd {H : Hp} {p : Addr} {o : HO} (h : H p = none) : Same H (upd H p o) := fun b x e => by
  rw [upd_ne (ne_of_none e h)]
  exact e
theorem sq_new {K : PySem.W.Frag} {H : Hp} {p : Addr} {xs : List V} : SqT K (upd H p (.tup xs)) p xs := .inl (.inl upd_same)
theorem sq_of {K : PySem.W.Frag} {H : Hp} {p : Addr} {xs : List V} (h : H p = some (.tup xs)) : SqT K H p xs := .inl (.inl h)
theorem gTup_new {K : PySem.W.Frag} {n : Nat} {t : TGs} {σ : L2.St} {H : Hp} {Q : L2.St → Hp → Prop} {p : Addr} {xs : List V} (h : xs.length = n) (q : t xs σ (upd H p (.tup xs)) Q) :
    gTup K n t (.ref p) σ (upd H p (.tup xs)) Q := ⟨p, xs, rfl, sq_new, h, q⟩
theorem gTup_as {K : PySem.W.Frag} {n : Nat} {t : TGs} {σ : L2.St} {H : Hp} {Q : L2.St → Hp → Prop} {p : Addr} {xs : List V} (hS : SqT K H p xs) (h : xs.length = n) (q : t xs σ H Q) :
    gTup K n t (.ref p) σ H Q := ⟨p, xs, rfl, hS, h, q⟩
theorem ixT_new {K : PySem.W.Frag} {H : Hp} {Q : VK} {p : Addr} {xs : List V} {i : Int} {v : V} (h : atI xs i = some v) (q : Q v (upd H p (.tup xs))) :
    rIxT K (.ref p) (.int i) (upd H p (.tup xs)) Q := ⟨p, xs, i, v, rfl, rfl, sq_new, h, q⟩
theorem ixT_as {K : PySem.W.Frag} {H : Hp} {Q : VK} {p : Addr} {xs : List V} {i : Int} {v : V} (hS : SqT K H p xs) (h : atI xs i = some v) (q : Q v H) :
    rIxT K (.ref p) (.int i) H Q := ⟨p, xs, i, v, rfl, rfl, hS, h, q⟩
theorem ixL_as {K : PySem.W.Frag} {H : Hp} {Q : VK} {p : Addr} {xs : List V} {i : Int} {v : V} (hS : SqL K H p xs) (h : atI xs i = some v) (q : Q v H) :
    rIxL K (.ref p) (.int i) H Q := ⟨p, xs, i, v, rfl, rfl, hS, h, q⟩
/-! sizes -/
/-- below 2 ^ k -/
def Sm (k : Nat) (x : Int) : Prop := x.natAbs < 2 ^ k
theorem Sm.mono {j k : Nat} {x : Int} (h : Sm j x) (l : j ≤ k) : Sm k x := Nat.lt_of_lt_of_le h (Nat.pow_le_pow_right (by omega) l)
theorem Sm.mul {j k : Nat} {x y : Int} (h : Sm j x) (l : Sm k y) : Sm (j + k) (x * y) := wide_lt h l
theorem Sm.add {k : Nat} {x y : Int} (h : Sm k x) (l : Sm k y) : Sm (k + 1) (x + y) := by
  unfold Sm at *
  have : (x + y).natAbs ≤ x.natAbs + y.natAbs := Int.natAbs_add_le x y
  rw [Nat.pow_succ]
  omega
theorem Sm.neg {k : Nat} {x : Int} (h : Sm k x) : Sm k (-x) := by
  unfold Sm at *
  omega
theorem Sm.sub {k : Nat} {x y : Int} (h : Sm k x) (l : Sm k y) : Sm (k + 1) (x - y) := by
  have := h.add l.neg
  rwa [← Int.sub_eq_add_neg] at this
theorem Sm.ad {j k : Nat} {x y : Int} (h : Sm j x) (l : Sm k y) : Sm (j + k + 1) (x + y) := (h.mono (Nat.le_add_right j k)).add (l.mono (Nat.le_add_left k j))
theorem Sm.sb {j k : Nat} {x y : Int} (h : Sm j x) (l : Sm k y) : Sm (j + k + 1) (x - y) := (h.mono (Nat.le_add_right j k)).sub (l.mono (Nat.le_add_left k j))
theorem Sm.lit {k : Nat} {x : Int} (h : x.natAbs < 2 ^ k := by decide) : Sm k x := h
theorem Sm.le {k : Nat} {x y : Int} (h : Sm k y) (h0 : 0 ≤ x) (h1 : x ≤ y) : Sm k x := by
  unfold Sm at *
  omega
theorem Sm.pw {j : Nat} {x : Int} (h : Sm j x) (n : Nat) : Sm (j * n + 1) (x ^ n) := by
  induction n with
  | zero => rw [Int.pow_zero]; exact (Sm.lit (k := 1)).mono (by omega)
  | succ n ih => rw [Int.pow_succ]; exact (ih.mul h).mono (by rw [Nat.mul_succ]; omega)
/-- what * asks -/
theorem Sm.mx {j k : Nat} {x y : Int} (h : Sm j x) (l : Sm k y) (b : j + k ≤ 134217728) : CMulX x y := mulx_ok h l b
end RR

namespace RR
open PySem PySem.Spec PyProof.Rows L2
/-- a tuple of two ints -/
def Tp (K : PySem.W.Frag) (H : Hp) (v : V) (x y : Int) : Prop := ∃ p, v = .ref p ∧ SqT K H p [.int x, .int y]
theorem Tp.of {K : PySem.W.Frag} {H : Hp} {p : Addr} {x y : Int} (h : H p = some (.tup [.int x, .int y])) : Tp K H (.ref p) x y := ⟨p, rfl, sq_of h⟩
theorem dp2 {K : PySem.W.Frag} {H : Hp} {v : V} {x y : Int} (h : Tp K H v x y) : Dp K H v (.tuple [.int x, .int y]) := by
  obtain ⟨p, rfl, h⟩ := h
  exact .tup h (.cons (.int x) (.cons (.int y) .nil))
theorem eqv2 (x y u v : Int) : PyData.eqv (.tuple [.int x, .int y]) (.tuple [.int u, .int v]) = (decide (x = u) && decide (y = v)) := by
  simp only [PyData.eqv, PyData.eqvAll, Bool.and_true]
  rfl
section
variable {X : Cx}
/-- ==, != of two tuples of two ints -/
theorem op_eq2 (hu : X.A.units + 64 < cLine) : OpR X (compareOp .Eq) (fun x y H Q => ∃ a b c d, Tp X.K H x a b ∧ Tp X.K H y c d ∧ Q (.bl (decide (a = c) && decide (b = d))) H) := by
  intro pins s σ H x y v u Q I rx ry h
  obtain ⟨a, b, c, d, h1, h2, q⟩ := h
  exact op_eqD hu pins s σ H x y v u Q I rx ry ⟨_, _, dp2 h1, dp2 h2, rfl, rfl, by rw [eqv2]; exact q⟩
theorem op_ne2 (hu : X.A.units + 64 < cLine) : OpR X (compareOp .NotEq) (fun x y H Q => ∃ a b c d, Tp X.K H x a b ∧ Tp X.K H y c d ∧ Q (.bl (!(decide (a = c) && decide (b = d)))) H) := by
  intro pins s σ H x y v u Q I rx ry h
  obtain ⟨a, b, c, d, h1, h2, q⟩ := h
  exact op_neD hu pins s σ H x y v u Q I rx ry ⟨_, _, dp2 h1, dp2 h2, rfl, rfl, by rw [eqv2]; exact q⟩
/-- a ** b of a great int -/
def CPowW (i j : Int) : Prop := 0 ≤ j ∧ (Builtin.Int.intBits i : Int) * j ≤ 2 ^ 27
theorem op_powW : OpR X (binaryOp .Pow) (rI CPowW fun i j => .int (i ^ j.toNat)) := opI fun i j _ _ _ _ _ hc q => pow_int hc.1 hc.2 q
/-- isinstance of an int -/
theorem isi_int : CallR X (.builtin "isinstance") (fun xs H Q => ∃ i : Int, xs = [.int i, .ty "int"] ∧ Q (.bl true) H) := by
  intro pins s σ H xs us Q I r h
  obtain ⟨i, rfl, q⟩ := h
  exact call_isi pins s σ H _ us Q I r ⟨.int i, .ty "int", .type "int", .type "int", true, rfl, .ty "int", .base (.int i), kit_ty (by decide +kernel), q⟩
theorem isi_bool : CallR X (.builtin "isinstance") (fun xs H Q => ∃ i : Int, xs = [.int i, .ty "bool"] ∧ Q (.bl false) H) := by
  intro pins s σ H xs us Q I r h
  obtain ⟨i, rfl, q⟩ := h
  exact call_isi pins s σ H _ us Q I r ⟨.int i, .ty "bool", .type "int", .type "bool", false, rfl, .ty "bool", .base (.int i), kit_ty (by decide +kernel), q⟩
theorem isi_list : CallR X (.builtin "isinstance") (fun xs H Q => ∃ (a : Addr) (ys : List V), xs = [.ref a, .ty "list"] ∧ H a = some (.lst ys) ∧ Q (.bl true) H) := by
  intro pins s σ H xs us Q I r h
  obtain ⟨a, ys, rfl, e, q⟩ := h
  exact call_isi pins s σ H _ us Q I r ⟨.ref a, .ty "list", .type "list", .type "list", true, rfl, .ty "list", .base (.lst e), kit_ty (by decide +kernel), q⟩
theorem isi_tup : CallR X (.builtin "isinstance") (fun xs H Q => ∃ (a : Addr) (ys : List V), xs = [.ref a, .ty "tuple"] ∧ H a = some (.tup ys) ∧ Q (.bl true) H) := by
  intro pins s σ H xs us Q I r h
  obtain ⟨a, ys, rfl, e, q⟩ := h
  exact call_isi pins s σ H _ us Q I r ⟨.ref a, .ty "tuple", .type "tuple", .type "tuple", true, rfl, .ty "tuple", .base (.tup e), kit_ty (by decide +kernel), q⟩
end
/-- an if and what follows it, once -/
theorem split_if {c : Prop} [Decidable c] {t u : TS} {D : Ends} {σ : L2.St} {H : Hp} (R : L2.St → Hp → Prop) (hR : ∀ σ' H', R σ' H' → D.nx σ' H')
    (h : ∀ D' : Ends, (∀ σ' H', R σ' H' → D'.nx σ' H') → if c then t D' σ H else u D' σ H) : if c then t D σ H else u D σ H := h D hR
theorem sm_bits {z : Int} {k : Nat} (h : Builtin.Int.intBits z ≤ k) : Sm k z := by
  unfold Builtin.Int.intBits at h
  unfold Sm
  split at h
  · rename_i e
    have e0 : z = 0 := by simpa using e
    subst e0
    exact Nat.two_pow_pos k
  · exact Nat.lt_of_lt_of_le Nat.lt_log2_self (Nat.pow_le_pow_right (by decide) h)
theorem getD_bits {ns : List Int} {k : Nat} (h : ∀ z ∈ ns, Builtin.Int.intBits z ≤ k) (i : Nat) : Sm k (ns.getD i 0) := by
  rw [List.getD_eq_getElem?_getD]
  cases e : ns[i]? with
  | none => exact Nat.two_pow_pos k
  | some z => exact sm_bits (h z (List.mem_of_getElem? e))
end RR

namespace RR
/-! the pairs of a base -/
def XY (a : Int) : Nat → Int × Int
  | 0 => (1, 0)
  | n + 1 => (a * (XY a n).1 + (a * a - 1) * (XY a n).2, (XY a n).1 + a * (XY a n).2)
def px (a : Int) (n : Nat) : Int := (XY a n).1
def py (a : Int) (n : Nat) : Int := (XY a n).2
theorem px0 (a : Int) : px a 0 = 1 := rfl
theorem py0 (a : Int) : py a 0 = 0 := rfl
theorem px1 (a : Int) (n : Nat) : px a (n + 1) = a * px a n + (a * a - 1) * py a n := rfl
theorem py1 (a : Int) (n : Nat) : py a (n + 1) = px a n + a * py a n := rfl
theorem pell (a : Int) (n : Nat) : px a n * px a n - (a * a - 1) * (py a n * py a n) = 1 := by
  induction n with
  | zero => rw [px0, py0]; omega
  | succ n ih => rw [px1, py1]; grind
theorem pxy_add (a : Int) (m n : Nat) : px a (m + n) = px a m * px a n + (a * a - 1) * (py a m * py a n) ∧ py a (m + n) = px a m * py a n + py a m * px a n := by
  induction n with
  | zero => rw [px0, py0, Nat.add_zero]; constructor <;> grind
  | succ n ih =>
    obtain ⟨h1, h2⟩ := ih
    rw [← Nat.add_assoc, px1, py1, px1, py1, h1, h2]
    constructor <;> grind
theorem px_dbl (a : Int) (n : Nat) : px a (2 * n) = 2 * px a n * px a n - 1 := by
  rw [Nat.two_mul, (pxy_add a n n).1]
  have := pell a n
  grind
theorem py_dbl (a : Int) (n : Nat) : py a (2 * n) = 2 * px a n * py a n := by
  rw [Nat.two_mul, (pxy_add a n n).2]
  grind
theorem pxy_pos {a : Int} (ha : 2 ≤ a) (n : Nat) : 0 ≤ py a n ∧ py a n < px a n := by
  induction n with
  | zero => rw [px0, py0]; omega
  | succ n ih =>
    obtain ⟨h1, h2⟩ := ih
    rw [px1, py1]
    have e1 : a * a ≥ 2 * a := Int.mul_le_mul_of_nonneg_right ha (by omega)
    have e2 : a * px a n ≥ 2 * px a n := Int.mul_le_mul_of_nonneg_right ha (by omega)
    have e3 : (a * a - 1) * py a n ≥ a * py a n := Int.mul_le_mul_of_nonneg_right (by omega) h1
    have e4 : 0 ≤ a * py a n := Int.mul_nonneg (by omega) h1
    omega
theorem px_mono1 {a : Int} (ha : 2 ≤ a) (n : Nat) : px a n ≤ px a (n + 1) := by
  obtain ⟨h1, h2⟩ := pxy_pos ha n
  rw [px1]
  have e1 : a * a ≥ 2 * a := Int.mul_le_mul_of_nonneg_right ha (by omega)
  have e2 : a * px a n ≥ 2 * px a n := Int.mul_le_mul_of_nonneg_right ha (by omega)
  have e3 : 0 ≤ (a * a - 1) * py a n := Int.mul_nonneg (by omega) h1
  omega
theorem px_mono {a : Int} (ha : 2 ≤ a) {m n : Nat} (h : m ≤ n) : px a m ≤ px a n := by
  induction h with
  | refl => exact Int.le_refl _
  | step _ ih => exact Int.le_trans ih (px_mono1 ha _)
/-! signs to the base two -/
def bval (l : List Nat) : Nat := l.foldl (fun v c => 2 * v + (c - 48)) 0
theorem bval_snoc (l : List Nat) (c : Nat) : bval (l ++ [c]) = 2 * bval l + (c - 48) := by
  unfold bval
  rw [List.foldl_append]
  rfl
theorem dig2 {d : Nat} (h : d < 2) : (Nat.digitChar d).toNat = 48 + d := by
  match d, h with
  | 0, _ => rfl
  | 1, _ => rfl
theorem binL_lt {n : Nat} (h : n < 2) : binL n = [48 + n] := by
  unfold binL
  rw [Nat.toDigits_of_lt_base h, List.map_singleton, dig2 h]
theorem binL_ge {n : Nat} (h : 2 ≤ n) : binL n = binL (n / 2) ++ [48 + n % 2] := by
  unfold binL
  rw [Nat.toDigits_of_base_le (by decide) h, List.map_append, List.map_singleton, dig2 (Nat.mod_lt _ (by decide))]
theorem bval_bin (n : Nat) : bval (binL n) = n := by
  induction n using Nat.strongRecOn with
  | ind n ih =>
    by_cases h : n < 2
    · rw [binL_lt h]
      show 2 * 0 + (48 + n - 48) = n
      omega
    · rw [binL_ge (by omega), bval_snoc, ih (n / 2) (by omega)]
      omega
theorem bin_mem (n : Nat) : ∀ c ∈ binL n, c = 48 ∨ c = 49 := by
  induction n using Nat.strongRecOn with
  | ind n ih =>
    intro c hc
    by_cases h : n < 2
    · rw [binL_lt h, List.mem_singleton] at hc
      omega
    · rw [binL_ge (by omega), List.mem_append, List.mem_singleton] at hc
      rcases hc with hc | hc
      · exact ih (n / 2) (by omega) c hc
      · omega
theorem bval_take {l : List Nat} {i c : Nat} (h : l[i]? = some c) : bval (l.take (i + 1)) = 2 * bval (l.take i) + (c - 48) := by
  rw [List.take_add_one, h]
  exact bval_snoc _ c
theorem fold_ge (m : List Nat) : ∀ v : Nat, v ≤ m.foldl (fun v c => 2 * v + (c - 48)) v := by
  induction m with
  | nil => intro v; exact Nat.le_refl _
  | cons c m ih =>
    intro v
    have := ih (2 * v + (c - 48))
    rw [List.foldl_cons]
    omega
theorem bval_app (l m : List Nat) : bval l ≤ bval (l ++ m) := by
  unfold bval
  rw [List.foldl_append]
  exact fold_ge m _
theorem bval_le (l : List Nat) (i : Nat) : bval (l.take i) ≤ bval l := by
  have := bval_app (l.take i) (l.drop i)
  rwa [List.take_append_drop] at this
theorem bin_len {n k : Nat} (h : n < 2 ^ k) (hk : 0 < k) : (binS n).length ≤ k := by
  show (binL n).toArray.size ≤ k
  rw [List.size_toArray]
  unfold binL
  rw [List.length_map]
  exact (Nat.length_toDigits_le_iff (by decide) hk).mpr h
end RR
namespace RR
theorem rest_dx (a : Int) (v : Nat) (m : Int) : (2 * (px a v % m) * (px a v % m) - 1) % m = (2 * px a v * px a v - 1) % m := by
  rw [Int.sub_emod, Int.mul_emod, Int.mul_emod 2, Int.emod_emod, ← Int.mul_emod 2, ← Int.mul_emod, ← Int.sub_emod]
theorem rest_dy (a : Int) (v : Nat) (m : Int) : (2 * (px a v % m) * (py a v % m)) % m = (2 * px a v * py a v) % m := by
  rw [Int.mul_emod, Int.mul_emod 2, Int.emod_emod, Int.emod_emod, ← Int.mul_emod 2, ← Int.mul_emod]
theorem modeq {m a b : Int} (k : Int) (h : a - b = m * k) : a % m = b % m :=
  Int.emod_eq_emod_iff_emod_sub_eq_zero.mpr (Int.emod_eq_zero_of_dvd ⟨k, h⟩)
theorem rest_nx (a x y m : Int) : (a * x + (a * a - 1) * y) % m = ((a % m) * (x % m) + ((a % m) * (a % m) - 1) * (y % m)) % m := by
  have h1 := Int.mul_ediv_add_emod a m
  have h2 := Int.mul_ediv_add_emod x m
  have h3 := Int.mul_ediv_add_emod y m
  generalize a % m = A at *
  generalize x % m = X at *
  generalize y % m = Y at *
  generalize a / m = q1 at *
  generalize x / m = q2 at *
  generalize y / m = q3 at *
  exact modeq (q1 * x + A * q2 + (a * a - 1) * q3 + q1 * (a + A) * Y) (by grind)
theorem rest_ny (a x y m : Int) : (x + a * y) % m = ((x % m) + (a % m) * (y % m)) % m := by
  have h1 := Int.mul_ediv_add_emod a m
  have h2 := Int.mul_ediv_add_emod x m
  have h3 := Int.mul_ediv_add_emod y m
  generalize a % m = A at *
  generalize x % m = X at *
  generalize y % m = Y at *
  generalize a / m = q1 at *
  generalize x / m = q2 at *
  generalize y / m = q3 at *
  exact modeq (q2 + q1 * y + A * q3) (by grind)
end RR
namespace RR
theorem px_step {a : Int} (ha : 2 ≤ a) (n : Nat) : (a * a - 1) * py a n ≤ a * px a n := by
  induction n with
  | zero => rw [px0, py0]; omega
  | succ n ih =>
    obtain ⟨h1, h2⟩ := pxy_pos ha n
    rw [px1, py1]
    have : a * (a * px a n + (a * a - 1) * py a n) - (a * a - 1) * (px a n + a * py a n) = px a n := by grind
    omega
theorem px_pow {a : Int} (ha : 2 ≤ a) (n : Nat) : px a n ≤ (2 * a) ^ n := by
  induction n with
  | zero => rw [px0, Int.pow_zero]; exact Int.le_refl _
  | succ n ih =>
    have h := px_step ha n
    rw [px1, Int.pow_succ]
    have e := Int.mul_le_mul_of_nonneg_right ih (show 0 ≤ 2 * a by omega)
    have : px a n * (2 * a) = a * px a n + a * px a n := by grind
    omega
theorem px_nat {a : Int} (ha : 2 ≤ a) (n B : Nat) (hB : 2 * a ≤ 2 ^ B) : (px a n).natAbs < 2 ^ (B * n + 1) := by
  have h := px_pow ha n
  have h0 := pxy_pos ha n
  have h2 : (2 * a) ^ n ≤ ((2 : Int) ^ B) ^ n := by
    have hp : ∀ k : Nat, (2 * a) ^ k ≤ ((2 : Int) ^ B) ^ k ∧ 0 ≤ (2 * a) ^ k := by
      intro k
      induction k with
      | zero => exact ⟨by rw [Int.pow_zero, Int.pow_zero]; exact Int.le_refl _, by rw [Int.pow_zero]; decide⟩
      | succ k ih =>
        rw [Int.pow_succ, Int.pow_succ]
        exact ⟨Int.mul_le_mul ih.1 hB (by omega) (Int.le_trans ih.2 ih.1), Int.mul_nonneg ih.2 (by omega)⟩
    exact (hp n).1
  have e : ((2 : Int) ^ B) ^ n = ((2 ^ (B * n) : Nat) : Int) := by
    rw [← Int.pow_mul]
    exact (Int.natCast_pow 2 (B * n)).symm
  rw [e] at h2
  rw [Nat.pow_succ]
  generalize (2 : Nat) ^ (B * n) = P at *
  omega
/-- what a power of x leaves -/
theorem px_power (a x : Int) (n : Nat) : ∃ k, px a n - py a n * (a - x) - x ^ n = (2 * a * x - x * x - 1) * k := by
  induction n with
  | zero => exact ⟨0, by rw [px0, py0, Int.pow_zero]; omega⟩
  | succ n ih =>
    obtain ⟨k, hk⟩ := ih
    refine ⟨x * k + py a n, ?_⟩
    rw [px1, py1, Int.pow_succ]
    grind
theorem px_cong (a b m : Int) (k : Int) (h : a - b = m * k) (n : Nat) : (∃ q, px a n - px b n = m * q) ∧ ∃ q, py a n - py b n = m * q := by
  induction n with
  | zero => exact ⟨⟨0, by rw [px0, px0]; omega⟩, ⟨0, by rw [py0, py0]; omega⟩⟩
  | succ n ih =>
    obtain ⟨⟨q, hq⟩, ⟨r, hr⟩⟩ := ih
    refine ⟨⟨k * px a n + b * q + (a * a - 1) * r + k * (a + b) * py b n, ?_⟩, ⟨q + k * py a n + b * r, ?_⟩⟩
    · rw [px1, px1]; grind
    · rw [py1, py1]; grind
end RR
namespace RR
theorem px_rec (a : Int) (k : Nat) : px a (k + 2) = 2 * a * px a (k + 1) - px a k := by
  rw [px1 a (k + 1), px1, py1]; grind
theorem py_rec (a : Int) (k : Nat) : py a (k + 2) = 2 * a * py a (k + 1) - py a k := by
  rw [py1 a (k + 1), px1, py1]; grind
theorem rest_rec {a m x2 X2 x1 X1 : Int} (h2 : x2 % m = X2 % m) (h1 : x1 % m = X1 % m) : (2 * a * x2 - x1) % m = (2 * a * X2 - X1) % m := by
  have e1 := Int.mul_ediv_add_emod x2 m
  have e2 := Int.mul_ediv_add_emod X2 m
  have e3 := Int.mul_ediv_add_emod x1 m
  have e4 := Int.mul_ediv_add_emod X1 m
  rw [h2] at e1
  rw [h1] at e3
  generalize X2 % m = A at *
  generalize X1 % m = B at *
  exact modeq (2 * a * (x2 / m - X2 / m) - (x1 / m - X1 / m)) (by grind)
theorem rest_dx' {a x : Int} {v : Nat} {m : Int} (h : x % m = px a v % m) : (2 * x * x - 1) % m = px a (2 * v) % m := by
  rw [px_dbl, ← rest_dx a v m, ← h]
  have e1 := Int.mul_ediv_add_emod x m
  generalize x % m = A at *
  exact modeq (2 * (x / m) * (x + A)) (by grind)
theorem rest_dy' {a x y : Int} {v : Nat} {m : Int} (h : x % m = px a v % m) (h' : y % m = py a v % m) : (2 * x * y) % m = py a (2 * v) % m := by
  rw [py_dbl, ← rest_dy a v m, ← h, ← h']
  have e1 := Int.mul_ediv_add_emod x m
  have e2 := Int.mul_ediv_add_emod y m
  generalize x % m = A at *
  generalize y % m = B at *
  exact modeq (2 * (x / m) * y + 2 * A * (y / m)) (by grind)
theorem rest_nx' {a x y : Int} {v : Nat} {m : Int} (h : x % m = px a v % m) (h' : y % m = py a v % m) : (a * x + (a * a - 1) * y) % m = px a (v + 1) % m := by
  rw [px1, rest_nx a x y, rest_nx a (px a v), h, h']
theorem rest_ny' {a x y : Int} {v : Nat} {m : Int} (h : x % m = px a v % m) (h' : y % m = py a v % m) : (x + a * y) % m = py a (v + 1) % m := by
  rw [py1, rest_ny a x y, rest_ny a (px a v), h, h']
/-- the value of signs, the lowest first -/
def lval : List Int → Nat
  | [] => 0
  | d :: r => d.toNat + 2 * lval r
theorem lval_app (l : List Int) (d : Int) : lval (l ++ [d]) = lval l + 2 ^ l.length * d.toNat := by
  induction l with
  | nil => show d.toNat + 2 * 0 = 0 + 2 ^ 0 * d.toNat; omega
  | cons c l ih =>
    show c.toNat + 2 * lval (l ++ [d]) = c.toNat + 2 * lval l + 2 ^ (l.length + 1) * d.toNat
    rw [ih, Nat.pow_succ, Nat.mul_add, Nat.mul_comm (2 ^ l.length) 2, Nat.mul_assoc]
    omega
theorem lval_drop {l : List Int} {i : Nat} {d : Int} (h : l[i]? = some d) : lval (l.drop i) = d.toNat + 2 * lval (l.drop (i + 1)) := by
  obtain ⟨hi, e⟩ := List.getElem?_eq_some_iff.mp h
  rw [List.drop_eq_getElem_cons hi, e]
  rfl
end RR
namespace RR
theorem rest_addx (a m : Int) (i j : Nat) : ((px a i % m) * (px a j % m) + (a * a - 1) * (py a i % m) * (py a j % m)) % m = px a (i + j) % m := by
  rw [(pxy_add a i j).1]
  have e1 := Int.mul_ediv_add_emod (px a i) m
  have e2 := Int.mul_ediv_add_emod (px a j) m
  have e3 := Int.mul_ediv_add_emod (py a i) m
  have e4 := Int.mul_ediv_add_emod (py a j) m
  generalize px a i % m = A at *
  generalize px a j % m = B at *
  generalize py a i % m = C at *
  generalize py a j % m = D at *
  exact (modeq ((px a i / m) * px a j + A * (px a j / m) + (a * a - 1) * ((py a i / m) * py a j + C * (py a j / m))) (by grind)).symm
theorem rest_addy (a m : Int) (i j : Nat) : ((px a i % m) * (py a j % m) + (py a i % m) * (px a j % m)) % m = py a (i + j) % m := by
  rw [(pxy_add a i j).2]
  have e1 := Int.mul_ediv_add_emod (px a i) m
  have e2 := Int.mul_ediv_add_emod (px a j) m
  have e3 := Int.mul_ediv_add_emod (py a i) m
  have e4 := Int.mul_ediv_add_emod (py a j) m
  generalize px a i % m = A at *
  generalize px a j % m = B at *
  generalize py a i % m = C at *
  generalize py a j % m = D at *
  exact (modeq ((px a i / m) * py a j + A * (py a j / m) + (py a i / m) * px a j + C * (px a j / m)) (by grind)).symm
end RR
namespace RR
theorem sq_lt {g k e : Nat} (h : g < 2 ^ e) (hk : k < 4) (he : 3 ≤ e) : g * g + k < 2 ^ (e * 2) := by
  have h8 : 2 ^ 3 ≤ 2 ^ e := Nat.pow_le_pow_right (by decide) he
  rw [Nat.pow_mul, Nat.pow_two]
  generalize 2 ^ e = P at *
  have h1 := Nat.mul_le_mul (show g + 1 ≤ P from h) (show g + 1 ≤ P from h)
  have h2 := Nat.mul_le_mul h8 h8
  have h3 : (g + 1) * (g + 1) = g * g + 2 * g + 1 := by grind
  by_cases hg : g < 2
  · have : g * g ≤ 1 * 1 := Nat.mul_le_mul (by omega) (by omega)
    omega
  · omega
end RR

namespace RR
open PySem PySem.Spec PyProof.Rows L2
section
variable {X : Cx}
/-- f(*y) -/
theorem pe_calS {x : Str} {k : Nat} {ps : List Str} {sp : Sp} {p pos sp_ : Pos} {e : Expr} {te : TE} (C : Cal X.prog X.w X.K X.mg X.base x k ps sp) (hr : Room k X.A) (hg : Gl X x) (he : PE X e te)
    (hd : (x == ("__debug__" : Str)) = false := by decide) (hst : starEach [.Starred e sp_] X.env = [(true, eval e X.env)] := by rfl) :
    PE X (.Call (.Name x p) [.Starred e sp_] [] pos) (fun σ H Q => te σ H fun y H1 => ∃ a xs, y = V.ref a ∧ (SqT X.K H1 a xs ∨ SqL X.K H1 a xs) ∧ sp xs H1 Q L2.E0) := by
  obtain ⟨f, fd, F, g, kp, b⟩ := C.ex
  have h := StX.pe_callS1 (p := p) (pos := pos) (sp_ := sp_) (F.raw b .nil) hr kp hg g L2.pass0 he hd hst
  refine ⟨fun pins s σ H Q I q => h.run pins s σ H Q I ?_⟩
  simp only [List.append_nil]
  exact q
end
/-- for x in reversed(xs) -/
theorem for_rev {K : PySem.W.Frag} {a : Addr} {xs : List V} {g : TG} {tb : TS} {D : Ends} {σ : L2.St} {H : Hp} (Pv : Nat → L2.St → Hp → Prop) (h0 : Pv 0 σ H) (hl : ∀ i σ H, i ≤ xs.length → Pv i σ H → SqL K H a xs)
    (hs : ∀ i x σ H, i < xs.length → xs[xs.length - 1 - i]? = some x → Pv i σ H → g x σ H fun σ2 H2 => tb { D with nx := Pv (i + 1), ct := Pv (i + 1), bk := D.nx } σ2 H2) (hd : ∀ σ H, Pv xs.length σ H → D.nx σ H) :
    ∃ W : Nat → Nat → L2.St → Hp → Prop, (∃ m, W 0 m σ H) ∧ ∀ i m σ H, W i m σ H →
      ((Itv K a xs.length).stop i H ∧ D.nx σ H) ∨ ((Itv K a xs.length).go i H ∧ ∃ N : L2.St → Hp → Prop, (∀ σ' H', N σ' H' → ∃ m', m' < m ∧ W (i + 1) m' σ' H') ∧
        ∀ x H', (Itv K a xs.length).yld i H x H' → g x σ H' fun σ2 H2 => tb { D with nx := N, ct := N, bk := D.nx } σ2 H2) := by
  refine ⟨fun i m σ H => m = xs.length - i ∧ i ≤ xs.length ∧ Pv i σ H, ⟨xs.length, by simp, Nat.zero_le _, h0⟩, ?_⟩
  rintro i m σ H ⟨rfl, hi, p⟩
  have q := hl i σ H hi p
  by_cases hlt : i < xs.length
  · have hix : xs[xs.length - 1 - i]? = some (xs[xs.length - 1 - i]'(by omega)) := List.getElem?_eq_getElem (by omega)
    refine .inr ⟨⟨hlt, xs, _, q, hix⟩, Pv (i + 1), fun σ' H' p' => ⟨xs.length - (i + 1), by omega, rfl, hlt, p'⟩, fun x H' y => ?_⟩
    obtain ⟨e, y⟩ := y
    subst e
    exact hs i x σ _ hlt (y xs q) p
  · have e : i = xs.length := by omega
    subst e
    exact .inl ⟨Nat.le_refl _, hd σ H p⟩
theorem Same.new {H H1 : Hp} {p : Addr} {o : HO} (s : Same H H1) (h : H p = none) : Same H (upd H1 p o) := fun b u e => by
  rw [upd_ne (ne_of_none e h)]
  exact s b u e
theorem px_ge {a : Int} (ha : 2 ≤ a) (n : Nat) : ((2 ^ n : Nat) : Int) ≤ px a n := by
  induction n with
  | zero => rw [px0]; decide
  | succ n ih =>
    obtain ⟨h1, h2⟩ := pxy_pos ha n
    rw [px1]
    have e1 : a * a ≥ 2 * a := Int.mul_le_mul_of_nonneg_right ha (by omega)
    have e2 : a * px a n ≥ 2 * px a n := Int.mul_le_mul_of_nonneg_right ha (by omega)
    have e3 : 0 ≤ (a * a - 1) * py a n := Int.mul_nonneg (by omega) h1
    rw [Nat.pow_succ]
    push_cast at *
    omega
theorem px_ix {a : Int} (ha : 2 ≤ a) {n B : Nat} (h : Sm B (px a n)) : n < B := by
  have h1 := px_ge ha n
  have h2 := pxy_pos ha n
  unfold Sm at h
  by_cases c : n < B
  · exact c
  · have := Nat.pow_le_pow_right (n := 2) (by decide) (show B ≤ n by omega)
    omega
theorem app_go {H : Hp} {Q : VK} {p : Addr} {v : V} {xs : List V} (h : H p = some (.lst xs)) (hl : xs.length < sizeLine) (q : Q .non (upd H p (.lst (xs ++ [v])))) : rAppend (.ref p) [v] H Q :=
  ⟨p, xs, v, rfl, rfl, h, hl, q⟩
theorem atI_neg {α : Type} {xs : List α} {k : Nat} {v : α} (h0 : 0 < k) (hk : k ≤ xs.length) (h : xs[xs.length - k]? = some v) : atI xs (-(k : Int)) = some v := by
  unfold atI ixN
  rw [if_neg (by omega), if_pos (by omega)]
  show xs[(-(k : Int) + xs.length).toNat]? = some v
  rw [show (-(k : Int) + xs.length).toNat = xs.length - k by omega]
  exact h
theorem cut_take (xs : List V) (n : Nat) (h : n ≤ xs.length) : cutV xs none (some (n : Int)) = xs.take n := by
  unfold cutV
  rw [HT.sIx_none, HT.sIx_nat, Nat.min_eq_left h, List.drop_zero, Nat.sub_zero]
theorem cut_mid (xs : List V) (i j : Nat) (hi : i ≤ xs.length) (hj : j ≤ xs.length) : cutV xs (some (i : Int)) (some (j : Int)) = (xs.drop i).take (j - i) := by
  unfold cutV
  rw [HT.sIx_nat, HT.sIx_nat, Nat.min_eq_left hi, Nat.min_eq_left hj]
/-- at L a list of the pairs with the indexes 0, 1, .. -/
def PL (a : Int) (H : Hp) (L : Addr) (n : Nat) : Prop := ∃ ps : List Addr, ps.length = n ∧ H L = some (.lst (ps.map V.ref)) ∧ ∀ (i : Nat) (p : Addr), ps[i]? = some p → H p = some (.tup [.int (px a i), .int (py a i)])
theorem PL.keep {a : Int} {H H' : Hp} {L : Addr} {n : Nat} (h : PL a H L n) (s : Same H H') : PL a H' L n := by
  obtain ⟨ps, e, hL, hp⟩ := h
  exact ⟨ps, e, s _ _ hL, fun i p hi => s _ _ (hp i p hi)⟩
theorem PL.at {K : PySem.W.Frag} {a : Int} {H : Hp} {L : Addr} {n : Nat} (h : PL a H L n) {Q : VK} {i : Nat} (hi : i < n) (q : ∀ p, H p = some (.tup [.int (px a i), .int (py a i)]) → Q (.ref p) H) :
    rIxL K (.ref L) (.int (i : Int)) H Q := by
  obtain ⟨ps, e, hL, hp⟩ := h
  have h1 : ps[i]? = some (ps[i]'(by omega)) := List.getElem?_eq_getElem (by omega)
  exact ixL_as (.inl (.inl hL)) (atI_nat (by rw [List.getElem?_map, h1]; rfl)) (q _ (hp i _ h1))
theorem PL.at' {K : PySem.W.Frag} {a : Int} {H : Hp} {L : Addr} {n : Nat} (h : PL a H L n) {Q : VK} {i : Nat} {z : Int} (e : z = (i : Int)) (hi : i < n) (q : ∀ p, H p = some (.tup [.int (px a i), .int (py a i)]) → Q (.ref p) H) :
    rIxL K (.ref L) (.int z) H Q := by
  subst e
  exact h.at hi q
theorem ne_self {x y : V} (h : x = y) : ¬ (!decide (x = y)) = true := by
  rw [decide_eq_true h]
  decide
theorem ne2_self {a b c d : Int} (h : a = c) (h' : b = d) : ¬ (!(decide (a = c) && decide (b = d))) = true := by
  rw [decide_eq_true h, decide_eq_true h']
  decide
theorem PL.push {a : Int} {H : Hp} {L : Addr} {ps : List Addr} (hL : H L = some (.lst (ps.map V.ref))) (hp : ∀ (i : Nat) (p : Addr), ps[i]? = some p → H p = some (.tup [.int (px a i), .int (py a i)])) {p : Addr}
    (h : H p = some (.tup [.int (px a ps.length), .int (py a ps.length)])) : PL a (upd H L (.lst (ps.map V.ref ++ [V.ref p]))) L (ps.length + 1) := by
  refine ⟨ps ++ [p], by rw [List.length_append]; rfl, by rw [upd_same, List.map_append]; rfl, fun i t hi => ?_⟩
  by_cases hj : i < ps.length
  · rw [List.getElem?_append_left hj] at hi
    have h1 := hp i t hi
    rw [upd_ne (ne_of hL h1 (by intro z; cases z)).symm]
    exact h1
  · rw [List.getElem?_append_right (by omega)] at hi
    have h3 : i - ps.length < 1 := (List.getElem?_eq_some_iff.mp hi).1
    have h4 : i = ps.length := by omega
    rw [h4, Nat.sub_self] at hi
    have h5 : p = t := Option.some.inj hi
    rw [← h5, h4, upd_ne (ne_of hL h (by intro z; cases z)).symm]
    exact h
/-! more on pairs -/
theorem py_lt1 {a : Int} (ha : 2 ≤ a) (n : Nat) : py a n < py a (n + 1) := by
  obtain ⟨h1, h2⟩ := pxy_pos ha n
  rw [py1]
  have : 2 * py a n ≤ a * py a n := Int.mul_le_mul_of_nonneg_right ha h1
  omega
theorem py_lt {a : Int} (ha : 2 ≤ a) {m n : Nat} (h : m < n) : py a m < py a n := by
  induction n with
  | zero => omega
  | succ n ih =>
    by_cases e : m = n
    · rw [e]; exact py_lt1 ha n
    · exact Int.lt_trans (ih (by omega)) (py_lt1 ha n)
theorem py_le_iff {a : Int} (ha : 2 ≤ a) (m n : Nat) : py a m ≤ py a n ↔ m ≤ n := by
  constructor
  · intro h
    by_cases e : m ≤ n
    · exact e
    · exact absurd (py_lt ha (show n < m by omega)) (by omega)
  · intro h
    by_cases e : m = n
    · rw [e]; exact Int.le_refl _
    · exact Int.le_of_lt (py_lt ha (by omega))
theorem pxy_sub (a : Int) (s t : Nat) : px a (t + s) * px a s - (a * a - 1) * py a (t + s) * py a s = px a t ∧ py a (t + s) * px a s - px a (t + s) * py a s = py a t := by
  rw [(pxy_add a t s).1, (pxy_add a t s).2]
  have := pell a s
  constructor <;> grind
/-- every two squares one apart are a pair's -/
theorem pell_all {a : Int} (ha : 2 ≤ a) : ∀ (k : Nat) (x y : Int), y.toNat ≤ k → 0 ≤ x → 0 ≤ y → x * x - (a * a - 1) * y * y = 1 → ∃ n, x = px a n ∧ y = py a n := by
  intro k
  induction k with
  | zero =>
    intro x y hk hx hy h
    have e : y = 0 := by omega
    subst e
    refine ⟨0, ?_, rfl⟩
    rw [px0]
    have h2 : x * x = 1 := by grind
    have h3 : x < 2 := by
      by_cases c : x < 2
      · exact c
      · have := Int.mul_le_mul (a := 2) (b := 2) (c := x) (d := x) (by omega) (by omega) (by omega) hx
        omega
    have h4 : x ≠ 0 := by
      intro z
      rw [z] at h2
      exact absurd h2 (by decide)
    omega
  | succ k ih =>
    intro x y hk hx hy h
    by_cases e : y = 0
    · exact ih x y (by omega) hx hy h
    · have y1 : 1 ≤ y := by omega
      have hyy : 1 ≤ y * y := by
        have := Int.mul_le_mul (a := 1) (b := 1) (c := y) (d := y) y1 y1 (by omega) hy
        omega
      have hxy : x ≤ a * y := by
        by_cases c : x ≤ a * y
        · exact c
        · have c2 : a * y + 1 ≤ x := by omega
          have p0 : 0 ≤ a * y := Int.mul_nonneg (by omega) hy
          have := Int.mul_le_mul (a := a * y + 1) (b := a * y + 1) (c := x) (d := x) c2 c2 (by omega) hx
          have e1 : (a * y + 1) * (a * y + 1) = a * a * y * y + 2 * (a * y) + 1 := by grind
          have e2 : x * x = a * a * y * y - y * y + 1 := by grind
          omega
      have hlt : a * y - x < y := by
        by_cases c : a * y - x < y
        · exact c
        · have c2 : x ≤ (a - 1) * y := by
            have : (a - 1) * y = a * y - y := by grind
            omega
          have p0 : 0 ≤ (a - 1) * y := Int.mul_nonneg (by omega) hy
          have := Int.mul_le_mul c2 c2 hx p0
          have e1 : (a - 1) * y * ((a - 1) * y) = a * a * y * y - y * y - 2 * (a - 1) * (y * y) := by grind
          have e2 : x * x = a * a * y * y - y * y + 1 := by grind
          have e3 : 0 ≤ (a - 1) * (y * y) := Int.mul_nonneg (by omega) (by omega)
          have e4 : 2 * (a - 1) * (y * y) = 2 * ((a - 1) * (y * y)) := by grind
          omega
      have hx0 : 0 ≤ a * x - (a * a - 1) * y := by
        by_cases c : 0 ≤ a * x - (a * a - 1) * y
        · exact c
        · have c2 : a * x ≤ (a * a - 1) * y := by omega
          have p1 : 0 ≤ a * x := Int.mul_nonneg (by omega) hx
          have p2 : 2 * a ≤ a * a := Int.mul_le_mul_of_nonneg_right ha (by omega)
          have p0 : 0 ≤ (a * a - 1) * y := Int.mul_nonneg (by omega) hy
          have := Int.mul_le_mul c2 c2 p1 p0
          have e1 : a * x * (a * x) = a * a * (x * x) := by grind
          have e2 : (a * a - 1) * y * ((a * a - 1) * y) = (a * a - 1) * (x * x - 1) := by
            rw [← h]; grind
          have e3 : (a * a - 1) * (x * x - 1) = a * a * (x * x) - x * x - (a * a - 1) := by grind
          have e4 : 0 ≤ x * x := Int.mul_nonneg hx hx
          omega
      obtain ⟨n, e1, e2⟩ := ih (a * x - (a * a - 1) * y) (a * y - x) (by omega) hx0 (by omega) (by grind)
      refine ⟨n + 1, ?_, ?_⟩
      · rw [px1, ← e1, ← e2]; grind
      · rw [py1, ← e1, ← e2]; grind
theorem pell_only {a x y : Int} (ha : 2 ≤ a) (hx : 0 ≤ x) (hy : 0 ≤ y) (h : x * x - (a * a - 1) * y * y = 1) : ∃ n, x = px a n ∧ y = py a n := pell_all ha _ x y (Nat.le_refl _) hx hy h
theorem py_ge {a : Int} (ha : 2 ≤ a) (n : Nat) : (n : Int) ≤ py a n := by
  induction n with
  | zero => rw [py0]; decide
  | succ n ih =>
    have := py_lt1 ha n
    omega
theorem tNoPart_go {σ : L2.St} {H : Hp} {Q : Option Int → Hp → Prop} (q : Q none H) : tNoPart σ H Q := q
end RR

set_option maxHeartbeats 2000000
namespace RR
open PySem PySem.Calls
theorem entry_comb : entryFor table "math.comb" = some Builtin.«math.comb» := entryFor_of_tree (by kernel_rfl)
theorem kind_comb : builtinKind "math.comb" = none := by kernel_rfl
theorem plain_comb : plainId "math.comb" = true := by decide +kernel
theorem args_comb (a b : Value) : argsOk "math.comb" ⟨[a, b], []⟩ := by
  unfold argsOk
  kernel_rfl
theorem run_comb (a b : Int) (t u : Tok) (h0 : ¬ a < 0) (h1 : ¬ b < 0) (h2 : ¬ b > a) (h3 : ¬ min b (a - b) > Builtin.Math.maxSsize) (h4 : ¬ min b (a - b) > Builtin.Math.manyFactors) (h5 : ¬ min b (a - b) > 9000)
    (hsz : (Builtin.Math.fallingProduct a (min b (a - b)).toNat / Builtin.Math.fallingProduct (min b (a - b)) (min b (a - b)).toNat).natAbs.log2 < bitsLine) :
    Gives (Builtin.«math.comb» ⟨[.int a t, .int b u], []⟩) (.int (Builtin.Math.fallingProduct a (min b (a - b)).toNat / Builtin.Math.fallingProduct (min b (a - b)) (min b (a - b)).toNat)) :=
  .of_wp fun M A E s Q h => by
    obtain ⟨hp, g, d, tk, os⟩ := s
    wp_walk
    exact ⟨_, rfl, h⟩
theorem run_comb0 (a b : Int) (t u : Tok) (h0 : ¬ a < 0) (h1 : ¬ b < 0) (h2 : b > a) : Gives (Builtin.«math.comb» ⟨[.int a t, .int b u], []⟩) (.int 0) :=
  .of_wp fun M A E s Q h => by
    obtain ⟨hp, g, d, tk, os⟩ := s
    wp_walk
    exact ⟨_, rfl, h⟩
/-- Pascal's numbers -/
def ch : Nat → Nat → Nat
  | _, 0 => 1
  | 0, _ + 1 => 0
  | n + 1, k + 1 => ch n k + ch n (k + 1)
def fac : Nat → Nat
  | 0 => 1
  | n + 1 => (n + 1) * fac n
def fall (n : Int) : Nat → Int
  | 0 => 1
  | k + 1 => fall n k * (n - k)
theorem fall_eq (n : Int) (k : Nat) : Builtin.Math.fallingProduct n k = fall n k := by
  unfold Builtin.Math.fallingProduct
  induction k with
  | zero => rfl
  | succ k ih =>
    rw [List.range_succ, List.foldl_append, ih]
    rfl
theorem fall_succ (n : Int) (k : Nat) : fall (n + 1) (k + 1) = (n + 1) * fall n k := by
  induction k with
  | zero =>
    show fall (n + 1) 0 * (n + 1 - ((0 : Nat) : Int)) = (n + 1) * fall n 0
    show 1 * (n + 1 - ((0 : Nat) : Int)) = (n + 1) * 1
    omega
  | succ k ih =>
    show fall (n + 1) (k + 1) * (n + 1 - ((k + 1 : Nat) : Int)) = (n + 1) * (fall n k * (n - k))
    rw [ih]
    push_cast
    grind
theorem fall_ch (n : Nat) : ∀ k : Nat, fall n k = (ch n k : Int) * (fac k : Int) := by
  induction n with
  | zero =>
    intro k
    induction k with
    | zero => rfl
    | succ k ih =>
      show fall ((0 : Nat) : Int) k * (((0 : Nat) : Int) - k) = ((0 : Nat) : Int) * _
      match k with
      | 0 => rfl
      | k + 1 =>
        rw [ih]
        show ((0 : Nat) : Int) * _ * _ = _
        grind
  | succ n ih =>
    intro k
    match k with
    | 0 => rfl
    | k + 1 =>
      have e1 := ih k
      have e2 := ih (k + 1)
      have e3 : fall (n : Int) (k + 1) = fall n k * (n - k) := rfl
      have e4 := fall_succ (n : Int) k
      rw [show ((n + 1 : Nat) : Int) = (n : Int) + 1 by omega, e4]
      show _ = ((ch n k + ch n (k + 1) : Nat) : Int) * (((k + 1) * fac k : Nat) : Int)
      rw [e3, e1] at e2
      have e5 : (fac (k + 1) : Int) = ((k : Int) + 1) * (fac k : Int) := by
        show (((k + 1) * fac k : Nat) : Int) = _
        push_cast
        rfl
      rw [e5] at e2
      rw [e1]
      push_cast
      grind
theorem fac_pos (k : Nat) : 0 < fac k := by
  induction k with
  | zero => decide
  | succ k ih => exact Nat.mul_pos (by omega) ih
theorem ch_gt : ∀ (n k : Nat), n < k → ch n k = 0 := by
  intro n
  induction n with
  | zero => intro k h; match k, h with | k + 1, _ => rfl
  | succ n ih =>
    intro k h
    match k, h with
    | k + 1, h =>
      show ch n k + ch n (k + 1) = 0
      rw [ih k (by omega), ih (k + 1) (by omega)]
theorem ch_self : ∀ n : Nat, ch n n = 1 := by
  intro n
  induction n with
  | zero => rfl
  | succ n ih =>
    show ch n n + ch n (n + 1) = 1
    rw [ih, ch_gt n (n + 1) (by omega)]
theorem fall_self (k : Nat) : fall k k = (fac k : Int) := by
  rw [fall_ch, ch_self]
  omega
theorem ch_symm : ∀ (s i j : Nat), i + j = s → ch (i + j) i = ch (i + j) j := by
  intro s
  induction s with
  | zero => intro i j h; have : i = 0 := by omega
            have : j = 0 := by omega
            subst i j; rfl
  | succ s ih =>
    intro i j h
    match i, j, h with
    | 0, j, _ =>
      rw [Nat.zero_add, ch_self]
      unfold ch
      rfl
    | i + 1, 0, _ =>
      rw [Nat.add_zero, ch_self]
      unfold ch
      rfl
    | i + 1, j + 1, h =>
      have h1 := ih i (j + 1) (by omega)
      have h2 := ih (i + 1) j (by omega)
      rw [show i + 1 + (j + 1) = (i + (j + 1)) + 1 by omega]
      show ch (i + (j + 1)) i + ch (i + (j + 1)) (i + 1) = ch (i + (j + 1)) j + ch (i + (j + 1)) (j + 1)
      rw [show i + 1 + j = i + (j + 1) by omega] at h2
      omega
theorem comb_val {n k : Nat} (h : k ≤ n) : fall n (min (k : Int) ((n : Int) - k)).toNat / fall (min (k : Int) ((n : Int) - k)) (min (k : Int) ((n : Int) - k)).toNat = (ch n k : Int) := by
  obtain ⟨m, hm⟩ : ∃ m : Nat, min (k : Int) ((n : Int) - k) = (m : Int) := ⟨min k (n - k), by omega⟩
  rw [hm, Int.toNat_natCast, fall_self, fall_ch, Int.mul_ediv_cancel _ (by have := fac_pos m; omega)]
  by_cases c : m = k
  · rw [c]
  · have e : m = n - k := by omega
    have := ch_symm n k (n - k) (by omega)
    rw [show k + (n - k) = n by omega] at this
    rw [this, e]
theorem ch_le : ∀ n k : Nat, ch n k ≤ 2 ^ n := by
  intro n
  induction n with
  | zero => intro k; match k with | 0 => decide | k + 1 => (show 0 ≤ 1; decide)
  | succ n ih =>
    intro k
    match k with
    | 0 => exact Nat.one_le_two_pow
    | k + 1 =>
      show ch n k + ch n (k + 1) ≤ 2 ^ (n + 1)
      have h1 := ih k
      have h2 := ih (k + 1)
      rw [Nat.pow_succ]
      omega
end RR
namespace RR
open PySem PySem.Spec PyProof.Rows L2
section
variable {X : Cx}
/-- math.comb of two small numbers -/
theorem cr_comb : CallR X (.builtin "math.comb") (fun vs H Q => ∃ n k : Nat, vs = [.int n, .int k] ∧ n ≤ 9000 ∧ Q (.int (ch n k : Int)) H) := by
  intro pins s σ H vs us Q I r h
  obtain ⟨n, k, rfl, hn, q⟩ := h
  obtain ⟨t, u, rfl⟩ := Vals.int2 r
  by_cases hk : k ≤ n
  · have h5 : ¬ min (k : Int) ((n : Int) - k) > 9000 := by omega
    have v := comb_val hk
    rw [← fall_eq, ← fall_eq] at v
    have g := run_comb n k t u (by omega) (by omega) (by omega) (by have : Builtin.Math.maxSsize = 9223372036854775807 := rfl
                                                                    omega) (by have : Builtin.Math.manyFactors = 20000 := rfl
                                                                               omega) h5 (by
      rw [v, Int.natAbs_natCast]
      have h1 := ch_le n k
      have h2 : (ch n k).log2 < 9001 := by
        by_cases h0 : ch n k = 0
        · rw [h0]; decide
        · exact (Nat.log2_lt h0).mpr (Nat.lt_of_le_of_lt h1 (Nat.pow_lt_pow_right (by decide) (by omega)))
      exact Nat.lt_trans h2 (by decide))
    rw [v] at g
    exact call_function_meets kind_comb plain_comb entry_comb (args_comb _ _) g.meets ⟨.int _, H, I.tok _, ⟨_, rfl⟩, q⟩
  · rw [ch_gt n k (by omega)] at q
    have g := run_comb0 n k t u (by omega) (by omega) (by omega)
    exact call_function_meets kind_comb plain_comb entry_comb (args_comb _ _) g.meets ⟨.int _, H, I.tok _, ⟨_, rfl⟩, q⟩
end
end RR

namespace RR
open PySem PySem.Spec PyProof.Rows L2
/-- the pairs of a locked dict whose keys are tuples: each a new tuple of the key's own tuple and the value -/
def ItT (d : Addr) (ob : Obj) (ps : List (List L2.Key × V)) : It where
  go := fun i H => H d = some (.frz ob (.dT ps)) ∧ i < ps.length
  yld := fun i H x H' => ∃ (T q : Addr) (k : List L2.Key) (v : V), ps[i]? = some (k, v) ∧ x = .ref T ∧ H T = none ∧ H q = some (.tup (k.map kV)) ∧ H' = upd H T (.tup [.ref q, v])
  stop := fun i H => H d = some (.frz ob (.dT ps)) ∧ ps.length ≤ i
section
variable {X : Cx} {pins : List (Addr × Obj)} {σ : L2.St} {H : Hp} {s : Shared} {d : Addr} {ob : Obj} {ps : List (List L2.Key × V)}
theorem frz_ent (I : Inv X pins σ H s) (h : H d = some (.frz ob (.dT ps))) : (d == sysModules) = false ∧ ∃ (es : Array DictEntry) (ep : Nat), DT.Raw s.heap d es ep ∧ ob.data = .dict es ep ∧ es.size = ps.length ∧
    ∀ (i : Nat) (k : List L2.Key) (v : V), ps[i]? = some (k, v) → ∃ (q : Addr) (en : DictEntry), es[i]? = some en ∧ en.key = .ref q ∧ RelV v en.val ∧ H q = some (.tup (k.map kV)) := by
  have all := I.hok d _ h
  obtain ⟨here, _, notSys, laid, rel, obj, es, ep, at_, exact_, data, ents, _⟩ := all
  obtain rfl : ob = obj := Option.some.inj (here.symm.trans at_)
  refine ⟨notSys, es, ep, ⟨ob, here, exact_, data⟩, data, ?_, fun i k v hi => ?_⟩
  · have a1 : es.size = laid.length := size_of_entries ents
    have a2 : ps.length = laid.length := Paired.length rel
    omega
  · obtain ⟨z, hz, e1, e2, e3⟩ := L2.paired_get rel hi
    have at2 := entry_at ents i
    rw [hz] at at2
    exact ⟨z.2.1, _, at2, rfl, e3, e2⟩
end
theorem same_data {o : Obj} {es fs : Array DictEntry} {m n : Nat} (h : o.data = .dict es m) (g : o.data = .dict fs n) : fs = es ∧ n = m := by
  have q := h.symm.trans g
  injection q with q1 q2
  exact ⟨q1.symm, q2.symm⟩
theorem turn_itemsT {P : Program} {w : World} {K : PySem.W.Frag} {d it : Addr} {ob : Obj} {es : Array DictEntry} {ep kk : Nat} {ps : List (List L2.Key × V)} {elts : List Expr} {tpos : Pos} (data : ob.data = .dict es ep) :
    Turn P w K (.Tuple elts kk tpos) (ItT d ob ps) [it] it (fun i h => ∃ u v, IsItemIter h it d i es.size ep u v) := by
  refine ⟨by simp, fun i h st b hb => ?_, fun i h h' st k => ?_, ?_, ?_, fun A i s Q E st h => ?_⟩
  · obtain rfl : b = it := by simpa using hb
    obtain ⟨u, v, e⟩ := st
    exact ⟨_, e, fun v z => nomatch z⟩
  · obtain ⟨u, v, e⟩ := st
    exact ⟨u, v, k it (by simp) _ e⟩
  · intro X hP hw hK hc i pins s σ H E I hf st go
    subst hP hw hK
    obtain ⟨lock, lt⟩ := go
    obtain ⟨_, es2, ep2, raw, data2, size, ents⟩ := frz_ent I lock
    obtain ⟨rfl, rfl⟩ := same_data data data2
    have pi : ps[i]? = some (ps[i].1, ps[i].2) := List.getElem?_eq_getElem lt
    obtain ⟨q, en, hen, hkey, hval, hq⟩ := ents i _ _ pi
    obtain ⟨u, v, e⟩ := st
    have there : it < s.heap.objs.size := Heap.lt_size e
    have hi : i < es2.size := by omega
    obtain rfl : es2[i] = en := by
      rw [Array.getElem?_eq_getElem hi] at hen
      exact Option.some.inj hen
    refine DT.nextI e raw hi fun h1 out tup _ keep => ?_
    refine ⟨_, rfl, wpAny_letOwnedTupleGo_items (s := { s with heap := h1 }) out fun h2 back but => ?_⟩
    have tup2 := (but.2 _ (Nat.ne_of_gt there)).trans tup
    have new : ObjOk X.prog X.w (upd H s.heap.objs.size (.tup [.ref q, ps[i].2])) h2 s.heap.objs.size (.tup [.ref q, ps[i].2]) := by
      refine ⟨by show 2 ≤ sizeLine; decide, [es2[i].key, es2[i].val], .cons ?_ (.cons hval .nil), ⟨_, tup2, rfl, _, rfl⟩⟩
      rw [hkey]
      rfl
    have I2 := I.turnedNew (t' := s.toks) (ch := [it]) (h' := h2) (fun b o hb g => (but.2 b (by simpa using hb)).trans (keep b o (by simpa using hb) g)) hf (Nat.le_refl _) new
    refine ⟨.ref s.heap.objs.size, _, I2, rfl, ⟨_, q, ps[i].1, ps[i].2, pi, rfl, I.hok.fresh (Nat.le_refl _), hq, rfl⟩, ⟨_, _, back⟩, fun b hb => ?_⟩
    obtain rfl : b = it := by simpa using hb
    rw [upd_ne (Nat.ne_of_lt there)]
    exact (hf b (by simp)).1
  · intro X hP hw hK hc i pins s σ H E I hf st stop
    subst hP hw hK
    obtain ⟨lock, ge⟩ := stop
    obtain ⟨_, es2, ep2, raw, data2, size, ents⟩ := frz_ent I lock
    obtain ⟨rfl, rfl⟩ := same_data data data2
    obtain ⟨f0, f1, f2, f3, f4, f5⟩ := hf it (by simp)
    obtain ⟨u, v, e⟩ := st
    exact DT.endI (I.ok.hd hc) e raw (by omega) fun h1 ext => ⟨rfl, I.turned (t' := s.toks) (fun b o hb g => ext b o hb g) f0 f1 f3 f4 f5⟩
  · obtain ⟨u, v, e⟩ := st
    exact PySem.W.kcp_self e h
/-- for k, v in d.items(): the dict at d is locked -/
def iItT (td : TE) : TI := fun σ H R => td σ H fun x H1 => ∃ d ob ps, x = .ref d ∧ H1 d = some (.frz ob (.dT ps)) ∧ R (ItT d ob ps) H1
theorem pi_itemsT {X : Cx} {e : Expr} {td : TE} {apos cpos tpos : Pos} {elts : List Expr} {kk : Nat} (he : PE X e td) (hbase : attributeBase e "items" X.env (eval e X.env) = eval e X.env := by rfl) (hline : (apos.endLine == cpos.line) = true := by rfl) :
    PI X (.Tuple elts kk tpos) (.Call (.Attribute e "items" apos) [] [] cpos) (iItT td) := by
  constructor
  intro pins s σ H R I h
  refine wpAny_Call_method (T := "dict") (id := "dict.items") hbase rfl hline F.plainAttrs_dict F.slot_dict_items F.type_dict_items (thn (he.run pins s σ H _ I h) ?_)
  rintro u s1 ⟨x, H1, I1, rx, d, ob, ps, rfl, lock, q⟩
  obtain rfl : u = Value.ref d := rx
  obtain ⟨notSys, es, ep, raw, data, size, _⟩ := frz_ent I1 lock
  obtain ⟨o2, g2, x2, _⟩ := id raw
  refine ⟨raw.typeIs, fun b z => ⟨o2, by cases z; exact g2, x2.2.1⟩, ?_⟩
  have I2 : Inv X pins σ H1 { s1 with heap := s1.heap.push { cls := .type "dict_items", data := .fields #[.ref d] } } := I1.kept (t' := s1.toks) fun b o z => Heap.get?_push_of_some _ z
  have walk : wpAny (model X.prog X.w) X.A (pyIter (.ref s1.heap.objs.size)) (PIE X pins σ (.Tuple elts kk tpos) R) X.xe { s1 with heap := s1.heap.push { cls := .type "dict_items", data := .fields #[.ref d] } } :=
    DT.iterI (d := d) ⟨_, Heap.get?_push_size _ rfl, rfl, rfl⟩ (raw.push _) (pi_one (tk := s1.toks) I2 _ (turn_itemsT data) ⟨.none, .none, Heap.get?_push_size _ rfl⟩ q)
  show wpAny _ _ (callWith cpos (.builtin "dict.items") [.ref d] [] []) _ X.xe s1
  exact method_meetsIn F.slot_dict_items F.entry_dict_items rfl (PySem.evalArgs_none ⟨rfl, raw.typeIs, F.args_dict_items_1 _, _, DT.meetsItems notSys, ⟨raw, walk⟩⟩)
theorem walk_itemsT {d : Addr} {ob : Obj} {ps : List (List L2.Key × V)} : Walk (ItT d ob ps) ps.length (fun H => H d = some (.frz ob (.dT ps)))
    (fun i H x H' => ∃ (T q : Addr) (k : List L2.Key) (v : V), ps[i]? = some (k, v) ∧ x = .ref T ∧ H T = none ∧ H q = some (.tup (k.map kV)) ∧ H' = upd H T (.tup [.ref q, v])) := by
  refine ⟨fun i H lt q => ⟨q, lt⟩, fun H q => ⟨q, Nat.le_refl _⟩, fun i H x H' _ _ y => y⟩
/-- with the lock or without -/
def tLockO (t : TE) : TE := fun σ H Q => t σ H Q ∨ tLockE t σ H Q
def tLockS (t : TS) : TS := fun D σ H => t D σ H ∨ tLock t D σ H
theorem pe_lockO {X : Cx} {e : Expr} {t : TE} (h : PE X e t) : PE X e (tLockO t) := by
  constructor
  rintro pins s σ H Q I (q | q)
  · exact h.run pins s σ H Q I q
  · exact (pe_lock h).run pins s σ H Q I q
theorem ps_lockO {X : Cx} {st : Stmt} {t : TS} (h : PS X st t) : PS X st (tLockS t) := by
  constructor
  rintro pins s σ H D I (q | q)
  · exact h.run pins s σ H D I q
  · exact (ps_lock h).run pins s σ H D I q
end RR

namespace RR
open PySem PySem.Spec PyProof.Rows L2
/-- a store by a comprehension into a dict with tuple keys -/
theorem dictSetT {X : Cx} {pins : List (Addr × Obj)} {σ : L2.St} {H : Hp} {s : Shared} {E : Value → Shared → Prop} {D b : Addr} {ps : List (List L2.Key × V)} {k : List L2.Key} {z : V} {r : Value} {Q : Unit → Shared → Prop} (hu : X.A.units < cLine)
    (I : Inv X pins σ H s) (hD : H D = some (.dT ps)) (hb : H b = some (.tup (k.map kV))) (short : ps.length < sizeLine) (rz : RelV z r) (q : ∀ s', Inv X pins σ (upd H D (.dT (putK ps k z))) s' → Q () s') :
    wpAny (model X.prog X.w) X.A (dictSet D (.ref b) r) Q E s := by
  obtain ⟨len, notSys, laid, rel, dd⟩ := dt_of I.hok hD
  have n1 := Paired.length rel
  refine PySem.wpAny_dictSet_heap (hsz := Nat.le_of_lt (by rw [← n1]; exact short)) hu (key_of I.hok hb) dd fun h2 dd2 but => q _ ?_
  obtain ⟨o2, es, ep, g2, x2, d2, e2, _, nd⟩ := dd2
  have n2 := length_putK ps k z
  refine d_write I (by rw [hD]; trivial) but ⟨o2, g2⟩ ⟨by omega, notSys, _, (rel.put k hb rz).keeps fun c ys hc => ?_, o2, es, ep, g2, x2, d2, e2, nd⟩
  rwa [upd_ne (ne_of hc hD (fun z => nomatch z))]
/-- {k: v for target in iter if ..}, the keys tuples of ints and texts: D the new dict -/
def tDcT (wi : TI) (g : TG) (tt : TT) (tk tv : TE) (vs : List Nat) : TE := fun σ H Q => wi σ H fun J H1 => ∀ D, H1 D = none → ∃ W : Nat → Nat → Hp → Prop, (∃ m, W 0 m (upd H1 D (.dT []))) ∧ ∀ i m H, W i m H →
  (J.stop i H ∧ Q (.ref D) H) ∨ (J.go i H ∧ ∃ Nx : Hp → Prop, (∀ H', Nx H' → ∃ m', m' < m ∧ W (i + 1) m' H') ∧ ∀ x H', J.yld i H x H' → g x (wipe σ vs) H' fun σ2 H2 => wipe σ2 vs = wipe σ vs ∧ tt σ2 H2 fun b H3 =>
    if b = true then tk σ2 H3 fun y H4 => tv σ2 H4 fun z H5 => ∃ ps k b, y = .ref b ∧ H5 b = some (.tup (k.map kV)) ∧ H5 D = some (.dT ps) ∧ ps.length < sizeLine ∧ Nx (upd H5 D (.dT (putK ps k z))) else Nx H3)
variable {X : Cx}
theorem pe_dcT {kx vx tg iter : Expr} {ifs : List Expr} {scope : Scope} {own : List (Str × Nat)} {pos : Pos} {wi : TI} {g : TG} {tt : TT} {tk tv : TE} (hu : X.A.units < cLine) (hc : X.calm = true) (hN : X.N.Nodup) (hi : PI X tg iter wi) (ok : BlkOk X.N X.env.scope scope own)
    (hg : ∀ (s : Shared) (H : Hp) (C : Addr) (cl : List (Str × Addr)) (fp : List Addr), PG (X.blk s H scope (compEnvC scope cl C X.env) fp) tg g)
    (ht : ∀ (s : Shared) (H : Hp) (C : Addr) (cl : List (Str × Addr)) (fp : List Addr), PTs (X.blk s H scope (compEnvC scope cl C X.env) fp) ifs tt)
    (hk : ∀ (s : Shared) (H : Hp) (C : Addr) (cl : List (Str × Addr)) (fp : List Addr), PE (X.blk s H scope (compEnvC scope cl C X.env) fp) kx tk)
    (hv : ∀ (s : Shared) (H : Hp) (C : Addr) (cl : List (Str × Addr)) (fp : List Addr), PE (X.blk s H scope (compEnvC scope cl C X.env) fp) vx tv)
    (hs : ∀ x, foldedSetIterable iter X.env x = pure x := by intro _; rfl) : PE X (.DictComp kx vx [⟨tg, iter, ifs, 0⟩] scope pos) (tDcT wi g tt tk tv (own.map (·.2))) := by
  constructor
  intro pins s0 σ H0 Q I0 reading
  rw [arm_eval_DictComp]
  have cellsThere : ∀ y ∈ scope.names, y.2 = .free → ∃ c, X.env.cells.lookup y.1 = some c := by
    intro y hy e
    rcases ok.free y hy e with k | k
    · exact I0.ok.has _ (.inl k)
    · exact I0.ok.has _ (.inr k)
  refine wpAny_comprehension_free rfl hs (closure_ok cellsThere) ok.kind (fun y hy e => by rw [ok.uniq y hy, e]) (thn (hi.run pins s0 σ H0 _ I0 reading) fun _ s1 walked => thn walked ?_)
  rintro _ s2 ⟨it, fp, tn, J, H2, rfl, I2, T, at0, own2, q⟩
  refine wpAny_newObj_type (newEnv_comp ?_)
  generalize eD : s2.heap.objs.size = D
  have freeD : H2 D = none := I2.hok.fresh (Nat.le_of_eq eD)
  obtain ⟨W, ⟨n0, w0⟩, turn⟩ := q D freeD
  generalize es3 : ({ s2 with heap := s2.heap.push { cls := .type "dict", data := .dict #[] } } : Shared) = s3
  have heap3 : s3.heap = s2.heap.push { cls := .type "dict", data := .dict #[] } := by rw [← es3]
  have grown : ∀ b o, s2.heap.get? b = some o → s3.heap.get? b = some o := fun b o e => by rw [heap3]; exact Heap.get?_push_of_some _ e
  have I3 : Inv X pins σ (upd H2 D (.dT [])) s3 := by
    rw [← es3]
    refine I2.laid (t' := s2.toks) (fun b o e => Heap.get?_push_of_some _ e) (Nat.le_of_eq eD) ?_
    rw [← eD]
    exact dt_empty s2.heap I2.big
  have own3 : ∀ b ∈ fp, FpOk X pins (upd H2 D (.dT [])) b ∧ b < s3.heap.objs.size := by
    intro b hb
    obtain ⟨o, e, _⟩ := T.obj _ _ at0 b hb
    have lt := Heap.lt_size e
    refine ⟨⟨?_, (own2 b hb).2⟩, by rw [heap3, Heap.size_push]; exact Nat.lt_succ_of_lt lt⟩
    rw [upd_ne (by rw [← eD]; exact Nat.ne_of_lt lt)]
    exact (own2 b hb).1
  have at3 := T.keep _ _ _ at0 fun b _ o e => grown b o e
  have I4 := block_start I3 ok hN own3
  have none3 : ∀ b ∈ fp, (upd H2 D (.dT [])) b = none := fun b hb => (own3 b hb).1.1
  generalize eH3 : upd H2 D (.dT []) = H3 at I3 I4 w0 none3 own3
  generalize ece : compEnvC scope (cellsFrom (s3.heap.objs.size + 1) scope.names (cloFrom X.env.cells scope.names [])) s3.heap.objs.size X.env = ce at I4
  have pg : PG (X.blk s3 H3 scope ce fp) tg g := by rw [← ece]; exact hg _ _ _ _ _
  have pt : PTs (X.blk s3 H3 scope ce fp) ifs tt := by rw [← ece]; exact ht _ _ _ _ _
  have pk : PE (X.blk s3 H3 scope ce fp) kx tk := by rw [← ece]; exact hk _ _ _ _ _
  have pv : PE (X.blk s3 H3 scope ce fp) vx tv := by rw [← ece]; exact hv _ _ _ _ _
  have locals : ce.locals = s3.heap.objs.size := by rw [← ece]; rfl
  generalize es4 : ({ s3 with heap := pushCells (s3.heap.push { cls := .type "dict", data := .dict #[] }) scope.names } : Shared) = s4 at I4
  have at4 : tn 0 s4.heap := T.keep _ _ _ at3 fun b _ o e => by rw [← es4]; exact pushCells_keeps _ _ _ _ (Heap.get?_push_of_some _ e)
  have mine : ∀ {σ' : L2.St} {H' : Hp} {s' : Shared}, Inv (X.blk s3 H3 scope ce fp) [] σ' H' s' → (∀ b ∈ fp, H' b = none) → ∀ b ∈ fp, FpOk (X.blk s3 H3 scope ce fp) [] H' b := by
    intro σ' H' s' I' non b hb
    have z := I'.ok.exf b hb
    exact ⟨non b hb, z.1, I'.ok.exfs b hb, .inl hb, fun x c e => z.2 x c e, fun p hp => absurd (show p ∈ ([] : List (Addr × Obj)) ++ [] from hp) (by simp)⟩
  have looped : codeAny (model X.prog X.w) X.A (.compLoop (.DictComp kx vx [⟨tg, iter, ifs, 0⟩] scope pos) 0 (.ref it) (.ref D) ce) (compPost (model X.prog X.w) X.A X.xe none (fun v s' => ∃ x H', Inv X pins σ H' s' ∧ RelV x v ∧ Q x H') (.ref D) s3.heap.objs.size) s4 := by
    refine compLoop_anyD (fun n s' => ∃ i H', Inv (X.blk s3 H3 scope ce fp) [] (wipe σ (own.map (·.2))) H' s' ∧ tn i s'.heap ∧ (∀ b ∈ fp, H' b = none) ∧ W i n H') ?_ n0 ⟨0, H3, I4, at4, none3, w0⟩
    rintro n s5 ⟨i, H5, I5, at5, none5, w5⟩
    rcases turn i n H5 w5 with ⟨stop, fin⟩ | ⟨go, Nx, next, step⟩
    · refine thnF (T.done (X.blk s3 H3 scope ce fp) rfl rfl rfl hc i [] s5 _ H5 (fun _ _ => False) I5 (mine I5 none5) at5 stop) fun r s6 ⟨er, I6⟩ => ?_
      subst er
      have I7 : Inv X pins σ H5 s6 := I3.call' (ch := fp) I6.os I6.base I6.hok I6.bare fun b hb => by
        have z := (own3 b hb).1
        exact ⟨z.2.2.2.1, z.2.1, z.2.2.2.2.1, z.2.2.2.2.2⟩
      have freeC : H5 s3.heap.objs.size = none := by
        rw [← locals]
        exact I6.free
      obtain ⟨m, names, _⟩ := I6.loc
      have names : s6.heap.Ns s3.heap.objs.size m := by
        rw [← locals]
        exact names
      obtain ⟨f0, f1, f2, f3, f4, f5⟩ := I3.fpOk (Nat.le_refl _) freeC
      exact ⟨m, names, fun h2 but => ⟨.ref D, H5, I7.turned (t' := s6.toks) (fun b o hb e => (but.2 b hb).trans e) f0 f1 f3 f4 f5, rfl, fin⟩⟩
    · refine thnF (T.item (X.blk s3 H3 scope ce fp) rfl rfl rfl hc i [] s5 _ H5 (fun _ _ => False) I5 (mine I5 none5) at5 go) fun r s6 ⟨u, er, h6⟩ => ?_
      subst er
      refine thnF h6 fun _ s7 ⟨x, H7, I7, r7, y7, at7, none7⟩ => ?_
      have I7p := I7.pinned (mine I7 none7) (T.obj _ _ at7)
      refine thnF (pg.run _ s7 _ H7 x u _ I7p r7 (step x H7 y7)) fun _ s8 ⟨σ8, H8, I8, wiped, q8⟩ => thnF (pt.run _ s8 σ8 H8 _ I8 q8) fun b s9 ⟨H9, I9, q9⟩ => ?_
      have close : ∀ {s' : Shared} {H' : Hp}, Inv (X.blk s3 H3 scope ce fp) ([] ++ pinsAt fp s7.heap) σ8 H' s' → Nx H' →
          ∃ m, m < n ∧ ∃ i H', Inv (X.blk s3 H3 scope ce fp) [] (wipe σ (own.map (·.2))) H' s' ∧ tn i s'.heap ∧ (∀ b ∈ fp, H' b = none) ∧ W i m H' := by
        intro s' H' I' nx
        obtain ⟨m2, lt, w2⟩ := next H' nx
        have stood : ∀ b ∈ fp, ∀ o, s7.heap.get? b = some o → s'.heap.get? b = some o ∧ H' b = none := fun b hb o e => by
          have z := I'.pin (b, o) (List.mem_append_right _ (List.mem_append_right _ (mem_pinsAt hb e)))
          exact ⟨z.1, z.2.1⟩
        have len : (wipe σ (own.map (·.2))).length = σ8.length := by rw [← wiped, wipe_length]
        refine ⟨m2, lt, i + 1, H', (I'.unpinned (pins := [])).weak len ?_, T.keep _ _ _ at7 fun b hb o e => (stood b hb o e).1, ?_, w2⟩
        · intro j v e
          rw [← wiped] at e
          exact (wipe_some e).1
        · intro b hb
          obtain ⟨o, e, _⟩ := T.obj _ _ at7 b hb
          exact (stood b hb o e).2
      cases b with
      | false =>
        rw [if_neg Bool.false_ne_true] at q9 ⊢
        exact close I9 q9
      | true =>
        rw [if_pos rfl] at q9 ⊢
        refine thnF (pk.run _ s9 σ8 H9 _ I9 q9) fun z s10 ⟨yk, H10, I10, r10, q10⟩ => thnF (pv.run _ s10 σ8 H10 _ I10 q10) ?_
        rintro z2 s11 ⟨yv, H11, I11, r11, ps, k, b, rfl, hb, hD, short, nx⟩
        cases (show z = Value.ref b from r10)
        exact dictSetT (X := X.blk s3 H3 scope ce fp) hu I11 hD hb short r11 fun s12 I12 => close I12 nx
  rw [eD, ← ece] at *
  exact codeAny_compStart_dict looped (T.self X.A 0 _ _ _ at4 looped)
end RR

namespace RR
open PySem PySem.Spec PyProof.Rows L2
/-- stored one after the other -/
def putAll {κ : Type} [DecidableEq κ] (ps more : List (κ × V)) : List (κ × V) := more.foldl (fun acc z => putK acc z.1 z.2) ps
/-- {(..): v, ..}, up to fifteen pairs, the keys tuples -/
def tDispT (trs : List (TE × TE)) : TE := fun σ H Q => ∀ p, H p = none → tPairs trs σ (upd H p (.dT [])) fun vs H2 => H2 p = some (.dT []) ∧ ∃ xs : List (List L2.Key × Addr × V),
  vs = xs.map (fun x => (V.ref x.2.1, x.2.2)) ∧ (∀ x ∈ xs, H2 x.2.1 = some (.tup (x.1.map kV))) ∧ xs.length ≤ 15 ∧ Q (.ref p) (upd H2 p (.dT (putAll [] (xs.map fun x => (x.1, x.2.2)))))
theorem carries_H {P : Program} {w : World} {H : Hp} {h : Heap} (ok : HOk P w H h) : ∀ (xs : List (List L2.Key × Addr × V)) (ws : List (Value × Value)), VV (xs.map fun x => (V.ref x.2.1, x.2.2)) ws → (∀ x ∈ xs, H x.2.1 = some (.tup (x.1.map kV))) →
    ∃ rs : List (List L2.Key × Addr × Value), CarriesH (tupleKind (mixKind P w)) h ws rs ∧ KT H (xs.map fun x => (x.1, x.2.2)) rs
  | [], _, .nil, _ => ⟨[], trivial, .nil⟩
  | x :: xs, (_, r) :: ws, .cons ⟨e, rv⟩ t, hx => by
    obtain ⟨rs, c, k⟩ := carries_H ok xs ws t fun y hy => hx y (List.mem_cons_of_mem _ hy)
    have hb := hx x (List.mem_cons_self ..)
    exact ⟨(x.1, x.2.1, r) :: rs, ⟨e, rfl, key_of ok hb, c⟩, .cons ⟨rfl, hb, rv⟩ k⟩
theorem KT.all {H : Hp} {more : List (List L2.Key × V)} {rs : List (List L2.Key × Addr × Value)} (m : KT H more rs) : ∀ {ps : List (List L2.Key × V)} {xs : List (List L2.Key × Addr × Value)}, KT H ps xs → KT H (putAll ps more) (storedAllH xs rs) := by
  induction m with
  | nil => intro ps xs k; exact k
  | @cons a b as bs r t ih =>
    intro ps xs k
    refine ih (ps := putK ps a.1 a.2) (xs := storedH xs b.1 b.2.1 b.2.2) ?_
    rw [← r.1]
    exact k.put a.1 r.2.1 r.2.2
theorem putAll_len {κ : Type} [DecidableEq κ] : ∀ (more ps : List (κ × V)), (putAll ps more).length ≤ ps.length + more.length
  | [], ps => Nat.le_refl _
  | z :: more, ps => by
    have a := putAll_len more (putK ps z.1 z.2)
    have b := length_putK ps z.1 z.2
    show (putAll (putK ps z.1 z.2) more).length ≤ _
    rw [List.length_cons]
    omega
theorem pe_dispT {X : Cx} {pos : Pos} {keys : List (Option Expr)} {values : List Expr} {trs : List (TE × TE)} (hu : X.A.units < cLine) (h : PPs X pos keys values trs) (hall : keys.all (·.isSome) = true) (hl : keys.length = values.length) (h0 : keys ≠ []) (h15 : keys.length ≤ 15) :
    PE X (.Dict keys values pos) (tDispT trs) := by
  constructor
  intro pins s σ H Q I q
  have free := I.hok.fresh (Nat.le_refl s.heap.objs.size)
  have I1 := I.laid (a := s.heap.objs.size) (o := .dT []) (h' := s.heap.push { cls := .type "dict", data := .dict #[] }) (t' := s.toks) (fun _ _ z => Heap.get?_push_of_some _ z) (Nat.le_refl _) (dt_empty s.heap I.big)
  have n := pairTrees_length keys values X.env pos hall hl
  have some_ : pairTrees keys values X.env pos ≠ [] := fun e => h0 (by rw [e] at n; exact List.length_eq_zero_iff.mp n.symm)
  rw [arm_eval_Dict, zip_pairTrees keys values X.env pos hall hl, dictDisplay_pairs _ some_ (by omega)]
  refine wpAny_bind (wpAny_standAt (wpAny_bind (wpAny_subDictH (knd := tupleKind (mixKind X.prog X.w)) hu (by omega) (thn (h.run pins _ σ _ _ I1 (q _ free)) ?_))))
  rintro ws s2 ⟨vs, H2, I2, rel, hp, xs, rfl, hx, few, q2⟩
  obtain ⟨rs, c, k⟩ := carries_H I2.hok xs ws rel hx
  obtain ⟨_, notSys, xs0, rel0, dd⟩ := dt_of I2.hok hp
  cases rel0
  refine ⟨rs, c, dd, fun h' tk dd' but => wpAny_pure ⟨.ref s.heap.objs.size, _, ?_, rfl, q2⟩⟩
  obtain ⟨o, es, ep, g, x, dt, en, _, nd⟩ := dd'
  have len := putAll_len (xs.map fun x => (x.1, x.2.2)) []
  rw [List.length_map, List.length_nil] at len
  refine d_write I2 (by rw [hp]; trivial) but ⟨o, g⟩ ⟨by rw [sizeLine_eq]; omega, notSys, _, ((KT.all k .nil).keeps fun b ys hb => ?_), o, es, ep, g, x, dt, en, nd⟩
  rwa [upd_ne (ne_of hb hp (fun z => nomatch z))]
end RR

namespace RR
open PySem PySem.Spec PyProof.Rows L2
section
variable {prog : Program} {w : World} {A : Around} {E : Value → Shared → Prop} {s : Shared}
/-- the iterator over the pairs of d, at the i-th; z the tuple that is out, if one is -/
def PairIt (h : Heap) (it d : Addr) (i n ep : Nat) (z : Value) (f : Bool) (u v : Value) : Prop :=
  h.get? it = some { cls := .type "dict_itemiterator", dict := none, data := .fields #[z, .bool f, .ref d, .int i 0, .int n 0, .int ep 0, u, v], slots := #[] }
/-- no tuple is out, or one at another address -/
def Owner (it : Addr) (z : Value) (f : Bool) : Prop := (z = .none ∧ f = false) ∨ ∃ a : Addr, z = rawInt a ∧ a ≠ it
theorem ref_not_none (d : Addr) : ¬ ((Value.ref d == Value.none) = true) := Bool.false_ne_true
theorem alive_any {a : Addr} {Q : Option Obj → Shared → Prop} (q : Q (s.heap.get? a) s) : wpAny (model prog w) A (loadIfAlive a) Q E s := fun _ _ _ => q
open PySem.W PySem.Calls PyProof.V in
theorem owner_free {it d : Addr} {i n ep : Nat} {z u v : Value} {f : Bool} {R : Bool → Shared → Prop} (e : PairIt s.heap it d i n ep z f u v) (hz : Owner it z f) (yes : R true s)
    (no : ∀ h', PairIt h' it d i n ep z true u v → Owner it z true → Heap.SameBut it s.heap h' → R false { s with heap := h' }) : wpAny (model prog w) A (Builtin.Dict_items.ownedTupleIsFree (.ref it)) R E s := by
  unfold Builtin.Dict_items.ownedTupleIsFree
  refine wpAny_bind (wpAny_field e rfl (x := z) rfl ?_)
  rcases hz with ⟨rfl, _⟩ | ⟨a, rfl, ne⟩
  · exact wpAny_pure yes
  · refine wpAny_bind (alive_any ?_)
    cases s.heap.get? (a : Int).toNat with
    | none => exact wpAny_pure yes
    | some o =>
      simp only [Option.isNone_some, Bool.false_eq_true, if_false]
      refine wpAny_bind (wpAny_field e rfl (x := .bool f) rfl ?_)
      cases f with
      | true =>
        rw [if_neg (show ¬ (Value.bool true != .bool true) = true from Bool.false_ne_true)]
        exact wpAny_pure (no s.heap e (.inr ⟨a, rfl, ne⟩) (Heap.SameBut.refl _ _))
      | false =>
        rw [if_pos (show (Value.bool false != .bool true) = true from rfl)]
        exact wpAny_bind (wpAny_setField_rec e (by simp) fun h3 e3 b3 => wpAny_pure (no h3 e3 (.inr ⟨a, rfl, ne⟩) b3))
open PySem.W PySem.Calls PyProof.V in
theorem nextAny {it d : Addr} {i ep : Nat} {es : Array DictEntry} {z u v : Value} {f : Bool} {Q : Option Value → Shared → Prop} (at_ : PairIt s.heap it d i es.size ep z f u v) (hz : Owner it z f) (raw : DT.Raw s.heap d es ep) (lt : i < es.size)
    (q : ∀ h' z' f' u' v', PairIt h' it d (i + 1) es.size ep z' f' u' v' → Owner it z' f' → h'.get? s.heap.objs.size = some { cls := .type "tuple", data := .seq #[es[i].key, es[i].val] } →
      (∀ b o, b ≠ it → s.heap.get? b = some o → h'.get? b = some o) → Q (some (.ref s.heap.objs.size)) { s with heap := h' }) : wpAny (model prog w) A (pyNext (.ref it)) Q E s := by
  obtain ⟨hp, gens, drawn, toks, os⟩ := s
  obtain ⟨obj, atObj, exa, dat⟩ := id raw
  have ty0 : Shared.TypeIs ⟨hp, gens, drawn, toks, os⟩ (.ref it) "dict_itemiterator" := ⟨_, at_, rfl⟩
  have less : it < hp.objs.size := Heap.lt_size at_
  have owns : Builtin.Dict_items.ownsTuple "dict_itemiterator" = true := by decide
  unfold pyNext
  refine wpAny_bind (wpAny_attempt (wpAny_callSpecial?_slot (name := Str.ofString "__next__") ty0 PySem.F.slot_dict_itemiterator_next (wpAny_call_entry PySem.F.slot_dict_itemiterator_next ty0 PySem.F.entry_dict_itemiterator_next ?_ (PySem.F.args_dict_itemiterator_next_1 _))))
  refine wpAny_bind (wpAny_pure (wpAny_bind (wpAny_bind ?_)))
  first | refine wpAny_bind (wpAny_typeNameOfWhole_itemiter ty0 (wpAny_pure ?_)) | refine wpAny_bind (wpAny_typeNameOf_itemiter ty0 (wpAny_pure ?_))
  refine wpAny_bind (wpAny_fieldsOf at_ rfl ?_)
  simp only [owns, if_true]
  show wpAny _ _ (if (Value.ref d == Value.none) = true then _ else _) _ _ _
  rw [if_neg (ref_not_none d)]
  refine wpAny_bind (wpAny_pure (wpAny_bind (wpAny_dictEntries atObj dat ?_)))
  rw [if_neg (by simp)]
  refine wpAny_bind (wpAny_pure (wpAny_bind (wpAny_dictEpoch atObj dat ?_)))
  rw [if_neg (by simp)]
  refine wpAny_pure ?_
  simp only [show ¬ ((i : Int) < 0) by omega, if_false, Int.toNat_natCast, Array.getElem?_eq_getElem lt]
  refine wpAny_bind ?_
  first | refine wpAny_bind (wpAny_typeNameOfWhole_itemiter ty0 (wpAny_pure ?_)) | refine wpAny_bind (wpAny_typeNameOf_itemiter ty0 (wpAny_pure ?_))
  refine wpAny_bind (wpAny_isOneOf_itemiter ty0 ?_)
  show wpAny _ _ (setField (.ref it) 3 (rawInt ((i : Int) + 1)) >>= _) _ _ _
  refine wpAny_bind (wpAny_setField_rec at_ (by simp) fun ha ea (ba : Heap.SameBut it hp ha) => ?_)
  have ea : PairIt ha it d (i + 1) es.size ep z f u v := by
    unfold PairIt
    rw [show ((i + 1 : Nat) : Int) = (i : Int) + 1 from rfl]
    simpa [rawInt] using ea
  have tya : Shared.TypeIs ⟨ha, gens, drawn, toks, os⟩ (.ref it) "dict_itemiterator" := ⟨_, ea, rfl⟩
  refine wpAny_bind (wpAny_holding (wpAny_bind (wpAny_isOneOf_itemiter tya (wpAny_bind (wpAny_isOneOf_itemiter tya ?_)))))
  show wpAny _ _ (Builtin.Dict_items.pairFromOwner (.ref it) 6 es[i].key es[i].val) _ _ _
  unfold Builtin.Dict_items.pairFromOwner
  refine wpAny_bind (wpAny_newTuple ?_)
  have eb : PairIt (ha.push { cls := .type "tuple", data := .seq #[es[i].key, es[i].val] }) it d (i + 1) es.size ep z f u v := Heap.get?_push_of_some _ ea
  generalize hpush : ha.push { cls := .type "tuple", data := .seq #[es[i].key, es[i].val] } = hb at eb
  have sizea : ha.objs.size = hp.objs.size := ba.1
  have tup : hb.get? hp.objs.size = some { cls := .type "tuple", data := .seq #[es[i].key, es[i].val] } := by rw [← hpush, ← sizea]; exact Heap.get?_push_size _ rfl
  have kept : ∀ b o, b ≠ it → hp.get? b = some o → hb.get? b = some o := fun b o ne g => by rw [← hpush]; exact Heap.get?_push_of_some _ (ba.extBut b o ne g)
  show wpAny _ _ (Builtin.Dict_items.ownedTupleIsFree (.ref it) >>= _) _ _ ⟨hb, gens, drawn, toks, os⟩
  rw [sizea]
  clear hpush ea ba tya sizea
  have tne : hp.objs.size ≠ it := Nat.ne_of_gt less
  have ended : ∀ h3 z' f' u' v', PairIt h3 it d (i + 1) es.size ep z' f' u' v' → Owner it z' f' → Heap.SameBut it hb h3 → Q (some (.ref hp.objs.size)) ⟨h3, gens, drawn, toks, os⟩ :=
    fun h3 z' f' u' v' e hz' but => q h3 z' f' u' v' e hz' (but.extBut _ _ tne tup) fun b o ne g => but.extBut b o ne (kept b o ne g)
  refine wpAny_bind (owner_free eb hz ?_ fun h3 e3 o3 b3 => ?_)
  · simp only [if_true]
    refine wpAny_bind (wpAny_field eb rfl (x := u) rfl (wpAny_bind (wpAny_field eb rfl (x := v) rfl ?_)))
    refine wpAny_bind (wpAny_setField_rec eb (by simp) fun h3 e3 b3 => wpAny_bind (wpAny_setField_rec e3 (by simp) fun h4 e4 b4 => wpAny_bind (wpAny_setField_rec e4 (by simp) fun h5 e5 b5 => wpAny_bind (wpAny_setField_rec e5 (by simp) fun h6 e6 b6 => ?_))))
    have but : Heap.SameBut it hb h6 := ((Heap.SameBut.trans (show Heap.SameBut it hb h3 from b3) b4).trans b5).trans b6
    exact wpAny_bind (wpAny_letGo (wpAny_pure (wpAny_pure ⟨_, rfl, wpAny_pure (ended h6 (rawInt hp.objs.size) false es[i].key es[i].val e6 (.inr ⟨_, rfl, tne⟩) but)⟩)))
  · simp only [Bool.false_eq_true, if_false]
    exact wpAny_pure (wpAny_pure ⟨_, rfl, wpAny_pure (ended h3 z true u v e3 o3 b3)⟩)
open PySem.W PySem.Calls PyProof.V in
theorem endAny {it d : Addr} {i ep : Nat} {es : Array DictEntry} {z u v : Value} {f : Bool} {Q : Option Value → Shared → Prop} (hh : A.handled = none) (at_ : PairIt s.heap it d i es.size ep z f u v) (hz : Owner it z f)
    (raw : DT.Raw s.heap d es ep) (ge : es.size ≤ i) (q : ∀ h', Heap.ExtBut it s.heap h' → Q none { s with heap := h' }) : wpAny (model prog w) A (pyNext (.ref it)) Q E s := by
  rcases hz with ⟨rfl, rfl⟩ | ⟨a, rfl, _⟩
  · exact DT.endI hh at_ raw ge q
  · exact DT.endO hh at_ raw ge q
end
/-- the pairs taken whole: for t in d.items(), t a name -/
theorem turn_pairsT {P : Program} {w : World} {K : PySem.W.Frag} {d it : Addr} {ob : Obj} {es : Array DictEntry} {ep : Nat} {ps : List (List L2.Key × V)} {nm : Str} {tpos : Pos} (data : ob.data = .dict es ep) :
    Turn P w K (.Name nm tpos) (ItT d ob ps) [it] it (fun i h => ∃ z f u v, PairIt h it d i es.size ep z f u v ∧ Owner it z f) := by
  refine ⟨by simp, fun i h st b hb => ?_, fun i h h' st k => ?_, ?_, ?_, fun A i s Q E st h => ?_⟩
  · obtain rfl : b = it := by simpa using hb
    obtain ⟨z, f, u, v, e, _⟩ := st
    exact ⟨_, e, fun v z => nomatch z⟩
  · obtain ⟨z, f, u, v, e, o⟩ := st
    exact ⟨z, f, u, v, k it (by simp) _ e, o⟩
  · intro X hP hw hK hc i pins s σ H E I hf st go
    subst hP hw hK
    obtain ⟨lock, lt⟩ := go
    obtain ⟨_, es2, ep2, raw, data2, size, ents⟩ := frz_ent I lock
    obtain ⟨rfl, rfl⟩ := same_data data data2
    have pi : ps[i]? = some (ps[i].1, ps[i].2) := List.getElem?_eq_getElem lt
    obtain ⟨q, en, hen, hkey, hval, hq⟩ := ents i _ _ pi
    obtain ⟨z, f, u, v, e, ow⟩ := st
    have there : it < s.heap.objs.size := Heap.lt_size e
    have hi : i < es2.size := by omega
    obtain rfl : es2[i] = en := by
      rw [Array.getElem?_eq_getElem hi] at hen
      exact Option.some.inj hen
    refine nextAny e ow raw hi fun h1 z1 f1 u1 v1 e1 ow1 tup keep => ⟨_, rfl, wpAny_pure ?_⟩
    have new : ObjOk X.prog X.w (upd H s.heap.objs.size (.tup [.ref q, ps[i].2])) h1 s.heap.objs.size (.tup [.ref q, ps[i].2]) := by
      refine ⟨by show 2 ≤ sizeLine; decide, [es2[i].key, es2[i].val], .cons ?_ (.cons hval .nil), ⟨_, tup, rfl, _, rfl⟩⟩
      rw [hkey]
      rfl
    have I2 := I.turnedNew (t' := s.toks) (ch := [it]) (h' := h1) (fun b o hb g => keep b o (by simpa using hb) g) hf (Nat.le_refl _) new
    refine ⟨.ref s.heap.objs.size, _, I2, rfl, ⟨_, q, ps[i].1, ps[i].2, pi, rfl, I.hok.fresh (Nat.le_refl _), hq, rfl⟩, ⟨_, _, _, _, e1, ow1⟩, fun b hb => ?_⟩
    obtain rfl : b = it := by simpa using hb
    rw [upd_ne (Nat.ne_of_lt there)]
    exact (hf b (by simp)).1
  · intro X hP hw hK hc i pins s σ H E I hf st stop
    subst hP hw hK
    obtain ⟨lock, ge⟩ := stop
    obtain ⟨_, es2, ep2, raw, data2, size, ents⟩ := frz_ent I lock
    obtain ⟨rfl, rfl⟩ := same_data data data2
    obtain ⟨f0, f1, f2, f3, f4, f5⟩ := hf it (by simp)
    obtain ⟨z, f, u, v, e, ow⟩ := st
    exact endAny (I.ok.hd hc) e ow raw (by omega) fun h1 ext => ⟨rfl, I.turned (t' := s.toks) (fun b o hb g => ext b o hb g) f0 f1 f3 f4 f5⟩
  · obtain ⟨z, f, u, v, e, _⟩ := st
    have ty : s.TypeIs (.ref it) "dict_itemiterator" := ⟨_, e, rfl⟩
    refine wpAny_pyIter_slot ty F.slot_dict_itemiterator_iter (wpAny_call_entry F.slot_dict_itemiterator_iter ty PySem.W.kcp_entry ?_ (F.args_dict_itemiterator_iter_1 _))
    show wpAny _ _ (ret (.ref it)) _ _ s
    exact wpAny_pure ⟨_, rfl, "dict_itemiterator", _, ty, F.slot_dict_itemiterator_next.lookup, h⟩
theorem pi_pairsT {X : Cx} {e : Expr} {td : TE} {apos cpos tpos : Pos} {nm : Str} (he : PE X e td) (hbase : attributeBase e "items" X.env (eval e X.env) = eval e X.env := by rfl) (hline : (apos.endLine == cpos.line) = true := by rfl) :
    PI X (.Name nm tpos) (.Call (.Attribute e "items" apos) [] [] cpos) (iItT td) := by
  constructor
  intro pins s σ H R I h
  refine wpAny_Call_method (T := "dict") (id := "dict.items") hbase rfl hline F.plainAttrs_dict F.slot_dict_items F.type_dict_items (thn (he.run pins s σ H _ I h) ?_)
  rintro u s1 ⟨x, H1, I1, rx, d, ob, ps, rfl, lock, q⟩
  obtain rfl : u = Value.ref d := rx
  obtain ⟨notSys, es, ep, raw, data, size, _⟩ := frz_ent I1 lock
  obtain ⟨o2, g2, x2, _⟩ := id raw
  refine ⟨raw.typeIs, fun b z => ⟨o2, by cases z; exact g2, x2.2.1⟩, ?_⟩
  have I2 : Inv X pins σ H1 { s1 with heap := s1.heap.push { cls := .type "dict_items", data := .fields #[.ref d] } } := I1.kept (t' := s1.toks) fun b o z => Heap.get?_push_of_some _ z
  have walk : wpAny (model X.prog X.w) X.A (pyIter (.ref s1.heap.objs.size)) (PIE X pins σ (.Name nm tpos) R) X.xe { s1 with heap := s1.heap.push { cls := .type "dict_items", data := .fields #[.ref d] } } :=
    DT.iterI (d := d) ⟨_, Heap.get?_push_size _ rfl, rfl, rfl⟩ (raw.push _) (pi_one (tk := s1.toks) I2 _ (turn_pairsT data) ⟨.none, false, .none, .none, Heap.get?_push_size _ rfl, .inl ⟨rfl, rfl⟩⟩ q)
  show wpAny _ _ (callWith cpos (.builtin "dict.items") [.ref d] [] []) _ X.xe s1
  exact method_meetsIn F.slot_dict_items F.entry_dict_items rfl (PySem.evalArgs_none ⟨rfl, raw.typeIs, F.args_dict_items_1 _, _, DT.meetsItems notSys, ⟨raw, walk⟩⟩)
end RR

namespace RR
open PySem PySem.Spec PyProof.Rows L2
/-! several dicts locked at once -/
def lkN (t : TE) : Nat → TE
  | 0 => t
  | n + 1 => tLockE (lkN t n)
def tLk (t : TE) : TE := fun σ H Q => ∃ n, lkN t n σ H Q
def lkSN (t : TS) : Nat → TS
  | 0 => t
  | n + 1 => tLock (lkSN t n)
def tLkS (t : TS) : TS := fun D σ H => ∃ n, lkSN t n D σ H
theorem pe_lkN {X : Cx} {e : Expr} {t : TE} (h : PE X e t) : ∀ n, PE X e (lkN t n)
  | 0 => h
  | n + 1 => pe_lock (pe_lkN h n)
theorem pe_lk {X : Cx} {e : Expr} {t : TE} (h : PE X e t) : PE X e (tLk t) := ⟨fun pins s σ H Q I ⟨n, q⟩ => (pe_lkN h n).run pins s σ H Q I q⟩
theorem ps_lkN {X : Cx} {st : Stmt} {t : TS} (h : PS X st t) : ∀ n, PS X st (lkSN t n)
  | 0 => h
  | n + 1 => ps_lock (ps_lkN h n)
theorem ps_lk {X : Cx} {st : Stmt} {t : TS} (h : PS X st t) : PS X st (tLkS t) := ⟨fun pins s σ H D I ⟨n, q⟩ => (ps_lkN h n).run pins s σ H D I q⟩
/-- without its repetitions -/
def once : List Addr → List Addr
  | [] => []
  | d :: r => if d ∈ r then once r else d :: once r
theorem once_mem (b : Addr) : ∀ ds : List Addr, b ∈ once ds ↔ b ∈ ds
  | [] => Iff.rfl
  | d :: r => by
    unfold once
    split
    · rename_i h
      rw [once_mem b r, List.mem_cons]
      constructor
      · exact .inr
      · rintro (rfl | h2)
        · exact h
        · exact h2
    · rw [List.mem_cons, List.mem_cons, once_mem b r]
theorem once_nodup : ∀ ds : List Addr, (once ds).Nodup
  | [] => List.nodup_nil
  | d :: r => by
    unfold once
    split
    · exact once_nodup r
    · rename_i h
      exact List.nodup_cons.mpr ⟨fun z => h ((once_mem d r).mp z), once_nodup r⟩
/-- what stood at ds stands there again -/
def back (ds : List Addr) (H H' : Hp) : Hp := fun b => if b ∈ ds then H b else H' b
/-- at ds stand the same things, locked -/
structure Lkd (ds : List Addr) (H Hl : Hp) : Prop where
  at_ : ∀ d ∈ ds, ∀ u, H d = some u → ∃ ob, Hl d = some (.frz ob u)
  off : ∀ b, b ∉ ds → Hl b = H b
theorem lk_step {d : Addr} {r : List Addr} {H Hl H' : Hp} {od : Obj} {u : HO} (nd : d ∉ r) (hd : H d = some u) (L : Lkd r (upd H d (.frz od u)) Hl) (P : Hp → Prop) :
    ((∀ b ∈ r, H' b = Hl b) ∧ (back r (upd H d (.frz od u)) H') d = some (.frz od u) ∧ P (upd (back r (upd H d (.frz od u)) H') d u)) = ((∀ b ∈ d :: r, H' b = Hl b) ∧ P (back (d :: r) H H')) := by
  have e1 : Hl d = some (.frz od u) := by rw [L.off d nd, upd_same]
  have e2 : (back r (upd H d (.frz od u)) H') d = H' d := if_neg nd
  have e3 : upd (back r (upd H d (.frz od u)) H') d u = back (d :: r) H H' := by
    funext b
    by_cases hb : b = d
    · subst hb
      rw [upd_same]
      exact (show back (b :: r) H H' b = H b from if_pos (List.mem_cons_self ..)).trans hd |>.symm
    · rw [upd_ne hb]
      unfold back
      by_cases hr : b ∈ r
      · rw [if_pos hr, if_pos (List.mem_cons_of_mem _ hr), upd_ne hb]
      · rw [if_neg hr, if_neg (by rw [List.mem_cons]; rintro (z | z) <;> contradiction)]
  rw [e2, e3]
  refine propext ⟨fun ⟨a, b, c⟩ => ⟨fun x hx => ?_, c⟩, fun ⟨a, c⟩ => ⟨fun x hx => a x (List.mem_cons_of_mem _ hx), (a d (List.mem_cons_self ..)).trans e1, c⟩⟩
  rcases List.mem_cons.mp hx with rfl | hx
  · rw [b, e1]
  · exact a x hx
theorem lkd_step {d : Addr} {r : List Addr} {H Hl : Hp} {od : Obj} {u : HO} (nd : d ∉ r) (hd : H d = some u) (L : Lkd r (upd H d (.frz od u)) Hl) : Lkd (d :: r) H Hl := by
  refine ⟨fun x hx v hv => ?_, fun b hb => ?_⟩
  · rcases List.mem_cons.mp hx with rfl | hx
    · rw [hd] at hv
      cases hv
      exact ⟨od, by rw [L.off x nd, upd_same]⟩
    · have ne : x ≠ d := fun z => nd (z ▸ hx)
      exact L.at_ x hx v (by rw [upd_ne ne]; exact hv)
  · rw [List.mem_cons] at hb
    rw [L.off b (fun z => hb (.inr z)), upd_ne (fun z => hb (.inl z))]
theorem lk_nodup {t : TE} {σ : L2.St} : ∀ (ds : List Addr) (H : Hp) (Q : VK), ds.Nodup → (∀ d ∈ ds, ∃ u, H d = some u ∧ Mut (some u)) → (∀ Hl, Lkd ds H Hl → t σ Hl fun v H' => (∀ d ∈ ds, H' d = Hl d) ∧ Q v (back ds H H')) → lkN t ds.length σ H Q
  | [], H, Q, _, _, h => by
    have := h H ⟨fun _ hd => (List.not_mem_nil hd).elim, fun _ _ => rfl⟩
    have e : (fun (v : V) (H' : Hp) => (∀ d ∈ ([] : List Addr), H' d = H d) ∧ Q v (back [] H H')) = Q := by
      funext v H'
      have e2 : back [] H H' = H' := funext fun b => if_neg List.not_mem_nil
      rw [e2]
      exact propext ⟨fun z => z.2, fun z => ⟨fun d hd => (List.not_mem_nil hd).elim, z⟩⟩
    rw [e] at this
    exact this
  | d :: r, H, Q, nd, hd, h => by
    obtain ⟨n1, n2⟩ := List.nodup_cons.mp nd
    obtain ⟨u, e, mu⟩ := hd d (List.mem_cons_self ..)
    refine ⟨d, _, e, mu, fun od => ?_⟩
    refine lk_nodup r _ _ n2 (fun x hx => ?_) fun Hl L => ?_
    · obtain ⟨qs, e2, mu2⟩ := hd x (List.mem_cons_of_mem _ hx)
      exact ⟨qs, by rw [upd_ne (show x ≠ d from fun z => n1 (by rw [← z]; exact hx))]; exact e2, mu2⟩
    · have := h Hl (lkd_step n1 e L)
      have e2 : (fun (v : V) (H' : Hp) => (∀ b ∈ d :: r, H' b = Hl b) ∧ Q v (back (d :: r) H H')) = fun v H' => (∀ b ∈ r, H' b = Hl b) ∧ (back r (upd H d (.frz od u)) H') d = some (.frz od u) ∧ Q v (upd (back r (upd H d (.frz od u)) H') d u) :=
        funext fun v => funext fun H' => (lk_step n1 e L (Q v)).symm
      rw [e2] at this
      exact this
theorem once_lkd {ds : List Addr} {H Hl : Hp} (L : Lkd (once ds) H Hl) : Lkd ds H Hl := ⟨fun d hd => L.at_ d ((once_mem d ds).mpr hd), fun b hb => L.off b fun z => hb ((once_mem b ds).mp z)⟩
theorem once_back (ds : List Addr) (H H' : Hp) : back (once ds) H H' = back ds H H' := by
  funext b
  unfold back
  by_cases hb : b ∈ ds
  · rw [if_pos hb, if_pos ((once_mem b ds).mpr hb)]
  · rw [if_neg hb, if_neg fun z => hb ((once_mem b ds).mp z)]
/-- the dicts at ds are locked while the expression goes -/
theorem lk_all {t : TE} {σ : L2.St} {H : Hp} {Q : VK} (ds : List Addr) (hd : ∀ d ∈ ds, ∃ u, H d = some u ∧ Mut (some u)) (h : ∀ Hl, Lkd ds H Hl → t σ Hl fun v H' => (∀ d ∈ ds, H' d = Hl d) ∧ Q v (back ds H H')) : tLk t σ H Q := by
  refine ⟨_, lk_nodup (once ds) H Q (once_nodup ds) (fun d hx => hd d ((once_mem d ds).mp hx)) fun Hl L => ?_⟩
  have := h Hl (once_lkd L)
  have e : (fun (v : V) (H' : Hp) => (∀ d ∈ ds, H' d = Hl d) ∧ Q v (back ds H H')) = fun v H' => (∀ d ∈ once ds, H' d = Hl d) ∧ Q v (back (once ds) H H') := by
    funext v H'
    rw [once_back]
    exact propext ⟨fun z => ⟨fun d hd => z.1 d ((once_mem d ds).mp hd), z.2⟩, fun z => ⟨fun d hd => z.1 d ((once_mem d ds).mpr hd), z.2⟩⟩
  rw [e] at this
  exact this
def lkEnds (ds : List Addr) (H Hl : Hp) (D : Ends) : Ends :=
  ⟨fun σ' H' => (∀ d ∈ ds, H' d = Hl d) ∧ D.nx σ' (back ds H H'), fun v H' => (∀ d ∈ ds, H' d = Hl d) ∧ D.rt v (back ds H H'), fun σ' H' => (∀ d ∈ ds, H' d = Hl d) ∧ D.bk σ' (back ds H H'), fun σ' H' => (∀ d ∈ ds, H' d = Hl d) ∧ D.ct σ' (back ds H H')⟩
theorem lkS_nodup {t : TS} {σ : L2.St} : ∀ (ds : List Addr) (H : Hp) (D : Ends), ds.Nodup → (∀ d ∈ ds, ∃ u, H d = some u ∧ Mut (some u)) → (∀ Hl, Lkd ds H Hl → t (lkEnds ds H Hl D) σ Hl) → lkSN t ds.length D σ H
  | [], H, D, _, _, h => by
    have := h H ⟨fun _ hd => (List.not_mem_nil hd).elim, fun _ _ => rfl⟩
    have e : lkEnds [] H H D = D := by
      have e2 : ∀ H', back [] H H' = H' := fun H' => funext fun b => if_neg List.not_mem_nil
      have e3 : ∀ (p : Prop) (H' : Hp), ((∀ d ∈ ([] : List Addr), H' d = H d) ∧ p) = p := fun p H' => propext ⟨fun z => z.2, fun z => ⟨fun d hd => (List.not_mem_nil hd).elim, z⟩⟩
      unfold lkEnds
      simp only [e2, e3]
    rw [e] at this
    exact this
  | d :: r, H, D, nd, hd, h => by
    obtain ⟨n1, n2⟩ := List.nodup_cons.mp nd
    obtain ⟨u, e, mu⟩ := hd d (List.mem_cons_self ..)
    refine ⟨d, _, e, mu, fun od => ?_⟩
    refine lkS_nodup r _ _ n2 (fun x hx => ?_) fun Hl L => ?_
    · obtain ⟨qs, e2, mu2⟩ := hd x (List.mem_cons_of_mem _ hx)
      exact ⟨qs, by rw [upd_ne (show x ≠ d from fun z => n1 (by rw [← z]; exact hx))]; exact e2, mu2⟩
    · have := h Hl (lkd_step n1 e L)
      unfold lkEnds at this ⊢
      simp only [lk_step n1 e L]
      exact this
theorem lkS_all {t : TS} {σ : L2.St} {H : Hp} {D : Ends} (ds : List Addr) (hd : ∀ d ∈ ds, ∃ u, H d = some u ∧ Mut (some u)) (h : ∀ Hl, Lkd ds H Hl → t (lkEnds ds H Hl D) σ Hl) : tLkS t D σ H := by
  refine ⟨_, lkS_nodup (once ds) H D (once_nodup ds) (fun d hx => hd d ((once_mem d ds).mp hx)) fun Hl L => ?_⟩
  have := h Hl (once_lkd L)
  have e : lkEnds ds H Hl D = lkEnds (once ds) H Hl D := by
    have e1 : ∀ H' : Hp, (∀ d ∈ ds, H' d = Hl d) = (∀ d ∈ once ds, H' d = Hl d) := fun H' => propext ⟨fun z d hd => z d ((once_mem d ds).mp hd), fun z d hd => z d ((once_mem d ds).mpr hd)⟩
    unfold lkEnds
    simp only [once_back, e1]
  rw [e] at this
  exact this
/-- what was there before stands behind the lock as it stood -/
theorem back_same {ds : List Addr} {H Hl H' : Hp} (L : Lkd ds H Hl) (s : Same Hl H') : Same H (back ds H H') := by
  intro b o e
  unfold back
  split
  · exact e
  · rename_i h
    exact s b o ((L.off b h).trans e)
theorem Lkd.kept {ds : List Addr} {H Hl H1 : Hp} (L : Lkd ds H Hl) (hd : ∀ d ∈ ds, ∃ u, H d = some u ∧ Mut (some u)) (s : Same Hl H1) : ∀ d ∈ ds, H1 d = Hl d := by
  intro d h
  obtain ⟨u, e, _⟩ := hd d h
  obtain ⟨ob, l⟩ := L.at_ d h u e
  rw [l, s _ _ l]
theorem Lkd.fresh {ds : List Addr} {H Hl : Hp} (L : Lkd ds H Hl) (hd : ∀ d ∈ ds, ∃ u, H d = some u ∧ Mut (some u)) {D : Addr} (n : Hl D = none) : H D = none ∧ D ∉ ds := by
  have a : D ∉ ds := fun h => by
    obtain ⟨u, e, _⟩ := hd D h
    obtain ⟨ob, l⟩ := L.at_ D h u e
    rw [l] at n
    cases n
  exact ⟨(L.off D a).symm.trans n, a⟩
theorem back_off {ds : List Addr} {H H1 : Hp} {D : Addr} (h : D ∉ ds) : back ds H H1 D = H1 D := if_neg h
/-- what was tracked ahead of the lock, of another kind than what is locked, stands within -/
theorem Lkd.there {ds : List Addr} {H Hl : Hp} (L : Lkd ds H Hl) {b : Addr} {o : HO} (e : H b = some o) (h : b ∉ ds) : Hl b = some o := (L.off b h).trans e
theorem mut_one {H : Hp} {a : Addr} {u : HO} (e : H a = some u) (m : Mut (some u)) : ∀ d ∈ [a], ∃ u, H d = some u ∧ Mut (some u) := by
  intro d h
  rw [List.mem_singleton] at h
  subst h
  exact ⟨u, e, m⟩
theorem mut_two {H : Hp} {a b : Addr} {u v : HO} (e : H a = some u) (m : Mut (some u)) (e2 : H b = some v) (m2 : Mut (some v)) : ∀ d ∈ [a, b], ∃ u, H d = some u ∧ Mut (some u) := by
  intro d h
  rcases List.mem_cons.mp h with rfl | h
  · exact ⟨u, e, m⟩
  · rw [List.mem_singleton] at h
    subst h
    exact ⟨v, e2, m2⟩
theorem back_new {ds : List Addr} {H Hl H' : Hp} (L : Lkd ds H Hl) {b : Addr} {o : HO} (hn : H b = none) (hd : ∀ d ∈ ds, H d ≠ none) (e : H' b = some o) : back ds H H' b = some o := by
  unfold back
  rw [if_neg fun z => hd b z hn]
  exact e
end RR

namespace RR
open PySem PySem.Spec PyProof.Rows L2
/-! texts in their order -/
def leS (a b : Str) : Bool := decide (a.cps.toList ≤ b.cps.toList)
theorem leS_iff {a b : Str} : leS a b = true ↔ a.cps.toList ≤ b.cps.toList := decide_eq_true_iff
theorem leS_trans (a b c : Str) (h : leS a b = true) (g : leS b c = true) : leS a c = true := leS_iff.mpr (List.le_trans (leS_iff.mp h) (leS_iff.mp g))
theorem leS_total (a b : Str) : (leS a b || leS b a) = true := by
  rw [Bool.or_eq_true, leS_iff, leS_iff]
  exact List.le_total _ _
theorem leS_anti {a b : Str} (h : leS a b = true) (g : leS b a = true) : a = b := by
  have e : a.cps.toList = b.cps.toList := List.le_antisymm (leS_iff.mp h) (leS_iff.mp g)
  cases a; cases b
  exact congrArg Str.mk (Array.toList_inj.mp e)
theorem leS_of {a b : Str} (h : ltCps b.cps.toList a.cps.toList = false) : leS a b = true := by
  rw [ltCps_eq] at h
  exact leS_iff.mpr (of_decide_eq_false h)
/-- sorted(xs) -/
def srt (xs : List Str) : List Str := xs.mergeSort leS
def Srtd (xs : List Str) : Prop := xs.Pairwise fun a b => leS a b = true
theorem srt_srtd (xs : List Str) : Srtd (srt xs) := List.pairwise_mergeSort leS_trans leS_total xs
theorem srt_perm (xs : List Str) : (srt xs).Perm xs := List.mergeSort_perm xs leS
theorem srt_len (xs : List Str) : (srt xs).length = xs.length := (srt_perm xs).length_eq
theorem srtd_eq {xs ys : List Str} (p : xs.Perm ys) (hx : Srtd xs) (hy : Srtd ys) : xs = ys := p.eq_of_pairwise (fun a b _ _ => leS_anti) hx hy
theorem srt_id {xs : List Str} (h : Srtd xs) : srt xs = xs := srtd_eq (srt_perm xs) (srt_srtd xs) h
theorem srt_congr {xs ys : List Str} (p : xs.Perm ys) : srt xs = srt ys := srtd_eq (((srt_perm xs).trans p).trans (srt_perm ys).symm) (srt_srtd xs) (srt_srtd ys)
theorem rising_srtd : ∀ (r : List Str) (x : Str), risingS x r = true → Srtd (x :: r)
  | [], x, _ => List.pairwise_singleton _ _
  | y :: r, x, h => by
    unfold risingS at h
    rw [Bool.and_eq_true] at h
    have q := rising_srtd r y h.2
    have xy : leS x y = true := leS_of (by simpa using h.1)
    refine List.pairwise_cons.mpr ⟨fun z hz => ?_, q⟩
    rcases List.mem_cons.mp hz with rfl | hz
    · exact xy
    · exact leS_trans _ _ _ xy ((List.pairwise_cons.mp q).1 z hz)
theorem srtd_of {xs : List Str} (h : sortedS xs = true) : Srtd xs := match xs, h with
  | [], _ => List.Pairwise.nil
  | x :: r, h => rising_srtd r x h
theorem srt_of {xs ys : List Str} (p : ys.Perm xs) (h : sortedS ys = true) : ys = srt xs := srtd_eq (p.trans (srt_perm xs).symm) (srtd_of h) (srt_srtd xs)
theorem collectT {prog : Program} {w : World} {A : Around} {E : Value → Shared → Prop} {s : Shared} {a : Addr} {o : Obj} {its : List Value} {n : Nat} {Q : List Value → Shared → Prop} (ho : s.heap.get? a = some o) (hc : o.cls = .type "tuple") (hd : o.data = .seq its.toArray n) (big : its.length ≤ sizeLine)
    (q : ∀ h', (∀ b u, s.heap.get? b = some u → h'.get? b = some u) → s.heap.objs.size ≤ h'.objs.size → Q its { s with heap := h' }) : wpAny (model prog w) A (collect (.ref a)) Q E s := by
  have there : (s.heap.push (seqObj "list" #[] 0)).get? a = some o := Heap.get?_push_of_some _ ho
  have fresh : (s.heap.push (seqObj "list" #[] 0)).get? s.heap.objs.size = some (seqObj "list" #[] 0) := Heap.get?_push_size _ rfl
  unfold collect
  refine wpAny_bind (wpAny_runValue (codeAny_builtin entry_proto_collect' ?_))
  show wpAny _ _ (do again (.builtin "list.__iadd__" ⟨[← newList [], .ref a], []⟩)) _ _ s
  refine wpAny_bind (wpAny_newList (wpAny_pure ⟨Code.quiet_builtin _ (by decide +kernel), codeAny_builtin entry_list_iadd' ?_⟩))
  show wpAny _ _ (Builtin.List.listExtendWith (.ref s.heap.objs.size) (.ref a) (.ref s.heap.objs.size)) _ _ { s with heap := s.heap.push (seqObj "list" #[] 0) }
  unfold Builtin.List.listExtendWith
  refine wpAny_bind (wpAny_typeOf (T := "tuple") ⟨o, there, hc⟩ ?_)
  rw [if_pos (by rw [show (Value.type "tuple" == Value.type "tuple") = true from rfl]; simp)]
  refine wpAny_bind (listItems_at there hd (wpAny_bind (listItems_at fresh rfl ?_)))
  rw [if_neg (by simp)]
  have fits : (#[] ++ its.toArray : Array Value).size ≤ sizeLine + 1 := by
    simp only [Array.size_append, List.size_toArray, List.length_nil]
    omega
  refine wpAny_bind (listUpdate_at fresh rfl ?_ (Nat.zero_le _) fits)
  refine wpAny_pure ?_
  show wpAny (model prog w) A (do
      let o ← load s.heap.objs.size
      match o.data with
      | .seq xs _ => pure xs.toList
      | _ => unsupported "internal:collect") Q E { s with heap := (s.heap.push (seqObj "list" #[] 0)).update s.heap.objs.size (Obj.mapSeq (· ++ its.toArray)) }
  refine wpAny_bind (wpAny_load (get?_update_seq fresh _) ?_)
  show wpAny _ _ (pure ((#[] : Array Value) ++ its.toArray).toList) Q E _
  rw [show ((#[] : Array Value) ++ its.toArray).toList = its by simp]
  refine wpAny_pure (q _ (fun b u e => ?_) (by rw [Heap.size_update, size_push']; exact Nat.le_succ _))
  rw [Heap.get?_update_ne _ _ _ _ (Nat.ne_of_lt (Heap.lt_size e))]
  exact Heap.get?_push_of_some _ e
section
variable {X : Cx}
/-- sorted(t), t a tuple of fewer than 64 texts -/
def rSortT (K : PySem.W.Frag) : List V → Hp → VK → Prop := fun vs H Q => ∃ (a : Addr) (xs : List Str), vs = [V.ref a] ∧ SqT K H a (xs.map V.str) ∧ xs.length < 64 ∧ ∀ p, H p = none → Q (.ref p) (upd H p (.lst ((srt xs).map V.str)))
theorem cr_sortT : CallR X (.builtin "sorted") (rSortT X.K) := by
  intro pins s σ H vs us Q I r h
  obtain ⟨a, xs, rfl, hs, h64, q⟩ := h
  obtain ⟨its, rv, tup, _⟩ := I.tuple hs
  rw [Vals.ref1 r]
  have hS := rv.strs
  have len : its.length = xs.length := by rw [← rv.length, List.length_map]
  obtain ⟨o, ho, hc, n, hd⟩ := tup
  refine Calls.call_function_entry kind_sorted plain_sorted entry_sorted (args_sorted1 _) ?_
  unfold Builtin.«sorted»
  refine wpAny_bind (m := checkCount "sorted" 1 1 _) (wpAny_pure ?_)
  have big : its.length ≤ sizeLine := by
    rw [len, sizeLine_eq]
    omega
  refine wpAny_bind (collectT ho hc hd big fun h1 k1 below => wpAny_bind (wpAny_newList ?_ big))
  have at1 : (h1.push { cls := .type "list", data := .seq its.toArray }).get? h1.objs.size = some (seqObj "list" its.toArray 0) := Heap.get?_push_size _ rfl
  refine wpAny_bind (wpAny_holding (wpAny_call_entry slot_list_sort ⟨_, at1, rfl⟩ entry_list_sort (list_sort_treeK strKind_oneLt at1 hS.keysOf (fun v₁ v₂ rest e => keyKind_strs (by rw [← e]; exact hS)) (by rw [len]; exact h64) fun st' hp hs => ⟨_, rfl, ?_⟩) (args_list_sort _)))
  obtain ⟨ys, g1, g2, g3⟩ := sorted_out_str hS hp hs
  obtain rfl := srt_of g2 g3
  obtain ⟨ep, at2⟩ := sortedHeap_at (vs := its) (out := (arrOf st').map (·.2)) at1
  have few : ((srt xs).map V.str).length ≤ sizeLine := by
    rw [List.length_map, srt_len, sizeLine_eq]
    omega
  have old : ∀ b u, s.heap.get? b = some u → b < h1.objs.size := fun b u e => Heap.lt_size (k1 b u e)
  refine wpAny_pure ⟨_, rfl, .ref h1.objs.size, upd H h1.objs.size (.lst ((srt xs).map V.str)), I.laid (t' := s.toks) (fun b u e => ?_) below ⟨few, ((arrOf st').map (·.2)).toList, ep, vals_of_strs g1, by rw [Array.toArray_toList]; exact at2⟩, rfl, q _ (I.hok.fresh below)⟩
  have lt := old b u e
  rw [sortedHeap_old (Nat.ne_of_lt lt) (by rw [size_push']; exact Nat.lt_succ_of_lt lt), Heap.get?_push_ne _ _ _ (Nat.ne_of_lt lt)]
  exact k1 b u e
end
end RR

namespace RR
open PySem PySem.Spec PyProof.Rows L2
/-! polynomials as lists of terms -/
abbrev Mono := List Str
abbrev Poly := List (Mono × Int)
def kI (m : Mono) : List L2.Key := m.map Sum.inr
theorem kI_V (m : Mono) : (kI m).map kV = m.map V.str := by
  unfold kI
  rw [List.map_map]
  rfl
theorem kI_inj {m n : Mono} : kI m = kI n ↔ m = n := by
  constructor
  · intro h
    exact List.map_inj_right (f := (Sum.inr : Str → L2.Key)) (fun a b z => Sum.inr.inj z) |>.mp h
  · rintro rfl
    rfl
def enc (p : Poly) : List (List L2.Key × V) := p.map fun t => (kI t.1, V.int t.2)
theorem enc_len (p : Poly) : (enc p).length = p.length := List.length_map ..
theorem enc_at {p : Poly} {i : Nat} {k : List L2.Key} {v : V} (h : (enc p)[i]? = some (k, v)) : ∃ m c, p[i]? = some (m, c) ∧ k = kI m ∧ v = .int c := by
  unfold enc at h
  rw [List.getElem?_map] at h
  cases e : p[i]? with
  | none => rw [e] at h; cases h
  | some t =>
    rw [e] at h
    cases h
    exact ⟨t.1, t.2, rfl, rfl, rfl⟩
/-- the coefficient that is held -/
def getP (p : Poly) (m : Mono) : Option Int := (p.find? fun t => decide (t.1 = m)).map (·.2)
def cf (p : Poly) (m : Mono) : Int := (getP p m).getD 0
def putP (p : Poly) (m : Mono) (c : Int) : Poly := if (p.any fun t => decide (t.1 = m)) = true then p.map (fun t => if t.1 = m then (t.1, c) else t) else p ++ [(m, c)]
def KN (p : Poly) : Prop := (p.map (·.1)).Nodup
theorem enc_get (p : Poly) (m : Mono) : valV (enc p) (kI m) = (getP p m).map V.int := by
  induction p with
  | nil => rfl
  | cons t p ih =>
    by_cases e : t.1 = m
    · rw [show enc (t :: p) = (kI t.1, V.int t.2) :: enc p from rfl, valV_pos (kI_inj.mpr e)]
      simp [getP, List.find?_cons, e]
    · rw [show enc (t :: p) = (kI t.1, V.int t.2) :: enc p from rfl, valV_neg (fun z => e (kI_inj.mp z)), ih]
      simp [getP, List.find?_cons, e]
theorem enc_put (p : Poly) (m : Mono) (c : Int) : putK (enc p) (kI m) (.int c) = enc (putP p m c) := by
  have a : ((enc p).any fun kv => decide (kv.1 = kI m)) = p.any fun t => decide (t.1 = m) := by
    unfold enc
    rw [List.any_map]
    congr 1
    funext t
    exact decide_eq_decide.mpr kI_inj
  unfold putK putP
  rw [a]
  split
  · unfold enc
    rw [List.map_map, List.map_map]
    refine List.map_congr_left fun t _ => ?_
    by_cases e : t.1 = m
    · simp [e]
    · simp [e, kI_inj]
  · simp [enc]
theorem getP_of {p : Poly} (kn : KN p) {i : Nat} {m : Mono} {c : Int} (h : p[i]? = some (m, c)) : getP p m = some c := by
  induction p generalizing i with
  | nil => simp at h
  | cons t p ih =>
    unfold KN at kn
    rw [List.map_cons, List.nodup_cons] at kn
    cases i with
    | zero =>
      simp at h
      subst h
      simp [getP]
    | succ i =>
      rw [List.getElem?_cons_succ] at h
      have ne : t.1 ≠ m := fun e => kn.1 (by rw [e]; exact List.mem_map.mpr ⟨(m, c), List.mem_of_getElem? h, rfl⟩)
      have := ih kn.2 h
      unfold getP at this ⊢
      rw [List.find?_cons]
      simp [ne, this]
theorem putP_new {p : Poly} {m : Mono} (h : m ∉ p.map (·.1)) (c : Int) : putP p m c = p ++ [(m, c)] := by
  unfold putP
  rw [if_neg]
  intro z
  obtain ⟨t, ht, e⟩ := List.any_eq_true.mp z
  exact h (List.mem_map.mpr ⟨t, ht, of_decide_eq_true e⟩)
theorem putP_keys (p : Poly) (m : Mono) (c : Int) : (putP p m c).map (·.1) = if (p.any fun t => decide (t.1 = m)) = true then p.map (·.1) else p.map (·.1) ++ [m] := by
  unfold putP
  split
  · rw [List.map_map]
    refine List.map_congr_left fun t _ => ?_
    simp only [Function.comp]
    split <;> rfl
  · simp
theorem putP_kn {p : Poly} (kn : KN p) (m : Mono) (c : Int) : KN (putP p m c) := by
  unfold KN
  rw [putP_keys]
  split
  · exact kn
  · rename_i h
    refine List.nodup_append.mpr ⟨kn, by simp, ?_⟩
    rintro a ha b hb rfl
    rw [List.mem_singleton] at hb
    subst hb
    obtain ⟨t, ht, e⟩ := List.mem_map.mp ha
    exact h (List.any_eq_true.mpr ⟨t, ht, decide_eq_true e⟩)
/-- without zeros -/
def nz (p : Poly) : Poly := p.filter fun t => decide (t.2 ≠ 0)
def addP (p : Poly) (t : Mono × Int) : Poly := putP p t.1 (cf p t.1 + t.2)
def sums (ts : Poly) : Poly := ts.foldl addP []
def coll (ts : Poly) : Poly := nz (sums ts)
def mrg (a b : Mono) : Mono := srt (a ++ b)
def prods (p q : Poly) : Poly := p.flatMap fun s => q.map fun t => (mrg s.1 t.1, s.2 * t.2)
def mulP (p q : Poly) : Poly := coll (prods p q)
def plusP (p q : Poly) : Poly := coll (p ++ q)
def sclP (p : Poly) (n : Int) : Poly := nz (p.map fun t => (t.1, t.2 * n))
def minP (p q : Poly) : Poly := plusP p (sclP q (-1))
def conP (n : Int) : Poly := nz [([], n)]
def varP (x : Str) : Poly := [([x], 1)]
theorem nz_kn {p : Poly} (kn : KN p) : KN (nz p) := List.Nodup.sublist (List.Sublist.map _ List.filter_sublist) kn
theorem sums_kn (ts : Poly) : KN (sums ts) := by
  have : ∀ (ts p : Poly), KN p → KN (ts.foldl addP p) := by
    intro ts
    induction ts with
    | nil => exact fun p h => h
    | cons t ts ih => exact fun p h => ih _ (putP_kn h _ _)
  exact this ts [] List.nodup_nil
theorem coll_kn (ts : Poly) : KN (coll ts) := nz_kn (sums_kn ts)
theorem scl_keys (p : Poly) (n : Int) : (p.map fun t => (t.1, t.2 * n)).map (·.1) = p.map (·.1) := by
  rw [List.map_map]
  rfl
theorem scl_kn {p : Poly} (kn : KN p) (n : Int) : KN (sclP p n) := nz_kn (by unfold KN; rw [scl_keys]; exact kn)
theorem con_kn (n : Int) : KN (conP n) := nz_kn (by unfold KN; simp)
theorem var_kn (x : Str) : KN (varP x) := by unfold KN varP; simp
theorem sums_snoc (ts : Poly) (t : Mono × Int) : sums (ts ++ [t]) = addP (sums ts) t := by
  unfold sums
  rw [List.foldl_append]
  rfl
theorem putP_len (p : Poly) (m : Mono) (c : Int) : (putP p m c).length ≤ p.length + 1 := by
  unfold putP
  split
  · rw [List.length_map]; omega
  · rw [List.length_append]; exact Nat.le_refl _
theorem sums_len (ts : Poly) : (sums ts).length ≤ ts.length := by
  have : ∀ (ts p : Poly), (ts.foldl addP p).length ≤ p.length + ts.length := by
    intro ts
    induction ts with
    | nil => exact fun p => Nat.le_refl _
    | cons t ts ih =>
      intro p
      have a := ih (addP p t)
      have b := putP_len p t.1 (cf p t.1 + t.2)
      show ((ts.foldl addP (addP p t))).length ≤ _
      unfold addP at a ⊢
      rw [List.length_cons]
      omega
  have := this ts []
  rw [List.length_nil] at this
  unfold sums
  omega
/-- at a the dict of a polynomial -/
def PD (H : Hp) (a : Addr) (p : Poly) : Prop := H a = some (.dT (enc p))
def MT (H : Hp) (a : Addr) (m : Mono) : Prop := H a = some (.tup (m.map V.str))
/-- at b the pair of a monomial and a number -/
def TP1 (H : Hp) (b : Addr) (t : Mono × Int) : Prop := ∃ q, H b = some (.tup [.ref q, .int t.2]) ∧ MT H q t.1
theorem MT.keep {H H' : Hp} {a : Addr} {m : Mono} (h : MT H a m) (s : Same H H') : MT H' a m := s _ _ h
theorem TP1.keep {H H' : Hp} {b : Addr} {t : Mono × Int} (h : TP1 H b t) (s : Same H H') : TP1 H' b t := let ⟨q, h1, h2⟩ := h; ⟨q, s _ _ h1, s _ _ h2⟩
theorem MT.key {H : Hp} {a : Addr} {m : Mono} (h : MT H a m) : H a = some (.tup ((kI m).map kV)) := by rw [kI_V]; exact h
theorem PD.get {H : Hp} {d b : Addr} {p : Poly} {m : Mono} (hd : Rd H d (.dT (enc p))) (hb : MT H b m) : DGet H d (.ref b) ((getP p m).map V.int) := .inr ⟨_, _, b, hd, rfl, hb.key, (enc_get p m).symm⟩
theorem PD.put {H : Hp} {d b : Addr} {p : Poly} {m : Mono} {c : Int} (hd : PD H d p) (hb : MT H b m) (hl : p.length < sizeLine) : DPut H d (.ref b) (.int c) (upd H d (.dT (enc (putP p m c)))) := by
  rw [← enc_put]
  exact DPut.t hd hb.key (by rw [enc_len]; exact hl)
theorem getD_int (o : Option Int) : ((o.map V.int).getD (.int 0)) = .int (o.getD 0) := by cases o <;> rfl
theorem nz_snoc (p : Poly) (m : Mono) (c : Int) : nz (p ++ [(m, c)]) = if c = 0 then nz p else nz p ++ [(m, c)] := by
  unfold nz
  rw [List.filter_append]
  by_cases h : c = 0 <;> simp [h]
theorem take_snoc {p : Poly} {i : Nat} {t : Mono × Int} (h : p[i]? = some t) : p.take (i + 1) = p.take i ++ [t] := by
  rw [List.take_add_one, h]
  rfl
theorem nz_fresh {p : Poly} (kn : KN p) {i : Nat} {m : Mono} {c : Int} (h : p[i]? = some (m, c)) : m ∉ (nz (p.take i)).map (·.1) := by
  intro z
  obtain ⟨t, ht, rfl⟩ := List.mem_map.mp z
  have ht := (List.mem_filter.mp ht).1
  have kn2 : KN (p.take (i + 1)) := List.Nodup.sublist (List.Sublist.map _ (List.take_sublist _ _)) kn
  unfold KN at kn2
  rw [take_snoc h, List.map_append, List.nodup_append] at kn2
  exact kn2.2.2 t.1 (List.mem_map.mpr ⟨t, ht, rfl⟩) t.1 (by simp) rfl
theorem nz_len (p : Poly) : (nz p).length ≤ p.length := List.length_filter_le ..
theorem sz_lt {n : Nat} (h : n ≤ 100000) : n < sizeLine := Nat.lt_of_le_of_lt h (by decide)
theorem paired_at {α β : Type} {G : α → β → Prop} {l : List α} {m : List β} (h : Paired G l m) {i : Nat} {b : β} (e : m[i]? = some b) : ∃ a, l[i]? = some a ∧ G a b := by
  induction h generalizing i with
  | nil => simp at e
  | cons r t ih =>
    cases i with
    | zero =>
      simp at e
      exact ⟨_, rfl, e ▸ r⟩
    | succ i => exact ih e
theorem ref_at {as : List Addr} {i : Nat} {v : V} (h : (as.map V.ref)[i]? = some v) : ∃ b, as[i]? = some b ∧ v = .ref b := by
  rw [List.getElem?_map] at h
  obtain ⟨b, hb, rfl⟩ := Option.map_eq_some_iff.mp h
  exact ⟨b, hb, rfl⟩
theorem scl_at {p : Poly} {i : Nat} {m : Mono} {c : Int} (h : p[i]? = some (m, c)) (n : Int) : (p.map fun t => (t.1, t.2 * n))[i]? = some (m, c * n) := by
  rw [List.getElem?_map, h]
  rfl
theorem take_fresh {p : Poly} (kn : KN p) {i : Nat} {m : Mono} {c : Int} (h : p[i]? = some (m, c)) : m ∉ (p.take i).map (·.1) := by
  intro z
  obtain ⟨t, ht, rfl⟩ := List.mem_map.mp z
  have kn2 : KN (p.take (i + 1)) := List.Nodup.sublist (List.Sublist.map _ (List.take_sublist _ _)) kn
  unfold KN at kn2
  rw [take_snoc h, List.map_append, List.nodup_append] at kn2
  exact kn2.2.2 t.1 (List.mem_map.mpr ⟨t, ht, rfl⟩) t.1 (by simp) rfl
/-- the value -/
def prv (v : Str → Int) (m : Mono) : Int := m.foldl (fun z x => z * v x) 1
def ev1 (v : Str → Int) (t : Mono × Int) : Int := t.1.foldl (fun z x => z * v x) t.2
def evp (v : Str → Int) (p : Poly) : Int := p.foldl (fun z t => z + ev1 v t) 0
theorem evp_snoc (v : Str → Int) (p : Poly) (t : Mono × Int) : evp v (p ++ [t]) = evp v p + ev1 v t := by
  unfold evp
  rw [List.foldl_append]
  rfl
theorem paired_keep {H H' : Hp} (s : Same H H') {as : List Addr} {ts : Poly} (h : Paired (TP1 H) as ts) : Paired (TP1 H') as ts := Paired.mapP h fun _ _ r => r.keep s
theorem flat_take {α : Type} {ls : List (List α)} {i : Nat} {l : List α} (h : ls[i]? = some l) : (ls.take (i + 1)).flatten = (ls.take i).flatten ++ l := by
  rw [List.take_add_one, h, List.flatten_append]
  simp
theorem flat_le {α : Type} (ls : List (List α)) (i : Nat) : (ls.take i).flatten.length ≤ ls.flatten.length := by
  have e : ls.flatten = (ls.take i).flatten ++ (ls.drop i).flatten := by rw [← List.flatten_append, List.take_append_drop]
  rw [e, List.length_append]
  omega
theorem scl_len (p : Poly) (n : Int) : (sclP p n).length ≤ p.length := by
  have := nz_len (p.map fun t => (t.1, t.2 * n))
  rw [List.length_map] at this
  exact this
theorem sm_one {B : Nat} (h : 1 ≤ B) : Sm B 1 := Nat.lt_of_lt_of_le (by decide) (Nat.pow_le_pow_right (by decide) h)
theorem sm_neg1 {B : Nat} (h : 1 ≤ B) : Sm B (-1) := sm_one h
theorem refs_append (as bs : List Addr) : as.map V.ref ++ bs.map V.ref = (as ++ bs).map V.ref := List.map_append.symm
theorem prods_len (p r : Poly) : (prods p r).length = p.length * r.length := by
  induction p with
  | nil => simp [prods]
  | cons s p ih =>
    unfold prods at ih ⊢
    rw [List.flatMap_cons, List.length_append, ih, List.length_map, List.length_cons, Nat.succ_mul]
    omega
/-! walks -/
theorem dcT_it {J : It} {n : Nat} {G : Hp → Prop} {Y : Nat → Hp → V → Hp → Prop} (w : Walk J n G Y) {g : TG} {tt : TT} {tk tv : TE} {vs : List Nat} {σ : L2.St} {H1 : Hp} {D : Addr} {Qd : Hp → Prop} (Pv : Nat → Hp → Prop) (h0 : Pv 0 (upd H1 D (.dT []))) (hG : ∀ i H, i ≤ n → Pv i H → G H)
    (hs : ∀ i x H H', i < n → Pv i H → Y i H x H' → g x (wipe σ vs) H' fun σ2 H2 => wipe σ2 vs = wipe σ vs ∧ tt σ2 H2 fun b H3 =>
      if b = true then tk σ2 H3 fun y H4 => tv σ2 H4 fun z H5 => ∃ ps k b, y = .ref b ∧ H5 b = some (.tup (k.map kV)) ∧ H5 D = some (.dT ps) ∧ ps.length < sizeLine ∧ Pv (i + 1) (upd H5 D (.dT (putK ps k z))) else Pv (i + 1) H3) (hd : ∀ H, Pv n H → Qd H) :
    ∃ W : Nat → Nat → Hp → Prop, (∃ m, W 0 m (upd H1 D (.dT []))) ∧ ∀ i m H, W i m H →
      (J.stop i H ∧ Qd H) ∨ (J.go i H ∧ ∃ Nx : Hp → Prop, (∀ H', Nx H' → ∃ m', m' < m ∧ W (i + 1) m' H') ∧ ∀ x H', J.yld i H x H' → g x (wipe σ vs) H' fun σ2 H2 => wipe σ2 vs = wipe σ vs ∧ tt σ2 H2 fun b H3 =>
        if b = true then tk σ2 H3 fun y H4 => tv σ2 H4 fun z H5 => ∃ ps k b, y = .ref b ∧ H5 b = some (.tup (k.map kV)) ∧ H5 D = some (.dT ps) ∧ ps.length < sizeLine ∧ Nx (upd H5 D (.dT (putK ps k z))) else Nx H3) := by
  refine ⟨fun i m H => m = n - i ∧ i ≤ n ∧ Pv i H, ⟨n, by simp, Nat.zero_le _, h0⟩, ?_⟩
  rintro i m H ⟨rfl, le, p⟩
  have gd := hG i H le p
  by_cases lt : i < n
  · exact .inr ⟨w.goes i H lt gd, Pv (i + 1), fun H' p' => ⟨n - (i + 1), by omega, rfl, lt, p'⟩, fun x H' y => hs i x H H' lt p (w.yields i H x H' lt gd y)⟩
  · obtain rfl : i = n := by omega
    exact .inl ⟨w.stops H gd, hd H p⟩
end RR

namespace RR
open PySem PySem.Spec PyProof.Rows L2
section
variable {J : It} {n : Nat} {G : Hp → Prop} {Y : Nat → Hp → V → Hp → Prop}
/-- a comprehension with two fors, the outer walk -/
theorem lc2_it (w : Walk J n G Y) {g : TG} {tt : TT} {wi1 : TI} {g1 : TG} {tt1 : TT} {te : TE} {vs vs1 : List Nat} {σ : L2.St} {H1 : Hp} {D : Addr} {Qd : Hp → Prop} (Pv : Nat → Hp → Prop) (h0 : Pv 0 (upd H1 D (.lst []))) (hG : ∀ i H, i ≤ n → Pv i H → G H)
    (hs : ∀ i x H H', i < n → Pv i H → Y i H x H' → g x (wipe σ vs) H' fun σ2 H2 => wipe σ2 vs = wipe σ vs ∧ tt σ2 H2 fun b H3 =>
      if b = true then wi1 σ2 H3 fun J1 H4 => ∃ W1 : Nat → Nat → Hp → Prop, (∃ m, W1 0 m H4) ∧ ∀ j k H, W1 j k H →
        (J1.stop j H ∧ Pv (i + 1) H) ∨ (J1.go j H ∧ ∃ Nx1 : Hp → Prop, (∀ H', Nx1 H' → ∃ k', k' < k ∧ W1 (j + 1) k' H') ∧ ∀ x H', J1.yld j H x H' → g1 x (wipe σ2 vs1) H' fun σ3 H5 => wipe σ3 vs1 = wipe σ2 vs1 ∧ tt1 σ3 H5 fun b H6 =>
          if b = true then te σ3 H6 fun y H7 => ∃ acc, H7 D = some (.lst acc) ∧ acc.length < sizeLine ∧ Nx1 (upd H7 D (.lst (acc ++ [y]))) else Nx1 H6)
      else Pv (i + 1) H3) (hd : ∀ H, Pv n H → Qd H) :
    ∃ W : Nat → Nat → Hp → Prop, (∃ m, W 0 m (upd H1 D (.lst []))) ∧ ∀ i m H, W i m H →
      (J.stop i H ∧ Qd H) ∨ (J.go i H ∧ ∃ Nx : Hp → Prop, (∀ H', Nx H' → ∃ m', m' < m ∧ W (i + 1) m' H') ∧ ∀ x H', J.yld i H x H' → g x (wipe σ vs) H' fun σ2 H2 => wipe σ2 vs = wipe σ vs ∧ tt σ2 H2 fun b H3 =>
        if b = true then wi1 σ2 H3 fun J1 H4 => ∃ W1 : Nat → Nat → Hp → Prop, (∃ m, W1 0 m H4) ∧ ∀ j k H, W1 j k H →
          (J1.stop j H ∧ Nx H) ∨ (J1.go j H ∧ ∃ Nx1 : Hp → Prop, (∀ H', Nx1 H' → ∃ k', k' < k ∧ W1 (j + 1) k' H') ∧ ∀ x H', J1.yld j H x H' → g1 x (wipe σ2 vs1) H' fun σ3 H5 => wipe σ3 vs1 = wipe σ2 vs1 ∧ tt1 σ3 H5 fun b H6 =>
            if b = true then te σ3 H6 fun y H7 => ∃ acc, H7 D = some (.lst acc) ∧ acc.length < sizeLine ∧ Nx1 (upd H7 D (.lst (acc ++ [y]))) else Nx1 H6)
        else Nx H3) := by
  refine ⟨fun i m H => m = n - i ∧ i ≤ n ∧ Pv i H, ⟨n, by simp, Nat.zero_le _, h0⟩, ?_⟩
  rintro i m H ⟨rfl, hi, p⟩
  have q := hG i H hi p
  by_cases hlt : i < n
  · exact .inr ⟨w.goes i H hlt q, Pv (i + 1), fun H' p' => ⟨n - (i + 1), by omega, rfl, hlt, p'⟩, fun x H' y => hs i x H H' hlt p (w.yields i H x H' hlt q y)⟩
  · have e : i = n := by omega
    subst e
    exact .inl ⟨w.stops H q, hd H p⟩
/-- .. and the inner one -/
theorem in_it (w : Walk J n G Y) {g1 : TG} {tt1 : TT} {te : TE} {vs1 : List Nat} {σ2 : L2.St} {H4 : Hp} {D : Addr} {N : Hp → Prop} (Pv : Nat → Hp → Prop) (h0 : Pv 0 H4) (hG : ∀ i H, i ≤ n → Pv i H → G H)
    (hs : ∀ j x H H', j < n → Pv j H → Y j H x H' → g1 x (wipe σ2 vs1) H' fun σ3 H5 => wipe σ3 vs1 = wipe σ2 vs1 ∧ tt1 σ3 H5 fun b H6 =>
      if b = true then te σ3 H6 fun y H7 => ∃ acc, H7 D = some (.lst acc) ∧ acc.length < sizeLine ∧ Pv (j + 1) (upd H7 D (.lst (acc ++ [y]))) else Pv (j + 1) H6) (hd : ∀ H, Pv n H → N H) :
    ∃ W1 : Nat → Nat → Hp → Prop, (∃ m, W1 0 m H4) ∧ ∀ j k H, W1 j k H →
      (J.stop j H ∧ N H) ∨ (J.go j H ∧ ∃ Nx1 : Hp → Prop, (∀ H', Nx1 H' → ∃ k', k' < k ∧ W1 (j + 1) k' H') ∧ ∀ x H', J.yld j H x H' → g1 x (wipe σ2 vs1) H' fun σ3 H5 => wipe σ3 vs1 = wipe σ2 vs1 ∧ tt1 σ3 H5 fun b H6 =>
        if b = true then te σ3 H6 fun y H7 => ∃ acc, H7 D = some (.lst acc) ∧ acc.length < sizeLine ∧ Nx1 (upd H7 D (.lst (acc ++ [y]))) else Nx1 H6) := by
  refine ⟨fun i m H => m = n - i ∧ i ≤ n ∧ Pv i H, ⟨n, by simp, Nat.zero_le _, h0⟩, ?_⟩
  rintro i m H ⟨rfl, hi, p⟩
  have q := hG i H hi p
  by_cases hlt : i < n
  · exact .inr ⟨w.goes i H hlt q, Pv (i + 1), fun H' p' => ⟨n - (i + 1), by omega, rfl, hlt, p'⟩, fun x H' y => hs i x H H' hlt p (w.yields i H x H' hlt q y)⟩
  · have e : i = n := by omega
    subst e
    exact .inl ⟨w.stops H q, hd H p⟩
end
end RR

namespace RR
open PySem PySem.Spec PyProof.Rows L2
/-! values of polynomials -/
def prd (v : Str → Int) : Mono → Int
  | [] => 1
  | x :: m => v x * prd v m
def sumv (v : Str → Int) : Poly → Int
  | [] => 0
  | t :: p => t.2 * prd v t.1 + sumv v p
theorem prd_perm (v : Str → Int) {m n : Mono} (h : m.Perm n) : prd v m = prd v n := by
  induction h with
  | nil => rfl
  | cons x _ ih => simp only [prd, ih]
  | swap x y l => simp only [prd]; exact Int.mul_left_comm ..
  | trans _ _ a b => exact a.trans b
theorem prd_append (v : Str → Int) (m n : Mono) : prd v (m ++ n) = prd v m * prd v n := by
  induction m with
  | nil => simp [prd]
  | cons x m ih => simp only [List.cons_append, prd, ih, Int.mul_assoc]
theorem prd_mrg (v : Str → Int) (m n : Mono) : prd v (mrg m n) = prd v m * prd v n := by rw [← prd_append]; exact prd_perm v (srt_perm _)
theorem ev1_eq (v : Str → Int) (t : Mono × Int) : ev1 v t = t.2 * prd v t.1 := by
  obtain ⟨m, c⟩ := t
  unfold ev1
  show m.foldl _ c = c * prd v m
  induction m generalizing c with
  | nil => simp [prd]
  | cons x m ih => rw [List.foldl_cons, ih, prd, Int.mul_assoc]
theorem sumv_append (v : Str → Int) (p r : Poly) : sumv v (p ++ r) = sumv v p + sumv v r := by
  induction p with
  | nil => simp [sumv]
  | cons t p ih => simp only [List.cons_append, sumv, ih, Int.add_assoc]
theorem evp_eq (v : Str → Int) (p : Poly) : evp v p = sumv v p := by
  have : ∀ (p : Poly) (z : Int), p.foldl (fun z t => z + ev1 v t) z = z + sumv v p := by
    intro p
    induction p with
    | nil => intro z; simp [sumv]
    | cons t p ih => intro z; rw [List.foldl_cons, ih, ev1_eq, sumv, Int.add_assoc]
  unfold evp
  rw [this]
  omega
theorem sumv_nz (v : Str → Int) (p : Poly) : sumv v (nz p) = sumv v p := by
  induction p with
  | nil => rfl
  | cons t p ih =>
    unfold nz at ih ⊢
    by_cases h : t.2 = 0
    · rw [List.filter_cons_of_neg (by simp [h]), ih, sumv, h, Int.zero_mul, Int.zero_add]
    · rw [List.filter_cons_of_pos (by simp [h]), sumv, sumv, ih]
theorem cf_cons (t : Mono × Int) (p : Poly) (m : Mono) : cf (t :: p) m = if t.1 = m then t.2 else cf p m := by
  unfold cf getP
  rw [List.find?_cons]
  by_cases h : t.1 = m <;> simp [h]
theorem putP_cons (t : Mono × Int) (p : Poly) (kn : KN (t :: p)) (m : Mono) (c : Int) : putP (t :: p) m c = if t.1 = m then (m, c) :: p else t :: putP p m c := by
  unfold KN at kn
  rw [List.map_cons, List.nodup_cons] at kn
  by_cases h : t.1 = m
  · rw [if_pos h]
    unfold putP
    rw [if_pos (by simp [h])]
    rw [List.map_cons, if_pos h, h]
    congr 1
    rw [List.map_congr_left (g := id)]
    · simp
    · intro s hs
      rw [if_neg (fun e => kn.1 (by rw [h, ← e]; exact List.mem_map.mpr ⟨s, hs, rfl⟩))]
      rfl
  · rw [if_neg h]
    unfold putP
    rw [List.any_cons, decide_eq_false h, Bool.false_or]
    split
    · rw [List.map_cons, if_neg h]
    · rfl
theorem sumv_add (v : Str → Int) : ∀ (p : Poly), KN p → ∀ t : Mono × Int, sumv v (addP p t) = sumv v p + t.2 * prd v t.1
  | [], _, t => by simp [addP, putP, cf, getP, sumv]
  | s :: p, kn, t => by
    have ih := sumv_add v p (by unfold KN at kn ⊢; rw [List.map_cons, List.nodup_cons] at kn; exact kn.2) t
    unfold addP at ih ⊢
    rw [putP_cons _ _ kn, cf_cons]
    by_cases h : s.1 = t.1
    · rw [if_pos h, if_pos h, sumv, sumv, h]
      simp only []
      rw [Int.add_mul]
      omega
    · rw [if_neg h, if_neg h, sumv, sumv, ih]
      omega
theorem sumv_sums (v : Str → Int) (ts : Poly) : sumv v (sums ts) = sumv v ts := by
  have : ∀ (ts p : Poly), KN p → sumv v (ts.foldl addP p) = sumv v p + sumv v ts := by
    intro ts
    induction ts with
    | nil => intro p _; simp [sumv]
    | cons t ts ih =>
      intro p kn
      rw [List.foldl_cons, ih (addP p t) (putP_kn kn _ _), sumv_add v p kn, sumv, Int.add_assoc]
  have := this ts [] List.nodup_nil
  unfold sums
  rw [this]
  simp [sumv]
theorem sumv_coll (v : Str → Int) (ts : Poly) : sumv v (coll ts) = sumv v ts := by unfold coll; rw [sumv_nz, sumv_sums]
theorem sumv_plus (v : Str → Int) (p r : Poly) : sumv v (plusP p r) = sumv v p + sumv v r := by unfold plusP; rw [sumv_coll, sumv_append]
theorem sumv_scl (v : Str → Int) (p : Poly) (n : Int) : sumv v (sclP p n) = sumv v p * n := by
  unfold sclP
  rw [sumv_nz]
  induction p with
  | nil => simp [sumv]
  | cons t p ih => rw [List.map_cons, sumv, sumv, ih, Int.add_mul]; congr 1; exact Int.mul_right_comm ..
theorem sumv_min (v : Str → Int) (p r : Poly) : sumv v (minP p r) = sumv v p - sumv v r := by unfold minP; rw [sumv_plus, sumv_scl]; omega
theorem sumv_con (v : Str → Int) (n : Int) : sumv v (conP n) = n := by unfold conP; rw [sumv_nz]; simp [sumv, prd]
theorem sumv_var (v : Str → Int) (x : Str) : sumv v (varP x) = v x := by simp [varP, sumv, prd]
theorem sumv_mul (v : Str → Int) (p r : Poly) : sumv v (mulP p r) = sumv v p * sumv v r := by
  unfold mulP
  rw [sumv_coll]
  induction p with
  | nil => simp [prods, sumv]
  | cons s p ih =>
    have e : prods (s :: p) r = (r.map fun t => (mrg s.1 t.1, s.2 * t.2)) ++ prods p r := by simp [prods]
    rw [e, sumv_append, ih, sumv, Int.add_mul]
    congr 1
    clear ih e
    induction r with
    | nil => simp [sumv]
    | cons t r ih =>
      rw [List.map_cons, sumv, sumv, ih, prd_mrg, Int.mul_add]
      congr 1
      grind
/-! how large they are -/
structure Bd (N L M : Nat) (p : Poly) : Prop where
  kn : KN p
  len : p.length ≤ N
  deg : ∀ t ∈ p, t.1.length ≤ L
  cof : ∀ t ∈ p, t.2.natAbs ≤ M
theorem Bd.mono {N L M N' L' M' : Nat} {p : Poly} (h : Bd N L M p) (a : N ≤ N') (b : L ≤ L') (c : M ≤ M') : Bd N' L' M' p := ⟨h.kn, Nat.le_trans h.len a, fun t ht => Nat.le_trans (h.deg t ht) b, fun t ht => Nat.le_trans (h.cof t ht) c⟩
theorem Bd.sm {N L M B : Nat} {p : Poly} (h : Bd N L M p) (hB : M < 2 ^ B) : ∀ t ∈ p, Sm B t.2 := fun t ht => Nat.lt_of_le_of_lt (h.cof t ht) hB
theorem nz_sub {p : Poly} {t : Mono × Int} (h : t ∈ nz p) : t ∈ p := (List.mem_filter.mp h).1
theorem Bd.con (n : Int) : Bd 1 0 n.natAbs (conP n) := by
  refine ⟨con_kn n, nz_len _, fun t ht => ?_, fun t ht => ?_⟩
  all_goals
    have := nz_sub ht
    rw [List.mem_singleton] at this
    subst this
    exact Nat.le_refl _
theorem Bd.var (x : Str) : Bd 1 1 1 (varP x) := by
  refine ⟨var_kn x, Nat.le_refl _, fun t ht => ?_, fun t ht => ?_⟩
  all_goals
    unfold varP at ht
    rw [List.mem_singleton] at ht
    subst ht
    exact Nat.le_refl _
theorem Bd.scl {N L M : Nat} {p : Poly} (h : Bd N L M p) (n : Int) : Bd N L (M * n.natAbs) (sclP p n) := by
  refine ⟨scl_kn h.kn n, Nat.le_trans (scl_len p n) h.len, fun t ht => ?_, fun t ht => ?_⟩
  all_goals
    obtain ⟨s, hs, rfl⟩ := List.mem_map.mp (nz_sub ht)
  · exact h.deg s hs
  · show (s.2 * n).natAbs ≤ _
    rw [Int.natAbs_mul]
    exact Nat.mul_le_mul_right _ (h.cof s hs)
theorem mem_put {p : Poly} {m : Mono} {c : Int} {t : Mono × Int} (h : t ∈ putP p m c) : t = (m, c) ∨ t ∈ p := by
  unfold putP at h
  split at h
  · obtain ⟨s, hs, e⟩ := List.mem_map.mp h
    by_cases z : s.1 = m
    · rw [if_pos z, z] at e
      exact .inl e.symm
    · rw [if_neg z] at e
      exact .inr (e ▸ hs)
  · rcases List.mem_append.mp h with h | h
    · exact .inr h
    · exact .inl (List.mem_singleton.mp h)
theorem cf_le {p : Poly} {K : Nat} (h : ∀ t ∈ p, t.2.natAbs ≤ K) (m : Mono) : (cf p m).natAbs ≤ K := by
  unfold cf getP
  cases e : p.find? fun t => decide (t.1 = m) with
  | none => exact Nat.zero_le _
  | some t => exact h t (List.mem_of_find?_eq_some e)
theorem sums_bd {L M : Nat} : ∀ (ts p : Poly) (K : Nat), (∀ t ∈ ts, t.1.length ≤ L ∧ t.2.natAbs ≤ M) → (∀ t ∈ p, t.1.length ≤ L ∧ t.2.natAbs ≤ K) → ∀ t ∈ ts.foldl addP p, t.1.length ≤ L ∧ t.2.natAbs ≤ K + ts.length * M
  | [], p, K, _, hp, t, ht => by
    have := hp t ht
    simp
    exact this
  | s :: ts, p, K, hs, hp, t, ht => by
    have hs1 := hs s (List.mem_cons_self ..)
    have := sums_bd ts (addP p s) (K + M) (fun t ht => hs t (List.mem_cons_of_mem _ ht)) (fun t ht => ?_) t ht
    · rw [List.length_cons, Nat.succ_mul]
      omega
    · rcases mem_put ht with rfl | ht
      · refine ⟨hs1.1, ?_⟩
        have := cf_le (fun t ht => (hp t ht).2) s.1
        show (cf p s.1 + s.2).natAbs ≤ _
        omega
      · have := hp t ht
        omega
theorem Bd.coll {N L M : Nat} {ts : Poly} (h1 : ts.length ≤ N) (h2 : ∀ t ∈ ts, t.1.length ≤ L ∧ t.2.natAbs ≤ M) : Bd N L (N * M) (coll ts) := by
  have b := sums_bd ts [] 0 h2 (fun t ht => (List.not_mem_nil ht).elim)
  refine ⟨coll_kn ts, Nat.le_trans (nz_len _) (Nat.le_trans (sums_len ts) h1), fun t ht => (b t (nz_sub ht)).1, fun t ht => ?_⟩
  have := (b t (nz_sub ht)).2
  have := Nat.mul_le_mul_right M h1
  omega
theorem Bd.plus {N N' L M : Nat} {p r : Poly} (h : Bd N L M p) (g : Bd N' L M r) : Bd (N + N') L ((N + N') * M) (plusP p r) := by
  refine Bd.coll ?_ fun t ht => ?_
  · rw [List.length_append]
    exact Nat.add_le_add h.len g.len
  · rcases List.mem_append.mp ht with ht | ht
    · exact ⟨h.deg t ht, h.cof t ht⟩
    · exact ⟨g.deg t ht, g.cof t ht⟩
theorem Bd.min {N N' L M : Nat} {p r : Poly} (h : Bd N L M p) (g : Bd N' L M r) : Bd (N + N') L ((N + N') * M) (minP p r) := by
  have := g.scl (-1)
  rw [show (-1 : Int).natAbs = 1 from rfl, Nat.mul_one] at this
  exact h.plus this
theorem Bd.mul {N N' L L' M M' : Nat} {p r : Poly} (h : Bd N L M p) (g : Bd N' L' M' r) : Bd (N * N') (L + L') (N * N' * (M * M')) (mulP p r) := by
  refine Bd.coll ?_ fun t ht => ?_
  · rw [prods_len]
    exact Nat.mul_le_mul h.len g.len
  · unfold prods at ht
    obtain ⟨s, hs, ht⟩ := List.mem_flatMap.mp ht
    obtain ⟨u, hu, rfl⟩ := List.mem_map.mp ht
    refine ⟨?_, ?_⟩
    · show (srt (s.1 ++ u.1)).length ≤ _
      rw [srt_len, List.length_append]
      exact Nat.add_le_add (h.deg s hs) (g.deg u hu)
    · show (s.2 * u.2).natAbs ≤ _
      rw [Int.natAbs_mul]
      exact Nat.mul_le_mul (h.cof s hs) (g.cof u hu)
end RR
namespace RR
open PySem PySem.Spec PyProof.Rows L2
/-! a module's own tuple -/
def TupO (o : Obj) (xs : List V) : Prop := o.cls = .type "tuple" ∧ ∃ (its : Array Value) (n : Nat), o.data = .seq its n ∧ its.size ≤ sizeLine ∧ Vals xs its.toList
theorem TupO.by_ {o : Obj} {xs : List V} {its : Array Value} {n : Nat} (h1 : o.cls = .type "tuple") (h2 : o.data = .seq its n) (h3 : its.size ≤ sizeLine) (h4 : Vals xs its.toList) : TupO o xs := ⟨h1, its, n, h2, h3, h4⟩
def TupK (K : PySem.W.Frag) (a : Addr) (xs : List V) : Prop := ∃ o, K.lookup a = some o ∧ TupO o xs
theorem TupK.of {K : PySem.W.Frag} {a : Addr} {o : Obj} {xs : List V} (h : K.lookup a = some o) (g : TupO o xs) : TupK K a xs := ⟨o, h, g⟩
theorem TupK.sq {K : PySem.W.Frag} {a : Addr} {xs : List V} (h : TupK K a xs) (H : Hp) : SqT K H a xs := by
  obtain ⟨o, h1, h2, its, n, h3, h4, h5⟩ := h
  exact .inr ⟨o, its, n, h1, h2, h3, h4, h5⟩
end RR
namespace RR
open PySem PySem.Spec PyProof.Rows L2
/-- at d the relation that a polynomial is 0 -/
def ZR (H : Hp) (d : Addr) (p : Poly) : Prop := ∃ z, H d = some (.tup [.str (PySem.Str.ofString "zero"), .ref z]) ∧ PD H z p
theorem ZR.keep {H H' : Hp} {d : Addr} {p : Poly} (h : ZR H d p) (s : Same H H') : ZR H' d p := let ⟨z, a, b⟩ := h; ⟨z, s _ _ a, s _ _ b⟩
theorem PD.keep {H H' : Hp} {d : Addr} {p : Poly} (h : PD H d p) (s : Same H H') : PD H' d p := s _ _ h
def oneP (x y a : Poly) : Poly := minP (minP (mulP x x) (mulP (minP (mulP a a) (conP 1)) (mulP y y))) (conP 1)
/-- a polynomial of moderate size -/
abbrev Md (p : Poly) : Prop := Bd 8 8 (2 ^ 100) p
theorem Md.of {N L M : Nat} {p : Poly} (h : Bd N L M p) (a : N ≤ 8) (b : L ≤ 8) (c : M ≤ 2 ^ 100) : Md p := h.mono a b c
theorem Bd.deg2 {N L M N' L' M' : Nat} {p r : Poly} (h : Bd N L M p) (g : Bd N' L' M' r) (k : L + L' < 64) : ∀ s ∈ p, ∀ t ∈ r, s.1.length + t.1.length < 64 := fun s hs t ht => by
  have a := h.deg s hs
  have b := g.deg t ht
  omega
theorem Bd.mulLen {N L M N' L' M' : Nat} {p r : Poly} (h : Bd N L M p) (g : Bd N' L' M' r) (k : N * N' ≤ 100000) : p.length * r.length ≤ 100000 := Nat.le_trans (Nat.mul_le_mul h.len g.len) k
theorem Bd.addLen {N L M N' L' M' : Nat} {p r : Poly} (h : Bd N L M p) (g : Bd N' L' M' r) (k : N + N' ≤ 100000) : p.length + r.length ≤ 100000 := Nat.le_trans (Nat.add_le_add h.len g.len) k
theorem Md.one : Md (conP 1) := (Bd.con 1).mono (by decide) (by decide) (by decide +kernel)
end RR
namespace RR
open PySem PySem.Spec PyProof.Rows L2
abbrev Sd (p : Poly) : Prop := Bd 8 8 (2 ^ 90) p
theorem Sd.md {p : Poly} (h : Sd p) : Md p := h.mono (by decide) (by decide) (by decide +kernel)
def nms : List Str := ["x", "y", "u", "v", "s", "t", "b", "r", "p", "q", "c", "d", "e"]
def eqsP (k a : Poly) (P : Str → Poly) : List Poly :=
  [oneP (P "x") (P "y") a, oneP (P "u") (P "v") a, oneP (P "s") (P "t") (P "b"), minP (P "v") (mulP (plusP (P "r") (conP 1)) (mulP (P "y") (P "y"))), minP (P "b") (plusP (conP 1) (mulP (P "p") (sclP (P "y") 4))),
    minP (P "b") (plusP a (mulP (P "q") (P "u"))), minP (P "s") (plusP (P "x") (mulP (P "c") (P "u"))), minP (P "t") (plusP k (mulP (P "d") (sclP (P "y") 4))), minP (P "y") (plusP k (P "e"))]
end RR
namespace RR
open PySem PySem.Spec PyProof.Rows L2
/-- what stands between two statements -/
theorem seq_cut {t u : TS} {D : Ends} {σ : L2.St} {H : Hp} (R : L2.St → Hp → Prop) (h2 : ∀ σ' H', R σ' H' → u D σ' H') (h1 : ∀ nx : L2.St → Hp → Prop, (∀ σ' H', R σ' H' → nx σ' H') → t { D with nx := nx } σ H) : tSeq t u D σ H := h1 (u D) h2
end RR
namespace RR
open PySem PySem.Spec PyProof.Rows L2
theorem dvi (a b : Int) : decide (V.int a = V.int b) = decide (a = b) := decide_eq_decide.mpr ⟨fun h => by injection h, fun h => by rw [h]⟩
theorem dvb (a b : Bool) : decide (V.bl a = V.bl b) = decide (a = b) := decide_eq_decide.mpr ⟨fun h => by injection h, fun h => by rw [h]⟩
end RR

namespace RR
open PySem PySem.Spec PyProof.Rows L2
section
variable {X : Cx}
/-- name = {k: v for ..}, the keys ints or texts -/
theorem ps_setDc {i : Nat} {y : Str} {py : Pos} {kx vx tg iter : Expr} {ifs : List Expr} {scope : Scope} {own : List (Str × Nat)} {pos spos : Pos} {wi : TI} {g : TG} {tt : TT} {tk tv : TE} (hc : X.calm = true) (hN : X.N.Nodup) (hy : X.N[i]? = some y) (hyl : X.env.scope.names.lookup y = some .local)
    (hsw : swapsWith (.DictComp kx vx [⟨tg, iter, ifs, 0⟩] scope pos) (some (.Name y py)) spos.line X.env = pure true) (hi : PI X tg iter wi) (ok : BlkOk X.N X.env.scope scope own)
    (hg : ∀ (s : Shared) (H : Hp) (C : Addr) (cl : List (Str × Addr)) (fp : List Addr), PG (X.blk s H scope (compEnvC scope cl C X.env) fp) tg g)
    (ht : ∀ (s : Shared) (H : Hp) (C : Addr) (cl : List (Str × Addr)) (fp : List Addr), PTs (X.blk s H scope (compEnvC scope cl C X.env) fp) ifs tt)
    (hk : ∀ (s : Shared) (H : Hp) (C : Addr) (cl : List (Str × Addr)) (fp : List Addr), PE (X.blk s H scope (compEnvC scope cl C X.env) fp) kx tk)
    (hv : ∀ (s : Shared) (H : Hp) (C : Addr) (cl : List (Str × Addr)) (fp : List Addr), PE (X.blk s H scope (compEnvC scope cl C X.env) fp) vx tv)
    (hs : ∀ x, foldedSetIterable iter X.env x = pure x := by intro _; rfl) :
    PS X (.Assign [.Name y py] (.DictComp kx vx [⟨tg, iter, ifs, 0⟩] scope pos) spos) (tAsg (tDc wi g tt tk tv (own.map (·.2))) (gName i)) := by
  constructor
  intro pins s σ H D I reading
  rw [exec_Assign_Name_used _ _ _ _ hsw]
  refine wpAny_bind (wpAny_standAt (wpAny_bind ?_))
  have reading : tDc wi g tt tk tv (own.map (·.2)) σ H (fun x H1 => gName i x σ H1 D.nx) := reading
  show wpAny _ X.A (do let _ ← comprehension (.DictComp kx vx [⟨tg, iter, ifs, 0⟩] scope pos) scope X.env (firstIterPos [⟨tg, iter, ifs, 0⟩] pos) newDict false (eval iter X.env) (some (assign (.Name y py) X.env))) _ _ s
  refine wpAny_bind (thn (dc_core (Qf := fun _ s' => SP X pins D .next s') hc hN I hi ok hg ht hk hv hs reading ?_) fun _ s' q => wpAny_pure (wpAny_pure q))
  intro L C s' m H' I' q names ⟨f0, f1, f2, f3, f4, f5⟩
  show wpAny _ _ (assign (.Name y py) X.env (.ref L)) _ _ _
  refine wpAny_assign_Name (store_ok2 (v := V.ref L) I' hN hy (.inl hyl) rfl (fun s2 I2 ⟨a, but, ha⟩ => ?_) (.inr hyl))
  have apart : C ≠ a := by
    rcases ha with z | z
    · rw [z]
      exact f1
    · exact fun e => f4 y a z e.symm
  exact ⟨m, names.sameBut but apart, fun h3 but3 => ⟨_, H', I2.turned (t' := s2.toks) (fun b o hb e => (but3.2 b hb).trans e) f0 f1 f3 f4 f5, q⟩⟩
theorem sw_dict {kx vx : Expr} {gs : List Comprehension} {scope : Scope} {pos py : Pos} {y : Str} {l : Nat} {env : Env} (hk : env.scope.kind = .function) (hy : env.scope.names.lookup y = some .local) (hl : (py.line == pos.line) = true)
    (ha : (scope.names.any fun (n, k) => n == y && (k == .local || k == .cell)) = false) : swapsWith (.DictComp kx vx gs scope pos) (some (.Name y py)) l env = pure true := by
  have a : env.kindOf y = some .local := hy
  have b : env.blockKind = .function := by
    unfold Env.blockKind
    rw [hk]
    rfl
  unfold swapsWith
  simp only [b, a, ha, Expr.pos, hl]
  rfl
/-- over a walk -/
theorem dc_it {J : It} {n : Nat} {G : Hp → Prop} {Y : Nat → Hp → V → Hp → Prop} (w : Walk J n G Y) {g : TG} {tt : TT} {tk tv : TE} {vs : List Nat} {σ : L2.St} {H1 : Hp} {D : Addr} {Qd : Hp → Prop} (Pv : Nat → Hp → Prop) (h0 : Pv 0 (upd H1 D (.dK []))) (hG : ∀ i H, i ≤ n → Pv i H → G H)
    (hs : ∀ i x H H', i < n → Pv i H → Y i H x H' → g x (wipe σ vs) H' fun σ2 H2 => wipe σ2 vs = wipe σ vs ∧ tt σ2 H2 fun b H3 =>
      if b = true then tk σ2 H3 fun y H4 => tv σ2 H4 fun z H5 => ∃ ks k, y = kV k ∧ H5 D = some (.dK ks) ∧ ks.length < sizeLine ∧ Pv (i + 1) (upd H5 D (.dK (putK ks k z))) else Pv (i + 1) H3) (hd : ∀ H, Pv n H → Qd H) :
    ∃ W : Nat → Nat → Hp → Prop, (∃ m, W 0 m (upd H1 D (.dK []))) ∧ ∀ i m H, W i m H →
      (J.stop i H ∧ Qd H) ∨ (J.go i H ∧ ∃ Nx : Hp → Prop, (∀ H', Nx H' → ∃ m', m' < m ∧ W (i + 1) m' H') ∧ ∀ x H', J.yld i H x H' → g x (wipe σ vs) H' fun σ2 H2 => wipe σ2 vs = wipe σ vs ∧ tt σ2 H2 fun b H3 =>
        if b = true then tk σ2 H3 fun y H4 => tv σ2 H4 fun z H5 => ∃ ks k, y = kV k ∧ H5 D = some (.dK ks) ∧ ks.length < sizeLine ∧ Nx (upd H5 D (.dK (putK ks k z))) else Nx H3) := by
  refine ⟨fun i m H => m = n - i ∧ i ≤ n ∧ Pv i H, ⟨n, by simp, Nat.zero_le _, h0⟩, ?_⟩
  rintro i m H ⟨rfl, le, p⟩
  have gd := hG i H le p
  by_cases lt : i < n
  · exact .inr ⟨w.goes i H lt gd, Pv (i + 1), fun H' p' => ⟨n - (i + 1), by omega, rfl, lt, p'⟩, fun x H' y => hs i x H H' lt p (w.yields i H x H' lt gd y)⟩
  · obtain rfl : i = n := by omega
    exact .inl ⟨w.stops H gd, hd H p⟩
end
end RR
namespace RR
open PySem PySem.Spec PyProof.Rows L2
/-- dict(d), d a dict with keys ints and texts: a copy -/
theorem call_dictK {X : Cx} : CallR X (.type "dict") (fun xs H Q => ∃ (a : Addr) (ks : List (L2.Key × V)), xs = [.ref a] ∧ Rd H a (.dK ks) ∧ ∀ p, H p = none → Q (.ref p) (upd H p (.dK ks))) := by
  intro pins s σ H vs us Q I r h
  obtain ⟨a, ks, rfl, hd, q⟩ := h
  rw [Vals.ref1 r]
  exact d_copyOf I hd fun p s' np I' => ⟨.ref p, _, I', rfl, q p np⟩
end RR

namespace RR
open PySem PySem.Spec PyProof.Rows L2
/-! which names stand in a polynomial -/
def NmP (S : List Str) (p : Poly) : Prop := ∀ t ∈ p, ∀ x ∈ t.1, x ∈ S
theorem NmP.nz {S : List Str} {p : Poly} (h : NmP S p) : NmP S (nz p) := fun t ht => h t (nz_sub ht)
theorem NmP.app {S : List Str} {p r : Poly} (h : NmP S p) (g : NmP S r) : NmP S (p ++ r) := fun t ht => by
  rcases List.mem_append.mp ht with z | z
  · exact h t z
  · exact g t z
theorem NmP.sums {S : List Str} {ts : Poly} (h : NmP S ts) : NmP S (sums ts) := by
  have : ∀ (ts p : Poly), NmP S ts → NmP S p → NmP S (ts.foldl addP p) := by
    intro ts
    induction ts with
    | nil => exact fun p _ h => h
    | cons s ts ih =>
      intro p hs hp
      refine ih _ (fun t ht => hs t (List.mem_cons_of_mem _ ht)) fun t ht => ?_
      rcases mem_put ht with rfl | z
      · exact hs s (List.mem_cons_self ..)
      · exact hp t z
  exact this ts [] h fun t ht => (List.not_mem_nil ht).elim
theorem NmP.coll {S : List Str} {ts : Poly} (h : NmP S ts) : NmP S (coll ts) := h.sums.nz
theorem NmP.plus {S : List Str} {p r : Poly} (h : NmP S p) (g : NmP S r) : NmP S (plusP p r) := (h.app g).coll
theorem NmP.scl {S : List Str} {p : Poly} (h : NmP S p) (n : Int) : NmP S (sclP p n) := NmP.nz fun t ht => by
  obtain ⟨s, hs, rfl⟩ := List.mem_map.mp ht
  exact h s hs
theorem NmP.min {S : List Str} {p r : Poly} (h : NmP S p) (g : NmP S r) : NmP S (minP p r) := h.plus (g.scl _)
theorem NmP.con (S : List Str) (n : Int) : NmP S (conP n) := NmP.nz fun t ht => by
  rw [List.mem_singleton] at ht
  subst ht
  exact fun x hx => (List.not_mem_nil hx).elim
theorem NmP.var {S : List Str} {x : Str} (h : x ∈ S) : NmP S (varP x) := fun t ht y hy => by
  unfold varP at ht
  rw [List.mem_singleton] at ht
  subst ht
  rw [List.mem_singleton] at hy
  subst hy
  exact h
theorem NmP.mul {S : List Str} {p r : Poly} (h : NmP S p) (g : NmP S r) : NmP S (mulP p r) := NmP.coll fun t ht x hx => by
  unfold prods at ht
  obtain ⟨s, hs, ht⟩ := List.mem_flatMap.mp ht
  obtain ⟨u, hu, rfl⟩ := List.mem_map.mp ht
  rcases List.mem_append.mp ((srt_perm _).mem_iff.mp hx) with z | z
  · exact h s hs x z
  · exact g u hu x z
/-- small enough for its value to be worked out -/
structure Wk (S : List Str) (p : Poly) : Prop where
  nm : NmP S p
  bd : ∃ N L M, Bd N L M p ∧ L ≤ 100 ∧ M < 2 ^ 1000
theorem Wk.use {S : List Str} {p : Poly} (h : Wk S p) : ∀ t ∈ p, Sm 100000 t.2 ∧ t.1.length ≤ 100 ∧ ∀ x ∈ t.1, x ∈ S := by
  obtain ⟨nm, N, L, M, b, hL, hM⟩ := h
  exact fun t ht => ⟨(b.sm hM t ht).mono (by decide), Nat.le_trans (b.deg t ht) hL, nm t ht⟩
theorem oneP_wk {S : List Str} {x y a : Poly} (nx : NmP S x) (ny : NmP S y) (na : NmP S a) (bx : Md x) (by_ : Md y) (ba : Md a) : Wk S (oneP x y a) := by
  have b1 : Bd 1 0 1 (conP 1) := Bd.con 1
  have b3 := (ba.mul ba).min (b1.mono (Nat.le_refl _) (Nat.zero_le _) (show 1 ≤ 8 * 8 * (2 ^ 100 * 2 ^ 100) by decide +kernel))
  have b5 := b3.mul (by_.mul by_)
  have b6 := ((bx.mul bx).mono (Nat.le_refl _) (show 8 + 8 ≤ 8 + 8 + (8 + 8) by decide) (show 8 * 8 * (2 ^ 100 * 2 ^ 100) ≤ (8 * 8 + 1) * (8 * 8) * ((8 * 8 + 1) * (8 * 8 * (2 ^ 100 * 2 ^ 100)) * (8 * 8 * (2 ^ 100 * 2 ^ 100))) by decide +kernel)).min b5
  have b7 := b6.min (b1.mono (Nat.le_refl _) (Nat.zero_le _) (show 1 ≤ (8 * 8 + (8 * 8 + 1) * (8 * 8)) * ((8 * 8 + 1) * (8 * 8) * ((8 * 8 + 1) * (8 * 8 * (2 ^ 100 * 2 ^ 100)) * (8 * 8 * (2 ^ 100 * 2 ^ 100)))) by decide +kernel))
  exact ⟨((nx.mul nx).min (((na.mul na).min (NmP.con S 1)).mul (ny.mul ny))).min (NmP.con S 1), _, _, _, b7, by decide, by decide +kernel⟩
/-- a difference of products of two small ones -/
theorem lin_wk {S : List Str} {l p : Poly} {N L M : Nat} (nl : NmP S l) (np : NmP S p) (bl : Md l) (bp : Bd N L M p) (hN : N ≤ 1000) (hL : L ≤ 50) (hM : M ≤ 2 ^ 500) : Wk S (minP l p) := by
  have b := (bl.mono (Nat.le_refl _) (show 8 ≤ 50 by decide) (show 2 ^ 100 ≤ 2 ^ 500 by decide +kernel)).min (bp.mono hN hL hM)
  exact ⟨nl.min np, _, _, _, b, by decide, by decide +kernel⟩
theorem eqsP_wk {S : List Str} {k a : Poly} {P : Str → Poly} (nk : NmP S k) (na : NmP S a) (bk : Sd k) (ba : Sd a) (h : ∀ n ∈ nms, NmP S (P n) ∧ Sd (P n)) : ∀ p ∈ eqsP k a P, Wk S p := by
  have b1 : Bd 1 0 1 (conP 1) := Bd.con 1
  have hx := h "x" (by decide +kernel)
  have hy := h "y" (by decide +kernel)
  have hu := h "u" (by decide +kernel)
  have hv := h "v" (by decide +kernel)
  have hs := h "s" (by decide +kernel)
  have ht := h "t" (by decide +kernel)
  have hb := h "b" (by decide +kernel)
  have hr := h "r" (by decide +kernel)
  have hp := h "p" (by decide +kernel)
  have hq := h "q" (by decide +kernel)
  have hc := h "c" (by decide +kernel)
  have hd := h "d" (by decide +kernel)
  have he := h "e" (by decide +kernel)
  have b4 := hy.2.scl 4
  intro p hm
  unfold eqsP at hm
  simp only [List.mem_cons, List.not_mem_nil, or_false] at hm
  rcases hm with rfl | rfl | rfl | rfl | rfl | rfl | rfl | rfl | rfl
  · exact oneP_wk hx.1 hy.1 na hx.2.md hy.2.md ba.md
  · exact oneP_wk hu.1 hv.1 na hu.2.md hv.2.md ba.md
  · exact oneP_wk hs.1 ht.1 hb.1 hs.2.md ht.2.md hb.2.md
  · exact lin_wk hv.1 ((hr.1.plus (NmP.con S 1)).mul (hy.1.mul hy.1)) hv.2.md ((hr.2.plus (b1.mono (Nat.le_refl _) (Nat.zero_le _) (show 1 ≤ 2 ^ 90 by decide +kernel))).mul (hy.2.mul hy.2)) (by decide) (by decide) (by decide +kernel)
  · exact lin_wk hb.1 ((NmP.con S 1).plus (hp.1.mul (hy.1.scl 4))) hb.2.md ((b1.mono (Nat.le_refl _) (Nat.zero_le _) (show 1 ≤ 8 * 8 * (2 ^ 90 * (2 ^ 90 * (4 : Int).natAbs)) by decide +kernel)).plus (hp.2.mul b4)) (by decide) (by decide) (by decide +kernel)
  · exact lin_wk hb.1 (na.plus (hq.1.mul hu.1)) hb.2.md ((ba.mono (Nat.le_refl _) (show 8 ≤ 8 + 8 by decide) (show 2 ^ 90 ≤ 8 * 8 * (2 ^ 90 * 2 ^ 90) by decide +kernel)).plus (hq.2.mul hu.2)) (by decide) (by decide) (by decide +kernel)
  · exact lin_wk hs.1 (hx.1.plus (hc.1.mul hu.1)) hs.2.md ((hx.2.mono (Nat.le_refl _) (show 8 ≤ 8 + 8 by decide) (show 2 ^ 90 ≤ 8 * 8 * (2 ^ 90 * 2 ^ 90) by decide +kernel)).plus (hc.2.mul hu.2)) (by decide) (by decide) (by decide +kernel)
  · exact lin_wk ht.1 (nk.plus (hd.1.mul (hy.1.scl 4))) ht.2.md ((bk.mono (Nat.le_refl _) (show 8 ≤ 8 + 8 by decide) (show 2 ^ 90 ≤ 8 * 8 * (2 ^ 90 * (2 ^ 90 * (4 : Int).natAbs)) by decide +kernel)).plus (hd.2.mul b4)) (by decide) (by decide) (by decide +kernel)
  · exact lin_wk hy.1 (nk.plus he.1) hy.2.md (bk.plus he.2) (by decide) (by decide) (by decide +kernel)
theorem sd_con {n : Int} (h : Sm 80 n) : Sd (conP n) := (Bd.con n).mono (by decide) (by decide) (Nat.le_of_lt (Nat.lt_of_lt_of_le h (by decide +kernel)))
theorem sd_var (x : Str) : Sd (varP x) := (Bd.var x).mono (by decide) (by decide) (by decide +kernel)
/-- the equations, as equations between numbers -/
def eqI (k a : Int) (f : Str → Int) : Bool :=
  decide (f "x" * f "x" - (a * a - 1) * (f "y" * f "y") - 1 = 0) && (decide (f "u" * f "u" - (a * a - 1) * (f "v" * f "v") - 1 = 0) && (decide (f "s" * f "s" - (f "b" * f "b" - 1) * (f "t" * f "t") - 1 = 0) &&
  (decide (f "v" - (f "r" + 1) * (f "y" * f "y") = 0) && (decide (f "b" - (1 + f "p" * (f "y" * 4)) = 0) && (decide (f "b" - (a + f "q" * f "u") = 0) && (decide (f "s" - (f "x" + f "c" * f "u") = 0) &&
  (decide (f "t" - (k + f "d" * (f "y" * 4)) = 0) && decide (f "y" - (k + f "e") = 0))))))))
theorem eqsP_all (k a : Int) (f : Str → Int) : ((eqsP (conP k) (conP a) varP).all fun p => decide (evp f p = 0)) = eqI k a f := by
  unfold eqsP eqI oneP
  simp only [List.all_cons, List.all_nil, Bool.and_true, evp_eq, sumv_min, sumv_mul, sumv_plus, sumv_scl, sumv_con, sumv_var]
theorem eqsP_len (k a : Poly) (P : Str → Poly) : (eqsP k a P).length = 9 := rfl
/-! dicts with texts as keys -/
theorem putK_new {kz : List (L2.Key × V)} {k : L2.Key} (h : valV kz k = none) (v : V) : putK kz k v = kz ++ [(k, v)] := by
  unfold putK
  rw [if_neg]
  rw [valV_any, h]
  exact Bool.false_ne_true
theorem valV_snoc2 {kz : List (L2.Key × V)} {k j : L2.Key} (h : valV kz k = none) (v : V) : valV (kz ++ [(k, v)]) j = if j = k then some v else valV kz j := valV_snoc k j v kz h
end RR

namespace RR
open PySem PySem.Spec PyProof.Rows L2
/-! the numbers that force the index -/
structure W8 where
  x : Int
  y : Int
  u : Int
  v : Int
  b : Int
  r : Int
  p : Int
  q : Int
def nW (k : Nat) (a : Int) : Nat := 2 * k * (py a k).toNat
def qW (k : Nat) (a : Int) : Int := ((1 - a) * px a (nW k a)) % (4 * py a k)
def bW (k : Nat) (a : Int) : Int := a + qW k a * px a (nW k a)
def w8 (k : Nat) (a : Int) : W8 := ⟨px a k, py a k, px a (nW k a), py a (nW k a), bW k a, py a (nW k a) / (py a k * py a k) - 1, (bW k a - 1) / (4 * py a k), (bW k a - a) / px a (nW k a)⟩
def turnB (m u b : Int) : Int := if b % m = 1 then b else b + u
def iterB (m u : Int) : Nat → Int → Int
  | 0, b => b
  | n + 1, b => turnB m u (iterB m u n b)
def mod8 (st : Nat) (i : Nat) (a : Int) (w : W8) : W8 :=
  if st = 1 then
    let n := 4 * i * w.y.toNat
    let b := iterB (4 * w.y) (px a n) (4 * w.y).toNat a
    ⟨w.x, w.y, px a n, py a n, b, py a n / (w.y * w.y) - 1, (b - 1) / (4 * w.y), (b - a) / px a n⟩
  else if st = 2 then ⟨w.x, w.y, w.u, w.v, w.b + 4 * w.y * w.u, w.r, w.p + w.u, w.q + 4 * w.y⟩ else w
def eqV (k a x y u v s t b r p q c d e : Int) : Bool :=
  decide (x * x - (a * a - 1) * (y * y) - 1 = 0) && (decide (u * u - (a * a - 1) * (v * v) - 1 = 0) && (decide (s * s - (b * b - 1) * (t * t) - 1 = 0) &&
  (decide (v - (r + 1) * (y * y) = 0) && (decide (b - (1 + p * (y * 4)) = 0) && (decide (b - (a + q * u) = 0) && (decide (s - (x + c * u) = 0) &&
  (decide (t - (k + d * (y * 4)) = 0) && decide (y - (k + e) = 0))))))))
theorem eqI_V (k a : Int) (f : Str → Int) : eqI k a f = eqV k a (f "x") (f "y") (f "u") (f "v") (f "s") (f "t") (f "b") (f "r") (f "p") (f "q") (f "c") (f "d") (f "e") := rfl
/-- the law's try of another pair of b -/
def tr (k a : Int) (w : W8) (s t : Int) : Bool :=
  if s < w.x ∨ t < k ∨ w.y < k then false
  else decide (0 ≤ w.b) && (decide (0 ≤ w.r) && (decide (0 ≤ w.p) && (decide (0 ≤ w.q) && (decide (0 ≤ (s - w.x) / w.u) && eqV k a w.x w.y w.u w.v s t w.b w.r w.p w.q ((s - w.x) / w.u) ((t - k) / (4 * w.y)) (w.y - k)))))
def okJ (i a : Int) (w : W8) (j : Nat) (s t : Int) : Bool :=
  (tr i a w s t == (decide ((j : Int) = i) || (tr i a w s t && (decide (((j : Int) - i) % (4 * w.y) = 0) || decide (((j : Int) + i) % (4 * w.y) = 0))))) &&
  (List.range (w.y.toNat + 3)).all fun o => decide ((o : Int) = i) || (decide (o = 0) || !tr o a w s t)
def loopK (i a : Int) (w : W8) : Nat → Nat → Int → Int → Bool
  | 0, _, _, _ => true
  | f + 1, j, s, t => okJ i a w j s t && loopK i a w f (j + 1) (w.b * s + (w.b * w.b - 1) * t) (s + w.b * t)
def lastK (i : Nat) : Nat := [60, 24, 8].getD (i - 1) 0
def modK (i : Nat) : Nat := [4, 4, 2].getD (i - 1) 0
def chk43 : Bool := (List.range 3).all fun i => (List.range (modK (i + 1))).all fun m => (List.range 3).all fun st =>
  let w := mod8 st (i + 1) (m + 2) (w8 (i + 1) (m + 2))
  loopK (i + 1) (m + 2) w (lastK (i + 1)) 1 w.b 1 && tr (i + 1) (m + 2) w (px w.b (i + 1)) (py w.b (i + 1))
end RR
namespace RR
open PySem PySem.Spec PyProof.Rows L2
theorem chk43_ok : chk43 = true := by decide +kernel
theorem loopK_spec {i a : Int} {w : W8} : ∀ (f j : Nat), loopK i a w f j (px w.b j) (py w.b j) = true → ∀ k, j ≤ k → k < j + f → okJ i a w k (px w.b k) (py w.b k) = true
  | 0, j, _, k, h1, h2 => by omega
  | f + 1, j, h, k, h1, h2 => by
    unfold loopK at h
    rw [Bool.and_eq_true] at h
    by_cases e : k = j
    · subst e
      exact h.1
    · exact loopK_spec f (j + 1) (by rw [px1, py1]; exact h.2) k (by omega) (by omega)
theorem chk43_at {i m st : Nat} (hi : i < 3) (hm : m < modK (i + 1)) (hs : st < 3) : let w := mod8 st (i + 1) (m + 2) (w8 (i + 1) (m + 2))
    (∀ j, 1 ≤ j → j ≤ lastK (i + 1) → okJ (i + 1) (m + 2) w j (px w.b j) (py w.b j) = true) ∧ tr (i + 1) (m + 2) w (px w.b (i + 1)) (py w.b (i + 1)) = true := by
  have h := chk43_ok
  unfold chk43 at h
  have h1 := List.all_eq_true.mp h i (List.mem_range.mpr hi)
  have h2 := List.all_eq_true.mp h1 m (List.mem_range.mpr hm)
  have h3 := List.all_eq_true.mp h2 st (List.mem_range.mpr hs)
  rw [Bool.and_eq_true] at h3
  refine ⟨fun j j1 j2 => ?_, h3.2⟩
  refine loopK_spec (lastK (i + 1)) 1 ?_ j j1 (by omega)
  have e1 : px (mod8 st (i + 1) (m + 2) (w8 (i + 1) (m + 2))).b 1 = (mod8 st (i + 1) (m + 2) (w8 (i + 1) (m + 2))).b := by rw [px1, px0, py0]; omega
  have e2 : py (mod8 st (i + 1) (m + 2) (w8 (i + 1) (m + 2))).b 1 = 1 := by rw [py1, px0, py0]; omega
  rw [e1, e2]
  exact h3.1
/-! a dict of thirteen numbers -/
def kzOf (ns : List Str) (vs : List Int) : List (L2.Key × V) := ns.zipWith (fun n v => (Sum.inr n, V.int v)) vs
theorem valV_zip : ∀ {ns : List Str} {vs : List Int} {i : Nat} {n : Str} {v : Int}, ns.Nodup → ns[i]? = some n → vs[i]? = some v → valV (kzOf ns vs) (.inr n) = some (.int v)
  | [], _, _, _, _, _, h, _ => by simp at h
  | m :: ns, [], _, _, _, _, _, h => by simp at h
  | m :: ns, w :: vs, 0, n, v, _, h, g => by
    simp at h g
    subst h g
    exact valV_pos (p := (Sum.inr m, V.int w)) rfl
  | m :: ns, w :: vs, i + 1, n, v, nd, h, g => by
    rw [List.nodup_cons] at nd
    rw [List.getElem?_cons_succ] at h g
    have ne : m ≠ n := fun e => nd.1 (e ▸ List.mem_of_getElem? h)
    exact (valV_neg (p := (Sum.inr m, V.int w)) (fun e => ne (Sum.inr.inj e))).trans (valV_zip nd.2 h g)
theorem valV_none : ∀ {ns : List Str} {vs : List Int} {n : Str}, n ∉ ns → valV (kzOf ns vs) (.inr n) = none
  | [], _, _, _ => by unfold kzOf; rw [List.zipWith_nil_left]; rfl
  | _ :: _, [], _, _ => by unfold kzOf; rw [List.zipWith_nil_right]; rfl
  | m :: ns, w :: vs, n, h => by
    rw [List.mem_cons] at h
    exact (valV_neg (p := (Sum.inr m, V.int w)) (fun e => h (.inl (Sum.inr.inj e).symm))).trans (valV_none fun z => h (.inr z))
theorem map_put : ∀ {ns : List Str} {vs : List Int} {i : Nat} {n : Str} (z : Int), ns.Nodup → ns[i]? = some n → (kzOf ns vs).map (fun kv => if kv.1 = Sum.inr n then (kv.1, V.int z) else kv) = kzOf ns (vs.set i z)
  | [], _, _, _, _, _, h => by simp at h
  | m :: ns, [], _, _, _, _, _ => by simp [kzOf]
  | m :: ns, w :: vs, 0, n, z, nd, h => by
    simp at h
    subst h
    rw [List.nodup_cons] at nd
    unfold kzOf
    rw [List.set_cons_zero, List.zipWith_cons_cons, List.zipWith_cons_cons, List.map_cons, if_pos rfl]
    congr 1
    refine (List.map_congr_left (g := id) fun kv hkv => ?_).trans (List.map_id _)
    obtain ⟨k, hk⟩ := List.mem_iff_getElem?.mp hkv
    rw [List.getElem?_zipWith] at hk
    cases e : ns[k]? with
    | none => rw [e] at hk; simp at hk
    | some x =>
      cases e2 : vs[k]? with
      | none => rw [e, e2] at hk; simp at hk
      | some y =>
        rw [e, e2] at hk
        simp at hk
        subst hk
        exact if_neg fun q => nd.1 (by rw [← Sum.inr.inj q]; exact List.mem_of_getElem? e)
  | m :: ns, w :: vs, i + 1, n, z, nd, h => by
    rw [List.nodup_cons] at nd
    rw [List.getElem?_cons_succ] at h
    have ne : m ≠ n := fun e => nd.1 (e ▸ List.mem_of_getElem? h)
    have ih := map_put (vs := vs) z nd.2 h
    unfold kzOf at ih ⊢
    rw [List.set_cons_succ, List.zipWith_cons_cons, List.zipWith_cons_cons, List.map_cons, ih, if_neg (fun e => ne (Sum.inr.inj e))]
theorem put_zip {ns : List Str} {vs : List Int} {i : Nat} {n : Str} {w : Int} (z : Int) (nd : ns.Nodup) (h : ns[i]? = some n) (g : vs[i]? = some w) : putK (kzOf ns vs) (.inr n) (.int z) = kzOf ns (vs.set i z) := by
  unfold putK
  rw [if_pos (by rw [valV_any, valV_zip nd h g]; rfl), map_put z nd h]
theorem merge_new : ∀ (more ks : List (L2.Key × V)), ((ks ++ more).map (·.1)).Nodup → mergeK ks more = ks ++ more
  | [], ks, _ => (List.append_nil ks).symm
  | z :: more, ks, nd => by
    have e : putK ks z.1 z.2 = ks ++ [z] := by
      refine putK_new ?_ z.2
      cases h : valV ks z.1 with
      | none => rfl
      | some v =>
        exfalso
        unfold valV at h
        obtain ⟨kv, hf, _⟩ := Option.map_eq_some_iff.mp h
        have h1 := List.mem_of_find?_eq_some hf
        have h2 := of_decide_eq_true (List.find?_some (p := fun kv : L2.Key × V => decide (kv.1 = z.1)) hf)
        rw [List.map_append, List.nodup_append] at nd
        exact nd.2.2 kv.1 (List.mem_map.mpr ⟨kv, h1, rfl⟩) z.1 (by simp) h2
    show mergeK (putK ks z.1 z.2) more = _
    rw [e, merge_new more (ks ++ [z]) (by rw [List.append_assoc]; exact nd), List.append_assoc]
    rfl
theorem nms_nd : nms.Nodup := by decide +kernel
theorem kz_keys : ∀ (ns : List Str) (vs : List Int), ns.length = vs.length → (kzOf ns vs).map (·.1) = ns.map Sum.inr
  | [], [], _ => rfl
  | n :: ns, v :: vs, h => by
    unfold kzOf
    rw [List.zipWith_cons_cons, List.map_cons, List.map_cons]
    congr 1
    exact kz_keys ns vs (by simpa using h)
theorem merge_kz {vs : List Int} (h : vs.length = 13) : mergeK [] (kzOf nms vs) = kzOf nms vs := by
  rw [merge_new _ _ (by rw [List.nil_append, kz_keys _ _ (by rw [h]; rfl)]; exact List.pairwise_map.mpr (nms_nd.imp fun h e => h (Sum.inr.inj e))), List.nil_append]
end RR
namespace RR
open PySem PySem.Spec PyProof.Rows L2
theorem cdiv_of {i j : Int} (h : 0 < j) (s : Sm 9000 j) : CDivW i j := ⟨h, (Nat.log2_lt (by omega)).mpr s⟩
end RR
namespace RR
open PySem PySem.Spec PyProof.Rows L2
def smB (n : Nat) (x : Int) : Bool := Nat.blt x.natAbs (2 ^ n)
theorem smB_ok {n : Nat} {x : Int} (h : smB n x = true) : Sm n x := Nat.blt_eq.mp h
def wA (i m st : Nat) : W8 := mod8 st (i + 1) (m + 2) (w8 (i + 1) (m + 2))
def chkF1 (k : Nat) (a : Int) : Bool := smB 9000 (px a k) && (smB 9000 (px a (nW k a)) && (smB 9000 (bW k a) && (smB 9000 (px (bW k a) k) && (decide (2 ≤ bW k a) && (Nat.blt (nW k a) (2 ^ 100) && (smB 4000 (py a k) && (smB 9000 (px a (4 * k * (py a k).toNat)) && (Nat.blt (4 * k * (py a k).toNat) (2 ^ 100) && decide (py a k < 100)))))))))
def chkF2 (w : W8) (l : Nat) : Bool := decide (2 ≤ w.b) && (smB 9000 w.b && (smB 10000 (px w.b l) && (decide (0 < w.u) && (decide (0 < w.y) && (decide (0 ≤ w.x) && (decide (0 ≤ w.v) && (smB 9000 w.u && (smB 4000 w.y && (smB 90000 w.x && (smB 90000 w.v && (smB 90000 w.r && (smB 90000 w.p && smB 90000 w.q))))))))))))
def chkF : Bool := (List.range 3).all fun i => (List.range (modK (i + 1))).all fun m => chkF1 (i + 1) (m + 2) && (List.range 3).all fun st => chkF2 (wA i m st) (lastK (i + 1))
theorem chkF_ok : chkF = true := by decide +kernel
theorem chkF_at {i m : Nat} (hi : i < 3) (hm : m < modK (i + 1)) : chkF1 (i + 1) (m + 2) = true ∧ ∀ st, st < 3 → chkF2 (wA i m st) (lastK (i + 1)) = true := by
  have h := chkF_ok
  unfold chkF at h
  have h1 := List.all_eq_true.mp h i (List.mem_range.mpr hi)
  have h2 := List.all_eq_true.mp h1 m (List.mem_range.mpr hm)
  rw [Bool.and_eq_true] at h2
  exact ⟨h2.1, fun st hs => List.all_eq_true.mp h2.2 st (List.mem_range.mpr hs)⟩
theorem chkF1_of {k : Nat} {a : Int} (h : chkF1 k a = true) : Sm 9000 (px a k) ∧ Sm 9000 (px a (nW k a)) ∧ Sm 9000 (bW k a) ∧ Sm 9000 (px (bW k a) k) ∧ 2 ≤ bW k a ∧ nW k a < 2 ^ 100 ∧ Sm 4000 (py a k) ∧ Sm 9000 (px a (4 * k * (py a k).toNat)) ∧ 4 * k * (py a k).toNat < 2 ^ 100 ∧ py a k < 100 := by
  unfold chkF1 at h
  simp only [Bool.and_eq_true, decide_eq_true_eq] at h
  obtain ⟨h1, h2, h3, h4, h5, h6, h7, h8, h9, h10⟩ := h
  exact ⟨smB_ok h1, smB_ok h2, smB_ok h3, smB_ok h4, h5, Nat.blt_eq.mp h6, smB_ok h7, smB_ok h8, Nat.blt_eq.mp h9, h10⟩
theorem chkF2_of {w : W8} {l : Nat} (h : chkF2 w l = true) : 2 ≤ w.b ∧ Sm 9000 w.b ∧ Sm 10000 (px w.b l) ∧ 0 < w.u ∧ 0 < w.y ∧ 0 ≤ w.x ∧ 0 ≤ w.v ∧ Sm 9000 w.u ∧ Sm 4000 w.y ∧ Sm 90000 w.x ∧ Sm 90000 w.v ∧ Sm 90000 w.r ∧ Sm 90000 w.p ∧ Sm 90000 w.q := by
  unfold chkF2 at h
  simp only [Bool.and_eq_true, decide_eq_true_eq] at h
  obtain ⟨h1, h2, h3, h4, h5, h6, h7, h8, h9, h10, h11, h12, h13, h14⟩ := h
  exact ⟨h1, smB_ok h2, smB_ok h3, h4, h5, h6, h7, smB_ok h8, smB_ok h9, smB_ok h10, smB_ok h11, smB_ok h12, smB_ok h13, smB_ok h14⟩
end RR
namespace RR
open PySem PySem.Spec PyProof.Rows L2
theorem kz_get {H1 : Hp} {D : Addr} {vs : List Int} {n : Str} {v : Int} (i : Nat) (h : H1 D = some (.dK (kzOf nms vs))) (g : nms[i]? = some n) (l : vs[i]? = some v) : DGet H1 D (kV (.inr n)) (some (.int v)) := .inl ⟨_, _, .inl h, rfl, (valV_zip nms_nd g l).symm⟩
theorem kz_put {H1 : Hp} {D : Addr} {vs : List Int} {n : Str} {v : Int} (i : Nat) (z : Int) (h : H1 D = some (.dK (kzOf nms vs))) (g : nms[i]? = some n) (l : vs[i]? = some v) : DPut H1 D (kV (.inr n)) (.int z) (upd H1 D (.dK (kzOf nms (vs.set i z)))) := by
  have := DPut.k (v := .int z) (k := .inr n) h (sz_lt (by unfold kzOf; rw [List.length_zipWith]; exact Nat.le_trans (Nat.min_le_left ..) (by decide)))
  rw [put_zip z nms_nd g l] at this
  exact this
end RR
namespace RR
open PySem PySem.Spec PyProof.Rows L2
def vsW (k : Nat) (a : Int) : List Int := [px a k, py a k, px a (nW k a), py a (nW k a), px (bW k a) k, py (bW k a) k, bW k a, (w8 k a).r, (w8 k a).p, (w8 k a).q, (px (bW k a) k - px a k) / px a (nW k a), (py (bW k a) k - k) / (4 * py a k), py a k - k]
end RR

namespace RR
open PySem PySem.Spec PyProof.Rows L2
/-- bits -/
def bl (n : Nat) : Nat := Builtin.Int.intBits (n : Int)
theorem bl_lt (n : Nat) : n < 2 ^ bl n := by
  have h : Sm (bl n) (n : Int) := sm_bits (Nat.le_refl _)
  unfold Sm at h
  rwa [Int.natAbs_natCast] at h
theorem bl_le {n : Nat} (h : 1 ≤ n) : 2 ^ (bl n - 1) ≤ n := by
  unfold bl Builtin.Int.intBits
  split
  · rename_i e
    have e0 : (n : Int) = 0 := by simpa using e
    omega
  · rw [Nat.add_sub_cancel, Int.natAbs_natCast]
    exact Nat.log2_self_le (by omega)
theorem div_zero {n b p : Nat} (hb : 1 ≤ b) (h : bl n ≤ (bl b - 1) * p) : n / b ^ p = 0 := by
  refine Nat.div_eq_of_lt (Nat.lt_of_lt_of_le (bl_lt n) (Nat.le_trans (Nat.pow_le_pow_right (by omega) h) ?_))
  rw [Nat.pow_mul]
  exact Nat.pow_le_pow_left (bl_le hb) p
theorem half_pow (e L i : Nat) (h : i < L) : e / 2 ^ (L - i) = e / 2 ^ (L - 1 - i) / 2 := by
  rw [Nat.div_div_eq_div_mul, ← Nat.pow_succ]
  congr 2
  omega
theorem ch_rec (b k : Nat) : (ch b (k + 1) : Int) = (ch b k : Int) * ((b : Int) - k) / (k + 1) := by
  have e1 := fall_ch b k
  have e2 := fall_ch b (k + 1)
  have e3 : fall (b : Int) (k + 1) = fall b k * (b - k) := rfl
  have e5 : (fac (k + 1) : Int) = ((k : Int) + 1) * (fac k : Int) := by
    show (((k + 1) * fac k : Nat) : Int) = _
    push_cast
    rfl
  rw [e3, e1, e5] at e2
  have f0 : (fac k : Int) ≠ 0 := by have := fac_pos k; omega
  have e6 : (ch b k : Int) * ((b : Int) - k) = (ch b (k + 1) : Int) * ((k : Int) + 1) := by
    refine Int.eq_of_mul_eq_mul_right f0 ?_
    grind
  rw [e6, Int.mul_ediv_cancel _ (by omega)]
/-- the row by its own rule -/
def pd (b : Nat) : Nat → Nat
  | 0 => 1
  | k + 1 => pd b k * (b - k) / (k + 1)
theorem pd_ch {b : Nat} : ∀ k : Nat, k ≤ b → pd b k = ch b k := by
  intro k
  induction k with
  | zero => intro _; unfold ch pd; rfl
  | succ k ih =>
    intro h
    show pd b k * (b - k) / (k + 1) = _
    rw [ih (by omega)]
    have := ch_rec b k
    have e : (((ch b k * (b - k) / (k + 1) : Nat)) : Int) = (ch b (k + 1) : Int) := by
      rw [this]
      push_cast
      rw [Int.ofNat_sub (by omega)]
    omega
def hp (b u : Nat) : Nat → Nat
  | 0 => 0
  | k + 1 => hp b u k * u + pd b (b - k)
def hz (b u : Nat) : Nat → Nat
  | 0 => 0
  | k + 1 => hz b u k * u + ch b (b - k)
theorem hp_hz (b u : Nat) : ∀ k, hp b u k = hz b u k := by
  intro k
  induction k with
  | zero => rfl
  | succ k ih =>
    show hp b u k * u + pd b (b - k) = hz b u k * u + ch b (b - k)
    rw [ih, pd_ch _ (Nat.sub_le _ _)]
theorem hp_ok : (List.range 25).all (fun b => (List.range 26).all (fun k => decide (hp b (2 ^ (b + 1)) k < 2 ^ 2000)) && hp b (2 ^ (b + 1)) (b + 1) == (2 ^ (b + 1) + 1) ^ b) = true := by decide +kernel
theorem hz_end {b : Nat} (h : b < 25) : hz b (2 ^ (b + 1)) (b + 1) = (2 ^ (b + 1) + 1) ^ b := by
  have := List.all_eq_true.mp hp_ok b (List.mem_range.mpr h)
  rw [Bool.and_eq_true] at this
  rw [← hp_hz]
  exact eq_of_beq this.2
theorem hz_lt {b k : Nat} (h : b < 25) (hk : k < 26) : hz b (2 ^ (b + 1)) k < 2 ^ 2000 := by
  have := List.all_eq_true.mp hp_ok b (List.mem_range.mpr h)
  rw [Bool.and_eq_true] at this
  rw [← hp_hz]
  exact of_decide_eq_true (List.all_eq_true.mp this.1 k (List.mem_range.mpr hk))
/-- the row as the list holds it -/
def rowV (b n : Nat) : List V := (List.range n).map fun k => V.int (ch b k : Int)
theorem rowV_len (b n : Nat) : (rowV b n).length = n := by
  unfold rowV
  rw [List.length_map, List.length_range]
theorem rowV_at {b n k : Nat} (h : k < n) : (rowV b n)[k]? = some (V.int (ch b k : Int)) := by
  unfold rowV
  rw [List.getElem?_map, List.getElem?_range h]
  rfl
theorem rowV_succ (b n : Nat) : rowV b (n + 1) = rowV b n ++ [V.int (ch b n : Int)] := by
  unfold rowV
  rw [List.range_succ, List.map_append]
  rfl
def toV (l : List Nat) : List V := l.map fun (d : Nat) => V.int (d : Int)
theorem toV_len (l : List Nat) : (toV l).length = l.length := by
  unfold toV
  rw [List.length_map]
theorem toV_app (l m : List Nat) : toV (l ++ m) = toV l ++ toV m := by
  unfold toV
  rw [List.map_append]
theorem toV_at {l : List Nat} {j d : Nat} (h : l[j]? = some d) : (toV l)[j]? = some (V.int (d : Int)) := by
  unfold toV
  rw [List.getElem?_map, h]
  rfl
/-- [.. for k in range(n)] -/
theorem lc_rng {n : Nat} {g : TG} {tt : TT} {te : TE} {vs : List Nat} {σ : L2.St} {H1 : Hp} {D : Addr} {Qd : Hp → Prop} (Pv : Nat → Hp → Prop) (h0 : Pv 0 (upd H1 D (.lst [])))
    (hs : ∀ (i : Nat) H, i < n → Pv i H → g (.int (i : Int)) (wipe σ vs) H fun σ2 H2 => wipe σ2 vs = wipe σ vs ∧ tt σ2 H2 fun b H3 =>
      if b = true then te σ2 H3 fun y H4 => ∃ acc, H4 D = some (.lst acc) ∧ acc.length < sizeLine ∧ Pv (i + 1) (upd H4 D (.lst (acc ++ [y]))) else Pv (i + 1) H3) (hd : ∀ H, Pv n H → Qd H) :
    ∃ W : Nat → Nat → Hp → Prop, (∃ m, W 0 m (upd H1 D (.lst []))) ∧ ∀ i m H, W i m H →
      ((Itr 0 n).stop i H ∧ Qd H) ∨ ((Itr 0 n).go i H ∧ ∃ Nx : Hp → Prop, (∀ H', Nx H' → ∃ m', m' < m ∧ W (i + 1) m' H') ∧ ∀ x H', (Itr 0 n).yld i H x H' → g x (wipe σ vs) H' fun σ2 H2 => wipe σ2 vs = wipe σ vs ∧ tt σ2 H2 fun b H3 =>
        if b = true then te σ2 H3 fun y H4 => ∃ acc, H4 D = some (.lst acc) ∧ acc.length < sizeLine ∧ Nx (upd H4 D (.lst (acc ++ [y]))) else Nx H3) :=
  lc_range (lo := 0) (n := n) Pv h0 (fun i H hi p => by rw [Int.zero_add]; exact hs i H hi p) hd
theorem layAll (l : List Nat) : PyData.canLayAll0 (l.map fun (k : Nat) => PyData.int (k : Int)) = true := by
  induction l with
  | nil => rfl
  | cons x l ih => simp only [List.map_cons, PyData.canLayAll0, PyData.canLay0, ih, Bool.and_true]
theorem depthAll (l : List Nat) : PyData.depthAll (l.map fun (k : Nat) => PyData.int (k : Int)) ≤ 1 := by
  induction l with
  | nil => decide
  | cons x l ih =>
    simp only [List.map_cons, PyData.depthAll, PyData.depth]
    omega
theorem ints_shaped (l : List Nat) : SeqAt.shaped (.list (l.map fun (k : Nat) => PyData.int (k : Int))) = true := by
  unfold SeqAt.shaped
  have h1 : PyData.canLay0 (.list (l.map fun (k : Nat) => PyData.int (k : Int))) = true := by
    simp only [PyData.canLay0, layAll]
  have h2 := depthAll l
  rw [h1, Bool.true_and]
  refine decide_eq_true ?_
  simp only [PyData.depth]
  omega
theorem ints_dp {K : PySem.W.Frag} {H : Hp} (l : List Nat) : DpAll K H (toV l) (l.map fun (k : Nat) => PyData.int (k : Int)) := by
  induction l with
  | nil => exact .nil
  | cons x l ih => exact .cons (.int _) ih
/-- a number by its digits -/
def val (b : Nat) : List Nat → Nat
  | [] => 0
  | d :: r => d + b * val b r
theorem val_lt {b : Nat} : ∀ ds : List Nat, (∀ d ∈ ds, d < b) → val b ds < b ^ ds.length := by
  intro ds
  induction ds with
  | nil => intro _; show 0 < 1; omega
  | cons d r ih =>
    intro h
    have h1 := ih fun x hx => h x (List.mem_cons_of_mem _ hx)
    have h2 := h d List.mem_cons_self
    show d + b * val b r < b ^ (r.length + 1)
    rw [Nat.pow_succ]
    have : b * (val b r + 1) ≤ b * b ^ r.length := Nat.mul_le_mul_left b h1
    rw [Nat.mul_add, Nat.mul_one] at this
    rw [Nat.mul_comm (b ^ r.length) b]
    omega
theorem val_drop {b : Nat} {ds : List Nat} {k d : Nat} (h : ds[k]? = some d) : val b (ds.drop k) = d + b * val b (ds.drop (k + 1)) := by
  obtain ⟨hl, e⟩ := List.getElem?_eq_some_iff.mp h
  rw [List.drop_eq_getElem_cons hl, e]
  rfl
theorem val_div {b : Nat} (hb : 0 < b) : ∀ (k : Nat) (ds : List Nat), (∀ d ∈ ds, d < b) → val b ds / b ^ k = val b (ds.drop k) := by
  intro k
  induction k with
  | zero => intro ds _; rw [Nat.pow_zero, Nat.div_one, List.drop_zero]
  | succ k ih =>
    intro ds h
    match ds, h with
    | [], _ => rw [List.drop_nil]; exact Nat.zero_div _
    | d :: r, h =>
      rw [Nat.pow_succ, Nat.mul_comm, ← Nat.div_div_eq_div_mul]
      have h2 := h d List.mem_cons_self
      have e : val b (d :: r) / b = val b r := by
        show (d + b * val b r) / b = _
        rw [Nat.add_mul_div_left _ _ hb, Nat.div_eq_of_lt h2, Nat.zero_add]
      rw [e, ih r fun x hx => h x (List.mem_cons_of_mem _ hx)]
      rfl
theorem val_at {b : Nat} (hb : 0 < b) {ds : List Nat} {k d : Nat} (hd : ∀ x ∈ ds, x < b) (h : ds[k]? = some d) : val b ds / b ^ k % b = d := by
  rw [val_div hb k ds hd, val_drop h, Nat.add_mul_mod_self_left, Nat.mod_eq_of_lt (hd d (List.mem_of_getElem? h))]
theorem val_beyond {b : Nat} (hb : 0 < b) {ds : List Nat} {k : Nat} (hd : ∀ x ∈ ds, x < b) (h : ds.length ≤ k) : val b ds / b ^ k % b = 0 := by
  rw [val_div hb k ds hd, List.drop_eq_nil_of_le h]
  exact Nat.zero_mod _
end RR

namespace RR
open PySem PySem.Spec PyProof.Rows L2
theorem andU_half (x y : Nat) : (x &&& y) / 2 = x / 2 &&& y / 2 := by
  have := Nat.shiftRight_and_distrib (a := x) (b := y) (i := 1)
  simpa [Nat.shiftRight_eq_div_pow] using this
theorem andU_mod (x y : Nat) : (x &&& y) % 2 = x % 2 * (y % 2) := by
  have h : (x &&& y).testBit 0 = (x.testBit 0 && y.testBit 0) := Nat.testBit_and ..
  rw [Nat.testBit_zero, Nat.testBit_zero, Nat.testBit_zero] at h
  rcases Nat.mod_two_eq_zero_or_one x with hx | hx <;> rcases Nat.mod_two_eq_zero_or_one y with hy | hy <;> rcases Nat.mod_two_eq_zero_or_one (x &&& y) with hz | hz <;> simp [hx, hy, hz] at h ⊢
/-- under -/
def ndrU : Nat → Nat → Nat → Bool
  | 0, _, _ => true
  | f + 1, a, b => !(decide (a % 2 > b % 2)) && ndrU f (a / 2) (b / 2)
theorem ndrU_and : ∀ (f a b : Nat), a < 2 ^ f → ndrU f a b = (a &&& b == a) := by
  intro f
  induction f with
  | zero =>
    intro a b h
    have : a = 0 := by omega
    subst this
    simp [ndrU]
  | succ f ih =>
    intro a b h
    have i := ih (a / 2) (b / 2) (by rw [Nat.pow_succ] at h; omega)
    have h1 := andU_half a b
    have h2 := andU_mod a b
    show (!(decide (a % 2 > b % 2)) && ndrU f (a / 2) (b / 2)) = _
    rw [i]
    have key : (a &&& b = a) ↔ ((a &&& b) % 2 = a % 2 ∧ (a &&& b) / 2 = a / 2) := by omega
    rw [Bool.eq_iff_iff]
    simp only [Bool.and_eq_true, Bool.not_eq_true', decide_eq_false_iff_not, beq_iff_eq]
    rw [key, h1, h2]
    rcases Nat.mod_two_eq_zero_or_one a with hx | hx <;> rcases Nat.mod_two_eq_zero_or_one b with hy | hy <;> rw [hx, hy] <;> simp
theorem und_step (x y : Nat) : (x &&& y == x) = (!(decide (x % 2 > y % 2)) && (x / 2 &&& y / 2 == x / 2)) := by
  have h1 : x < 2 ^ (x + 1) := Nat.lt_trans (Nat.lt_succ_self x) Nat.lt_two_pow_self
  have h2 : x / 2 < 2 ^ x := Nat.lt_of_le_of_lt (Nat.div_le_self ..) Nat.lt_two_pow_self
  rw [← ndrU_and (x + 1) x y h1, ← ndrU_and x (x / 2) (y / 2) h2]
  rfl
def undI (a b : Int) : Bool := decide (0 ≤ a) && (decide (0 ≤ b) && (a.toNat &&& b.toNat == a.toNat))
/-! members of a row for any base -/
def ry (a : Int) : Nat → Int
  | 0 => 0
  | 1 => 1
  | n + 2 => 2 * a * ry a (n + 1) - ry a n
theorem ry_py {a : Int} : ∀ n, ry a n = py a n
  | 0 => by rw [py0]; rfl
  | 1 => by rw [py1, px0, py0]; show (1 : Int) = _; omega
  | n + 2 => by
    show 2 * a * ry a (n + 1) - ry a n = _
    rw [ry_py (n + 1), ry_py n, py_rec]
theorem ry_sm {a : Int} (ha : Sm 10 a) : ∀ n, Sm (12 * n + 1) (ry a n) ∧ Sm (12 * (n + 1) + 1) (ry a (n + 1))
  | 0 => ⟨show (0 : Int).natAbs < 2 ^ 1 by decide, show (1 : Int).natAbs < 2 ^ 13 by decide⟩
  | n + 1 => by
    obtain ⟨h1, h2⟩ := ry_sm ha n
    refine ⟨h2, ?_⟩
    show Sm _ (2 * a * ry a (n + 1) - ry a n)
    have h0 : Sm 11 (2 * a) := by
      unfold Sm at ha ⊢
      omega
    have h3 : Sm (11 + (12 * (n + 1) + 1)) (2 * a * ry a (n + 1)) := h0.mul h2
    unfold Sm at h1 h3 ⊢
    rw [Nat.pow_succ] at h1
    rw [show 11 + (12 * (n + 1) + 1) = 12 * n + 24 by omega, Nat.pow_add] at h3
    rw [show 12 * (n + 1 + 1) + 1 = 12 * n + 25 by omega, Nat.pow_add]
    generalize 2 ^ (12 * n) = T at h1 h3 ⊢
    omega
end RR
namespace RR
open PySem PySem.Spec PyProof.Rows L2
/-! a member by doubling: below and at twice the index -/
theorem ry_add (a : Int) (m : Nat) : ∀ n, ry a (m + n + 1) = ry a (m + 1) * ry a (n + 1) - ry a m * ry a n
  | 0 => by
    show ry a (m + 1) = ry a (m + 1) * 1 - ry a m * 0
    omega
  | 1 => by
    show 2 * a * ry a (m + 1) - ry a m = ry a (m + 1) * (2 * a * 1 - 0) - ry a m * 1
    rw [Int.mul_one, Int.mul_one, Int.sub_zero, Int.mul_comm]
  | n + 2 => by
    have h1 := ry_add a m (n + 1)
    have h2 := ry_add a m n
    show 2 * a * ry a (m + n + 2) - ry a (m + n + 1) = ry a (m + 1) * (2 * a * ry a (n + 2) - ry a (n + 1)) - ry a m * (2 * a * ry a (n + 1) - ry a n)
    rw [show m + n + 2 = m + (n + 1) + 1 by omega, h1, h2]
    grind
end RR
namespace RR
open PySem PySem.Spec PyProof.Rows L2
theorem ry_low {a : Int} {m : Nat} (h : 1 ≤ m) : ry a m * ry a m - ry a (m - 1) * ry a (m - 1) = ry a (2 * m - 1) := by
  obtain ⟨t, rfl⟩ : ∃ t, m = t + 1 := ⟨m - 1, by omega⟩
  rw [show 2 * (t + 1) - 1 = t + t + 1 by omega, ry_add, show t + 1 - 1 = t from rfl]
theorem ry_twice {a : Int} {m : Nat} (h : 1 ≤ m) : 2 * ry a m * (a * ry a m - ry a (m - 1)) = ry a (2 * m) := by
  obtain ⟨t, rfl⟩ : ∃ t, m = t + 1 := ⟨m - 1, by omega⟩
  rw [show 2 * (t + 1) = t + (t + 1) + 1 by omega, ry_add, show t + 1 - 1 = t from rfl, show ry a (t + 1 + 1) = 2 * a * ry a (t + 1) - ry a t from rfl]
  grind
theorem ry_next {a : Int} {m : Nat} (h : 1 ≤ m) : 2 * a * ry a (2 * m) - ry a (2 * m - 1) = ry a (2 * m + 1) := by
  obtain ⟨t, ht⟩ : ∃ t, 2 * m = t + 1 := ⟨2 * m - 1, by omega⟩
  rw [ht]
  rfl
end RR
namespace RR
open PySem PySem.Spec PyProof.Rows L2
theorem ry_big {a : Int} {s : Nat} (a2 : 2 ≤ a) (hs : ((2 ^ s : Nat) : Int) ≤ 2 * a - 1) : ∀ n, 0 ≤ ry a n ∧ ry a n ≤ ry a (n + 1) ∧ ((2 ^ (s * n) : Nat) : Int) ≤ ry a (n + 1)
  | 0 => ⟨Int.le_refl 0, show (0 : Int) ≤ 1 by decide, by rw [Nat.mul_zero]; exact Int.le_refl 1⟩
  | n + 1 => by
    obtain ⟨h0, h1, h2⟩ := ry_big a2 hs n
    have e : ry a (n + 2) = (2 * a - 1) * ry a (n + 1) + (ry a (n + 1) - ry a n) := by
      show 2 * a * ry a (n + 1) - ry a n = _
      grind
    have p1 : 1 * ry a (n + 1) ≤ (2 * a - 1) * ry a (n + 1) := Int.mul_le_mul_of_nonneg_right (by omega) (by omega)
    have p2 : ((2 ^ s : Nat) : Int) * ((2 ^ (s * n) : Nat) : Int) ≤ (2 * a - 1) * ry a (n + 1) := Int.mul_le_mul hs h2 (Int.natCast_nonneg _) (by omega)
    have e2 : ((2 ^ (s * (n + 1)) : Nat) : Int) = ((2 ^ s : Nat) : Int) * ((2 ^ (s * n) : Nat) : Int) := by
      rw [Nat.mul_succ, Nat.add_comm, Nat.pow_add]
      push_cast
      rfl
    refine ⟨by omega, ?_, ?_⟩
    · show ry a (n + 1) ≤ ry a (n + 2)
      omega
    · show _ ≤ ry a (n + 2)
      omega
end RR
namespace RR
open PySem PySem.Spec PyProof.Rows L2
theorem ixL_at {K : PySem.W.Frag} {H : Hp} {Q : VK} {p : Addr} {xs : List V} {i : Int} {v : V} (h : H p = some (.lst xs)) (e : atI xs i = some v) (q : Q v H) : rIxL K (.ref p) (.int i) H Q := ⟨p, xs, i, v, rfl, rfl, .inl (.inl h), e, q⟩
end RR

namespace RR
open PySem PySem.Spec PyProof.Rows L2
/-- what stood stands, but at p -/
def Ex (p : Addr) (H H' : Hp) : Prop := ∀ b o, b ≠ p → H b = some o → H' b = some o
theorem Ex.rfl' {p : Addr} {H : Hp} : Ex p H H := fun _ _ _ e => e
theorem Ex.trans {p : Addr} {H H1 H2 : Hp} (a : Ex p H H1) (b : Ex p H1 H2) : Ex p H H2 := fun x o n e => b x o n (a x o n e)
theorem Ex.of {p : Addr} {H H' : Hp} (s : Same H H') : Ex p H H' := fun b o _ e => s b o e
theorem Ex.free {p a : Addr} {H H' : Hp} (s : Ex p H H') (hp : H' p ≠ none) (h : H' a = none) : H a = none := by
  cases e : H a with
  | none => rfl
  | some o =>
    have n : a ≠ p := fun z => hp (by rw [← z]; exact h)
    rw [s a o n e] at h
    cases h
/-- the drawn numbers at l, the place at p -/
structure TK (H : Hp) (l p : Addr) (ns : List Nat) : Prop where
  l_ : H l = some (.lst (toV ns))
  ne : l ≠ p
  len : ns.length ≤ 1000
  at_ : ∃ i : Nat, H p = some (.lst [.int i])
  lt : ∀ n ∈ ns, n < 1000
theorem TK.keep {H H' : Hp} {l p : Addr} {ns : List Nat} (h : TK H l p ns) (s : Same H H') : TK H' l p ns := ⟨s _ _ h.l_, h.ne, h.len, let ⟨i, e⟩ := h.at_; ⟨i, s _ _ e⟩, h.lt⟩
theorem TK.pn {H : Hp} {l p : Addr} {ns : List Nat} (h : TK H l p ns) : H p ≠ none := fun z => by
  obtain ⟨i, e⟩ := h.at_
  rw [z] at e
  cases e
theorem TK.newp {H : Hp} {l p : Addr} {ns : List Nat} (h : TK H l p ns) {a : Addr} (n : H a = none) : a ≠ p := fun z => h.pn (by rw [← z]; exact n)
theorem TK.new {H : Hp} {l p : Addr} {ns : List Nat} (h : TK H l p ns) {a : Addr} {o : HO} (n : H a = none) : TK (upd H a o) l p ns ∧ Ex p H (upd H a o) ∧ (upd H a o) a = some o ∧ a ≠ p := ⟨h.keep (same_upd n), Ex.of (same_upd n), upd_same, h.newp n⟩
/-- an element of a new tuple or list of ints -/
theorem ixT_any {K : PySem.W.Frag} {H : Hp} {Q : VK} {p : Addr} {xs : List V} {i : Int} {zs : List Int} (e : xs = zs.map V.int) (h0 : 0 ≤ i) (h1 : i < zs.length) (hp : H p = some (.tup xs)) (q : ∀ z ∈ zs, Q (.int z) H) : rIxT K (.ref p) (.int i) H Q := by
  obtain ⟨j, rfl⟩ : ∃ j : Nat, i = j := ⟨i.toNat, by omega⟩
  have hj : j < zs.length := by omega
  subst e
  exact ixT_as (sq_of hp) (atI_nat (by rw [List.getElem?_map, List.getElem?_eq_getElem hj]; rfl)) (q _ (List.getElem_mem hj))
theorem ixL_any {K : PySem.W.Frag} {H : Hp} {Q : VK} {p : Addr} {xs : List V} {i : Int} {zs : List Int} (e : xs = zs.map V.int) (h0 : 0 ≤ i) (h1 : i < zs.length) (hp : H p = some (.lst xs)) (q : ∀ z ∈ zs, Q (.int z) H) : rIxL K (.ref p) (.int i) H Q := by
  obtain ⟨j, rfl⟩ : ∃ j : Nat, i = j := ⟨i.toNat, by omega⟩
  have hj : j < zs.length := by omega
  subst e
  exact ixL_as (.inl (.inl hp)) (atI_nat (by rw [List.getElem?_map, List.getElem?_eq_getElem hj]; rfl)) (q _ (List.getElem_mem hj))
end RR
namespace RR
open PySem PySem.Spec PyProof.Rows L2
theorem WK.chain {σ : L2.St} {H : Hp} {Q : VK} {r r' : R2} {ta tb tc : TE} (q : ta σ H fun x H1 => tb σ H1 fun y H2 => r x y H2 fun z H3 => ∃ k, z = .bl k ∧ (if k = true then tc σ H3 fun w' H4 => r' y w' H4 Q else Q (.bl false) H3)) : tChain r r' ta tb tc σ H Q := q
end RR
namespace RR
open PySem PySem.Spec PyProof.Rows L2
theorem Sm.md {x m : Int} (h : 0 < m) (l : m < 2 ^ 64) : Sm 64 (x % m) := by
  unfold Sm
  have h1 := Int.emod_nonneg x (show m ≠ 0 by omega)
  have h2 := Int.emod_lt_of_pos x h
  omega
theorem Sm.ix {k n : Nat} (h : k < n) (l : n ≤ 1000000) : Sm 64 (k : Int) := Sm.le (y := 1000000) (Sm.lit (k := 64)) (by omega) (by omega)
/-- numbers below 1000, as a list at D -/
def NL (H : Hp) (D : Addr) (ds : List Nat) : Prop := H D = some (.lst (toV ds)) ∧ ∀ d ∈ ds, d < 1000
theorem toV_snoc (ds : List Nat) (d : Nat) : toV ds ++ [V.int d] = toV (ds ++ [d]) := by unfold toV; rw [List.map_append]; rfl
theorem NL.push {H : Hp} {D : Addr} {ds : List Nat} {z : Int} (h : NL H D ds) (z0 : 0 ≤ z) (z1 : z < 1000) : NL (upd H D (.lst (toV ds ++ [.int z]))) D (ds ++ [z.toNat]) := by
  obtain ⟨n, rfl⟩ : ∃ n : Nat, z = n := ⟨z.toNat, by omega⟩
  refine ⟨by rw [upd_same, toV_snoc, Int.toNat_natCast], fun d hd => ?_⟩
  rcases List.mem_append.mp hd with hd | hd
  · exact h.2 d hd
  · rw [List.mem_singleton] at hd
    omega
end RR
namespace RR
open PySem PySem.Spec PyProof.Rows L2
theorem TK.off {H H1 : Hp} {l p : Addr} {ns : List Nat} (h : TK H l p ns) (s : Same H H1) {P : Addr} {o : HO} (lP : l ≠ P) (pP : p ≠ P) : TK (upd H1 P o) l p ns :=
  ⟨by rw [upd_ne lP]; exact s _ _ h.l_, h.ne, h.len, let ⟨i, e⟩ := h.at_; ⟨i, by rw [upd_ne pP]; exact s _ _ e⟩, h.lt⟩
theorem ne_at {H : Hp} {a b : Addr} {o : HO} (h : H a = some o) (n : H b = none) : a ≠ b := fun e => by rw [e, n] at h; cases h
end RR
namespace RR
open PySem PySem.Spec PyProof.Rows L2
theorem paired_of {α β : Type} {G : α → β → Prop} : ∀ {l : List α} {m : List β}, l.length = m.length → (∀ (t : Nat) (a : α) (b : β), l[t]? = some a → m[t]? = some b → G a b) → Paired G l m
  | [], [], _, _ => .nil
  | a :: l, b :: m, e, h => .cons (h 0 a b rfl rfl) (paired_of (Nat.succ.inj e) fun t x y ex ey => h (t + 1) x y ex ey)
end RR

namespace RR
open PySem PySem.Spec PyProof.Rows L2
namespace WK
variable {σ : L2.St} {H : Hp} {Q : VK}
theorem tV0 {v : V} {t : L2.St} (q : Q v H) : tVar 0 (some v :: t) H Q := ⟨v, rfl, q⟩
theorem tV1 {a0 : Option V} {v : V} {t : L2.St} (q : Q v H) : tVar 1 (a0 :: some v :: t) H Q := ⟨v, rfl, q⟩
theorem tV2 {a0 a1 : Option V} {v : V} {t : L2.St} (q : Q v H) : tVar 2 (a0 :: a1 :: some v :: t) H Q := ⟨v, rfl, q⟩
theorem tV3 {a0 a1 a2 : Option V} {v : V} {t : L2.St} (q : Q v H) : tVar 3 (a0 :: a1 :: a2 :: some v :: t) H Q := ⟨v, rfl, q⟩
theorem tV4 {a0 a1 a2 a3 : Option V} {v : V} {t : L2.St} (q : Q v H) : tVar 4 (a0 :: a1 :: a2 :: a3 :: some v :: t) H Q := ⟨v, rfl, q⟩
theorem tV5 {a0 a1 a2 a3 a4 : Option V} {v : V} {t : L2.St} (q : Q v H) : tVar 5 (a0 :: a1 :: a2 :: a3 :: a4 :: some v :: t) H Q := ⟨v, rfl, q⟩
theorem tV6 {a0 a1 a2 a3 a4 a5 : Option V} {v : V} {t : L2.St} (q : Q v H) : tVar 6 (a0 :: a1 :: a2 :: a3 :: a4 :: a5 :: some v :: t) H Q := ⟨v, rfl, q⟩
theorem tV7 {a0 a1 a2 a3 a4 a5 a6 : Option V} {v : V} {t : L2.St} (q : Q v H) : tVar 7 (a0 :: a1 :: a2 :: a3 :: a4 :: a5 :: a6 :: some v :: t) H Q := ⟨v, rfl, q⟩
theorem tV8 {a0 a1 a2 a3 a4 a5 a6 a7 : Option V} {v : V} {t : L2.St} (q : Q v H) : tVar 8 (a0 :: a1 :: a2 :: a3 :: a4 :: a5 :: a6 :: a7 :: some v :: t) H Q := ⟨v, rfl, q⟩
theorem tV9 {a0 a1 a2 a3 a4 a5 a6 a7 a8 : Option V} {v : V} {t : L2.St} (q : Q v H) : tVar 9 (a0 :: a1 :: a2 :: a3 :: a4 :: a5 :: a6 :: a7 :: a8 :: some v :: t) H Q := ⟨v, rfl, q⟩
theorem tV10 {a0 a1 a2 a3 a4 a5 a6 a7 a8 a9 : Option V} {v : V} {t : L2.St} (q : Q v H) : tVar 10 (a0 :: a1 :: a2 :: a3 :: a4 :: a5 :: a6 :: a7 :: a8 :: a9 :: some v :: t) H Q := ⟨v, rfl, q⟩
theorem tV11 {a0 a1 a2 a3 a4 a5 a6 a7 a8 a9 a10 : Option V} {v : V} {t : L2.St} (q : Q v H) : tVar 11 (a0 :: a1 :: a2 :: a3 :: a4 :: a5 :: a6 :: a7 :: a8 :: a9 :: a10 :: some v :: t) H Q := ⟨v, rfl, q⟩
theorem tV12 {a0 a1 a2 a3 a4 a5 a6 a7 a8 a9 a10 a11 : Option V} {v : V} {t : L2.St} (q : Q v H) : tVar 12 (a0 :: a1 :: a2 :: a3 :: a4 :: a5 :: a6 :: a7 :: a8 :: a9 :: a10 :: a11 :: some v :: t) H Q := ⟨v, rfl, q⟩
theorem tV13 {a0 a1 a2 a3 a4 a5 a6 a7 a8 a9 a10 a11 a12 : Option V} {v : V} {t : L2.St} (q : Q v H) : tVar 13 (a0 :: a1 :: a2 :: a3 :: a4 :: a5 :: a6 :: a7 :: a8 :: a9 :: a10 :: a11 :: a12 :: some v :: t) H Q := ⟨v, rfl, q⟩
theorem tV14 {a0 a1 a2 a3 a4 a5 a6 a7 a8 a9 a10 a11 a12 a13 : Option V} {v : V} {t : L2.St} (q : Q v H) : tVar 14 (a0 :: a1 :: a2 :: a3 :: a4 :: a5 :: a6 :: a7 :: a8 :: a9 :: a10 :: a11 :: a12 :: a13 :: some v :: t) H Q := ⟨v, rfl, q⟩
theorem tV15 {a0 a1 a2 a3 a4 a5 a6 a7 a8 a9 a10 a11 a12 a13 a14 : Option V} {v : V} {t : L2.St} (q : Q v H) : tVar 15 (a0 :: a1 :: a2 :: a3 :: a4 :: a5 :: a6 :: a7 :: a8 :: a9 :: a10 :: a11 :: a12 :: a13 :: a14 :: some v :: t) H Q := ⟨v, rfl, q⟩
theorem tV16 {a0 a1 a2 a3 a4 a5 a6 a7 a8 a9 a10 a11 a12 a13 a14 a15 : Option V} {v : V} {t : L2.St} (q : Q v H) : tVar 16 (a0 :: a1 :: a2 :: a3 :: a4 :: a5 :: a6 :: a7 :: a8 :: a9 :: a10 :: a11 :: a12 :: a13 :: a14 :: a15 :: some v :: t) H Q := ⟨v, rfl, q⟩
theorem tV17 {a0 a1 a2 a3 a4 a5 a6 a7 a8 a9 a10 a11 a12 a13 a14 a15 a16 : Option V} {v : V} {t : L2.St} (q : Q v H) : tVar 17 (a0 :: a1 :: a2 :: a3 :: a4 :: a5 :: a6 :: a7 :: a8 :: a9 :: a10 :: a11 :: a12 :: a13 :: a14 :: a15 :: a16 :: some v :: t) H Q := ⟨v, rfl, q⟩
theorem tV18 {a0 a1 a2 a3 a4 a5 a6 a7 a8 a9 a10 a11 a12 a13 a14 a15 a16 a17 : Option V} {v : V} {t : L2.St} (q : Q v H) : tVar 18 (a0 :: a1 :: a2 :: a3 :: a4 :: a5 :: a6 :: a7 :: a8 :: a9 :: a10 :: a11 :: a12 :: a13 :: a14 :: a15 :: a16 :: a17 :: some v :: t) H Q := ⟨v, rfl, q⟩
theorem tV19 {a0 a1 a2 a3 a4 a5 a6 a7 a8 a9 a10 a11 a12 a13 a14 a15 a16 a17 a18 : Option V} {v : V} {t : L2.St} (q : Q v H) : tVar 19 (a0 :: a1 :: a2 :: a3 :: a4 :: a5 :: a6 :: a7 :: a8 :: a9 :: a10 :: a11 :: a12 :: a13 :: a14 :: a15 :: a16 :: a17 :: a18 :: some v :: t) H Q := ⟨v, rfl, q⟩
theorem tV20 {a0 a1 a2 a3 a4 a5 a6 a7 a8 a9 a10 a11 a12 a13 a14 a15 a16 a17 a18 a19 : Option V} {v : V} {t : L2.St} (q : Q v H) : tVar 20 (a0 :: a1 :: a2 :: a3 :: a4 :: a5 :: a6 :: a7 :: a8 :: a9 :: a10 :: a11 :: a12 :: a13 :: a14 :: a15 :: a16 :: a17 :: a18 :: a19 :: some v :: t) H Q := ⟨v, rfl, q⟩
theorem tV21 {a0 a1 a2 a3 a4 a5 a6 a7 a8 a9 a10 a11 a12 a13 a14 a15 a16 a17 a18 a19 a20 : Option V} {v : V} {t : L2.St} (q : Q v H) : tVar 21 (a0 :: a1 :: a2 :: a3 :: a4 :: a5 :: a6 :: a7 :: a8 :: a9 :: a10 :: a11 :: a12 :: a13 :: a14 :: a15 :: a16 :: a17 :: a18 :: a19 :: a20 :: some v :: t) H Q := ⟨v, rfl, q⟩
theorem tV22 {a0 a1 a2 a3 a4 a5 a6 a7 a8 a9 a10 a11 a12 a13 a14 a15 a16 a17 a18 a19 a20 a21 : Option V} {v : V} {t : L2.St} (q : Q v H) : tVar 22 (a0 :: a1 :: a2 :: a3 :: a4 :: a5 :: a6 :: a7 :: a8 :: a9 :: a10 :: a11 :: a12 :: a13 :: a14 :: a15 :: a16 :: a17 :: a18 :: a19 :: a20 :: a21 :: some v :: t) H Q := ⟨v, rfl, q⟩
theorem tV23 {a0 a1 a2 a3 a4 a5 a6 a7 a8 a9 a10 a11 a12 a13 a14 a15 a16 a17 a18 a19 a20 a21 a22 : Option V} {v : V} {t : L2.St} (q : Q v H) : tVar 23 (a0 :: a1 :: a2 :: a3 :: a4 :: a5 :: a6 :: a7 :: a8 :: a9 :: a10 :: a11 :: a12 :: a13 :: a14 :: a15 :: a16 :: a17 :: a18 :: a19 :: a20 :: a21 :: a22 :: some v :: t) H Q := ⟨v, rfl, q⟩
theorem tV24 {a0 a1 a2 a3 a4 a5 a6 a7 a8 a9 a10 a11 a12 a13 a14 a15 a16 a17 a18 a19 a20 a21 a22 a23 : Option V} {v : V} {t : L2.St} (q : Q v H) : tVar 24 (a0 :: a1 :: a2 :: a3 :: a4 :: a5 :: a6 :: a7 :: a8 :: a9 :: a10 :: a11 :: a12 :: a13 :: a14 :: a15 :: a16 :: a17 :: a18 :: a19 :: a20 :: a21 :: a22 :: a23 :: some v :: t) H Q := ⟨v, rfl, q⟩
theorem tV25 {a0 a1 a2 a3 a4 a5 a6 a7 a8 a9 a10 a11 a12 a13 a14 a15 a16 a17 a18 a19 a20 a21 a22 a23 a24 : Option V} {v : V} {t : L2.St} (q : Q v H) : tVar 25 (a0 :: a1 :: a2 :: a3 :: a4 :: a5 :: a6 :: a7 :: a8 :: a9 :: a10 :: a11 :: a12 :: a13 :: a14 :: a15 :: a16 :: a17 :: a18 :: a19 :: a20 :: a21 :: a22 :: a23 :: a24 :: some v :: t) H Q := ⟨v, rfl, q⟩
theorem tV26 {a0 a1 a2 a3 a4 a5 a6 a7 a8 a9 a10 a11 a12 a13 a14 a15 a16 a17 a18 a19 a20 a21 a22 a23 a24 a25 : Option V} {v : V} {t : L2.St} (q : Q v H) : tVar 26 (a0 :: a1 :: a2 :: a3 :: a4 :: a5 :: a6 :: a7 :: a8 :: a9 :: a10 :: a11 :: a12 :: a13 :: a14 :: a15 :: a16 :: a17 :: a18 :: a19 :: a20 :: a21 :: a22 :: a23 :: a24 :: a25 :: some v :: t) H Q := ⟨v, rfl, q⟩
theorem tV27 {a0 a1 a2 a3 a4 a5 a6 a7 a8 a9 a10 a11 a12 a13 a14 a15 a16 a17 a18 a19 a20 a21 a22 a23 a24 a25 a26 : Option V} {v : V} {t : L2.St} (q : Q v H) : tVar 27 (a0 :: a1 :: a2 :: a3 :: a4 :: a5 :: a6 :: a7 :: a8 :: a9 :: a10 :: a11 :: a12 :: a13 :: a14 :: a15 :: a16 :: a17 :: a18 :: a19 :: a20 :: a21 :: a22 :: a23 :: a24 :: a25 :: a26 :: some v :: t) H Q := ⟨v, rfl, q⟩
theorem tV28 {a0 a1 a2 a3 a4 a5 a6 a7 a8 a9 a10 a11 a12 a13 a14 a15 a16 a17 a18 a19 a20 a21 a22 a23 a24 a25 a26 a27 : Option V} {v : V} {t : L2.St} (q : Q v H) : tVar 28 (a0 :: a1 :: a2 :: a3 :: a4 :: a5 :: a6 :: a7 :: a8 :: a9 :: a10 :: a11 :: a12 :: a13 :: a14 :: a15 :: a16 :: a17 :: a18 :: a19 :: a20 :: a21 :: a22 :: a23 :: a24 :: a25 :: a26 :: a27 :: some v :: t) H Q := ⟨v, rfl, q⟩
theorem tV29 {a0 a1 a2 a3 a4 a5 a6 a7 a8 a9 a10 a11 a12 a13 a14 a15 a16 a17 a18 a19 a20 a21 a22 a23 a24 a25 a26 a27 a28 : Option V} {v : V} {t : L2.St} (q : Q v H) : tVar 29 (a0 :: a1 :: a2 :: a3 :: a4 :: a5 :: a6 :: a7 :: a8 :: a9 :: a10 :: a11 :: a12 :: a13 :: a14 :: a15 :: a16 :: a17 :: a18 :: a19 :: a20 :: a21 :: a22 :: a23 :: a24 :: a25 :: a26 :: a27 :: a28 :: some v :: t) H Q := ⟨v, rfl, q⟩
theorem gN0 {R : L2.St → Hp → Prop} {v : V} {b : Option V} {t : L2.St} (q : R (some v :: t) H) : gName 0 v (b :: t) H R := q
theorem gN1 {R : L2.St → Hp → Prop} {a0 b : Option V} {v : V} {t : L2.St} (q : R (a0 :: some v :: t) H) : gName 1 v (a0 :: b :: t) H R := q
theorem gN2 {R : L2.St → Hp → Prop} {a0 a1 b : Option V} {v : V} {t : L2.St} (q : R (a0 :: a1 :: some v :: t) H) : gName 2 v (a0 :: a1 :: b :: t) H R := q
theorem gN3 {R : L2.St → Hp → Prop} {a0 a1 a2 b : Option V} {v : V} {t : L2.St} (q : R (a0 :: a1 :: a2 :: some v :: t) H) : gName 3 v (a0 :: a1 :: a2 :: b :: t) H R := q
theorem gN4 {R : L2.St → Hp → Prop} {a0 a1 a2 a3 b : Option V} {v : V} {t : L2.St} (q : R (a0 :: a1 :: a2 :: a3 :: some v :: t) H) : gName 4 v (a0 :: a1 :: a2 :: a3 :: b :: t) H R := q
theorem gN5 {R : L2.St → Hp → Prop} {a0 a1 a2 a3 a4 b : Option V} {v : V} {t : L2.St} (q : R (a0 :: a1 :: a2 :: a3 :: a4 :: some v :: t) H) : gName 5 v (a0 :: a1 :: a2 :: a3 :: a4 :: b :: t) H R := q
theorem gN6 {R : L2.St → Hp → Prop} {a0 a1 a2 a3 a4 a5 b : Option V} {v : V} {t : L2.St} (q : R (a0 :: a1 :: a2 :: a3 :: a4 :: a5 :: some v :: t) H) : gName 6 v (a0 :: a1 :: a2 :: a3 :: a4 :: a5 :: b :: t) H R := q
theorem gN7 {R : L2.St → Hp → Prop} {a0 a1 a2 a3 a4 a5 a6 b : Option V} {v : V} {t : L2.St} (q : R (a0 :: a1 :: a2 :: a3 :: a4 :: a5 :: a6 :: some v :: t) H) : gName 7 v (a0 :: a1 :: a2 :: a3 :: a4 :: a5 :: a6 :: b :: t) H R := q
theorem gN8 {R : L2.St → Hp → Prop} {a0 a1 a2 a3 a4 a5 a6 a7 b : Option V} {v : V} {t : L2.St} (q : R (a0 :: a1 :: a2 :: a3 :: a4 :: a5 :: a6 :: a7 :: some v :: t) H) : gName 8 v (a0 :: a1 :: a2 :: a3 :: a4 :: a5 :: a6 :: a7 :: b :: t) H R := q
theorem gN9 {R : L2.St → Hp → Prop} {a0 a1 a2 a3 a4 a5 a6 a7 a8 b : Option V} {v : V} {t : L2.St} (q : R (a0 :: a1 :: a2 :: a3 :: a4 :: a5 :: a6 :: a7 :: a8 :: some v :: t) H) : gName 9 v (a0 :: a1 :: a2 :: a3 :: a4 :: a5 :: a6 :: a7 :: a8 :: b :: t) H R := q
theorem gN10 {R : L2.St → Hp → Prop} {a0 a1 a2 a3 a4 a5 a6 a7 a8 a9 b : Option V} {v : V} {t : L2.St} (q : R (a0 :: a1 :: a2 :: a3 :: a4 :: a5 :: a6 :: a7 :: a8 :: a9 :: some v :: t) H) : gName 10 v (a0 :: a1 :: a2 :: a3 :: a4 :: a5 :: a6 :: a7 :: a8 :: a9 :: b :: t) H R := q
theorem gN11 {R : L2.St → Hp → Prop} {a0 a1 a2 a3 a4 a5 a6 a7 a8 a9 a10 b : Option V} {v : V} {t : L2.St} (q : R (a0 :: a1 :: a2 :: a3 :: a4 :: a5 :: a6 :: a7 :: a8 :: a9 :: a10 :: some v :: t) H) : gName 11 v (a0 :: a1 :: a2 :: a3 :: a4 :: a5 :: a6 :: a7 :: a8 :: a9 :: a10 :: b :: t) H R := q
theorem gN12 {R : L2.St → Hp → Prop} {a0 a1 a2 a3 a4 a5 a6 a7 a8 a9 a10 a11 b : Option V} {v : V} {t : L2.St} (q : R (a0 :: a1 :: a2 :: a3 :: a4 :: a5 :: a6 :: a7 :: a8 :: a9 :: a10 :: a11 :: some v :: t) H) : gName 12 v (a0 :: a1 :: a2 :: a3 :: a4 :: a5 :: a6 :: a7 :: a8 :: a9 :: a10 :: a11 :: b :: t) H R := q
theorem gN13 {R : L2.St → Hp → Prop} {a0 a1 a2 a3 a4 a5 a6 a7 a8 a9 a10 a11 a12 b : Option V} {v : V} {t : L2.St} (q : R (a0 :: a1 :: a2 :: a3 :: a4 :: a5 :: a6 :: a7 :: a8 :: a9 :: a10 :: a11 :: a12 :: some v :: t) H) : gName 13 v (a0 :: a1 :: a2 :: a3 :: a4 :: a5 :: a6 :: a7 :: a8 :: a9 :: a10 :: a11 :: a12 :: b :: t) H R := q
theorem gN14 {R : L2.St → Hp → Prop} {a0 a1 a2 a3 a4 a5 a6 a7 a8 a9 a10 a11 a12 a13 b : Option V} {v : V} {t : L2.St} (q : R (a0 :: a1 :: a2 :: a3 :: a4 :: a5 :: a6 :: a7 :: a8 :: a9 :: a10 :: a11 :: a12 :: a13 :: some v :: t) H) : gName 14 v (a0 :: a1 :: a2 :: a3 :: a4 :: a5 :: a6 :: a7 :: a8 :: a9 :: a10 :: a11 :: a12 :: a13 :: b :: t) H R := q
theorem gN15 {R : L2.St → Hp → Prop} {a0 a1 a2 a3 a4 a5 a6 a7 a8 a9 a10 a11 a12 a13 a14 b : Option V} {v : V} {t : L2.St} (q : R (a0 :: a1 :: a2 :: a3 :: a4 :: a5 :: a6 :: a7 :: a8 :: a9 :: a10 :: a11 :: a12 :: a13 :: a14 :: some v :: t) H) : gName 15 v (a0 :: a1 :: a2 :: a3 :: a4 :: a5 :: a6 :: a7 :: a8 :: a9 :: a10 :: a11 :: a12 :: a13 :: a14 :: b :: t) H R := q
theorem gN16 {R : L2.St → Hp → Prop} {a0 a1 a2 a3 a4 a5 a6 a7 a8 a9 a10 a11 a12 a13 a14 a15 b : Option V} {v : V} {t : L2.St} (q : R (a0 :: a1 :: a2 :: a3 :: a4 :: a5 :: a6 :: a7 :: a8 :: a9 :: a10 :: a11 :: a12 :: a13 :: a14 :: a15 :: some v :: t) H) : gName 16 v (a0 :: a1 :: a2 :: a3 :: a4 :: a5 :: a6 :: a7 :: a8 :: a9 :: a10 :: a11 :: a12 :: a13 :: a14 :: a15 :: b :: t) H R := q
theorem gN17 {R : L2.St → Hp → Prop} {a0 a1 a2 a3 a4 a5 a6 a7 a8 a9 a10 a11 a12 a13 a14 a15 a16 b : Option V} {v : V} {t : L2.St} (q : R (a0 :: a1 :: a2 :: a3 :: a4 :: a5 :: a6 :: a7 :: a8 :: a9 :: a10 :: a11 :: a12 :: a13 :: a14 :: a15 :: a16 :: some v :: t) H) : gName 17 v (a0 :: a1 :: a2 :: a3 :: a4 :: a5 :: a6 :: a7 :: a8 :: a9 :: a10 :: a11 :: a12 :: a13 :: a14 :: a15 :: a16 :: b :: t) H R := q
theorem gN18 {R : L2.St → Hp → Prop} {a0 a1 a2 a3 a4 a5 a6 a7 a8 a9 a10 a11 a12 a13 a14 a15 a16 a17 b : Option V} {v : V} {t : L2.St} (q : R (a0 :: a1 :: a2 :: a3 :: a4 :: a5 :: a6 :: a7 :: a8 :: a9 :: a10 :: a11 :: a12 :: a13 :: a14 :: a15 :: a16 :: a17 :: some v :: t) H) : gName 18 v (a0 :: a1 :: a2 :: a3 :: a4 :: a5 :: a6 :: a7 :: a8 :: a9 :: a10 :: a11 :: a12 :: a13 :: a14 :: a15 :: a16 :: a17 :: b :: t) H R := q
theorem gN19 {R : L2.St → Hp → Prop} {a0 a1 a2 a3 a4 a5 a6 a7 a8 a9 a10 a11 a12 a13 a14 a15 a16 a17 a18 b : Option V} {v : V} {t : L2.St} (q : R (a0 :: a1 :: a2 :: a3 :: a4 :: a5 :: a6 :: a7 :: a8 :: a9 :: a10 :: a11 :: a12 :: a13 :: a14 :: a15 :: a16 :: a17 :: a18 :: some v :: t) H) : gName 19 v (a0 :: a1 :: a2 :: a3 :: a4 :: a5 :: a6 :: a7 :: a8 :: a9 :: a10 :: a11 :: a12 :: a13 :: a14 :: a15 :: a16 :: a17 :: a18 :: b :: t) H R := q
theorem gN20 {R : L2.St → Hp → Prop} {a0 a1 a2 a3 a4 a5 a6 a7 a8 a9 a10 a11 a12 a13 a14 a15 a16 a17 a18 a19 b : Option V} {v : V} {t : L2.St} (q : R (a0 :: a1 :: a2 :: a3 :: a4 :: a5 :: a6 :: a7 :: a8 :: a9 :: a10 :: a11 :: a12 :: a13 :: a14 :: a15 :: a16 :: a17 :: a18 :: a19 :: some v :: t) H) : gName 20 v (a0 :: a1 :: a2 :: a3 :: a4 :: a5 :: a6 :: a7 :: a8 :: a9 :: a10 :: a11 :: a12 :: a13 :: a14 :: a15 :: a16 :: a17 :: a18 :: a19 :: b :: t) H R := q
theorem gN21 {R : L2.St → Hp → Prop} {a0 a1 a2 a3 a4 a5 a6 a7 a8 a9 a10 a11 a12 a13 a14 a15 a16 a17 a18 a19 a20 b : Option V} {v : V} {t : L2.St} (q : R (a0 :: a1 :: a2 :: a3 :: a4 :: a5 :: a6 :: a7 :: a8 :: a9 :: a10 :: a11 :: a12 :: a13 :: a14 :: a15 :: a16 :: a17 :: a18 :: a19 :: a20 :: some v :: t) H) : gName 21 v (a0 :: a1 :: a2 :: a3 :: a4 :: a5 :: a6 :: a7 :: a8 :: a9 :: a10 :: a11 :: a12 :: a13 :: a14 :: a15 :: a16 :: a17 :: a18 :: a19 :: a20 :: b :: t) H R := q
theorem gN22 {R : L2.St → Hp → Prop} {a0 a1 a2 a3 a4 a5 a6 a7 a8 a9 a10 a11 a12 a13 a14 a15 a16 a17 a18 a19 a20 a21 b : Option V} {v : V} {t : L2.St} (q : R (a0 :: a1 :: a2 :: a3 :: a4 :: a5 :: a6 :: a7 :: a8 :: a9 :: a10 :: a11 :: a12 :: a13 :: a14 :: a15 :: a16 :: a17 :: a18 :: a19 :: a20 :: a21 :: some v :: t) H) : gName 22 v (a0 :: a1 :: a2 :: a3 :: a4 :: a5 :: a6 :: a7 :: a8 :: a9 :: a10 :: a11 :: a12 :: a13 :: a14 :: a15 :: a16 :: a17 :: a18 :: a19 :: a20 :: a21 :: b :: t) H R := q
theorem gN23 {R : L2.St → Hp → Prop} {a0 a1 a2 a3 a4 a5 a6 a7 a8 a9 a10 a11 a12 a13 a14 a15 a16 a17 a18 a19 a20 a21 a22 b : Option V} {v : V} {t : L2.St} (q : R (a0 :: a1 :: a2 :: a3 :: a4 :: a5 :: a6 :: a7 :: a8 :: a9 :: a10 :: a11 :: a12 :: a13 :: a14 :: a15 :: a16 :: a17 :: a18 :: a19 :: a20 :: a21 :: a22 :: some v :: t) H) : gName 23 v (a0 :: a1 :: a2 :: a3 :: a4 :: a5 :: a6 :: a7 :: a8 :: a9 :: a10 :: a11 :: a12 :: a13 :: a14 :: a15 :: a16 :: a17 :: a18 :: a19 :: a20 :: a21 :: a22 :: b :: t) H R := q
theorem gN24 {R : L2.St → Hp → Prop} {a0 a1 a2 a3 a4 a5 a6 a7 a8 a9 a10 a11 a12 a13 a14 a15 a16 a17 a18 a19 a20 a21 a22 a23 b : Option V} {v : V} {t : L2.St} (q : R (a0 :: a1 :: a2 :: a3 :: a4 :: a5 :: a6 :: a7 :: a8 :: a9 :: a10 :: a11 :: a12 :: a13 :: a14 :: a15 :: a16 :: a17 :: a18 :: a19 :: a20 :: a21 :: a22 :: a23 :: some v :: t) H) : gName 24 v (a0 :: a1 :: a2 :: a3 :: a4 :: a5 :: a6 :: a7 :: a8 :: a9 :: a10 :: a11 :: a12 :: a13 :: a14 :: a15 :: a16 :: a17 :: a18 :: a19 :: a20 :: a21 :: a22 :: a23 :: b :: t) H R := q
theorem gN25 {R : L2.St → Hp → Prop} {a0 a1 a2 a3 a4 a5 a6 a7 a8 a9 a10 a11 a12 a13 a14 a15 a16 a17 a18 a19 a20 a21 a22 a23 a24 b : Option V} {v : V} {t : L2.St} (q : R (a0 :: a1 :: a2 :: a3 :: a4 :: a5 :: a6 :: a7 :: a8 :: a9 :: a10 :: a11 :: a12 :: a13 :: a14 :: a15 :: a16 :: a17 :: a18 :: a19 :: a20 :: a21 :: a22 :: a23 :: a24 :: some v :: t) H) : gName 25 v (a0 :: a1 :: a2 :: a3 :: a4 :: a5 :: a6 :: a7 :: a8 :: a9 :: a10 :: a11 :: a12 :: a13 :: a14 :: a15 :: a16 :: a17 :: a18 :: a19 :: a20 :: a21 :: a22 :: a23 :: a24 :: b :: t) H R := q
theorem gN26 {R : L2.St → Hp → Prop} {a0 a1 a2 a3 a4 a5 a6 a7 a8 a9 a10 a11 a12 a13 a14 a15 a16 a17 a18 a19 a20 a21 a22 a23 a24 a25 b : Option V} {v : V} {t : L2.St} (q : R (a0 :: a1 :: a2 :: a3 :: a4 :: a5 :: a6 :: a7 :: a8 :: a9 :: a10 :: a11 :: a12 :: a13 :: a14 :: a15 :: a16 :: a17 :: a18 :: a19 :: a20 :: a21 :: a22 :: a23 :: a24 :: a25 :: some v :: t) H) : gName 26 v (a0 :: a1 :: a2 :: a3 :: a4 :: a5 :: a6 :: a7 :: a8 :: a9 :: a10 :: a11 :: a12 :: a13 :: a14 :: a15 :: a16 :: a17 :: a18 :: a19 :: a20 :: a21 :: a22 :: a23 :: a24 :: a25 :: b :: t) H R := q
theorem gN27 {R : L2.St → Hp → Prop} {a0 a1 a2 a3 a4 a5 a6 a7 a8 a9 a10 a11 a12 a13 a14 a15 a16 a17 a18 a19 a20 a21 a22 a23 a24 a25 a26 b : Option V} {v : V} {t : L2.St} (q : R (a0 :: a1 :: a2 :: a3 :: a4 :: a5 :: a6 :: a7 :: a8 :: a9 :: a10 :: a11 :: a12 :: a13 :: a14 :: a15 :: a16 :: a17 :: a18 :: a19 :: a20 :: a21 :: a22 :: a23 :: a24 :: a25 :: a26 :: some v :: t) H) : gName 27 v (a0 :: a1 :: a2 :: a3 :: a4 :: a5 :: a6 :: a7 :: a8 :: a9 :: a10 :: a11 :: a12 :: a13 :: a14 :: a15 :: a16 :: a17 :: a18 :: a19 :: a20 :: a21 :: a22 :: a23 :: a24 :: a25 :: a26 :: b :: t) H R := q
theorem gN28 {R : L2.St → Hp → Prop} {a0 a1 a2 a3 a4 a5 a6 a7 a8 a9 a10 a11 a12 a13 a14 a15 a16 a17 a18 a19 a20 a21 a22 a23 a24 a25 a26 a27 b : Option V} {v : V} {t : L2.St} (q : R (a0 :: a1 :: a2 :: a3 :: a4 :: a5 :: a6 :: a7 :: a8 :: a9 :: a10 :: a11 :: a12 :: a13 :: a14 :: a15 :: a16 :: a17 :: a18 :: a19 :: a20 :: a21 :: a22 :: a23 :: a24 :: a25 :: a26 :: a27 :: some v :: t) H) : gName 28 v (a0 :: a1 :: a2 :: a3 :: a4 :: a5 :: a6 :: a7 :: a8 :: a9 :: a10 :: a11 :: a12 :: a13 :: a14 :: a15 :: a16 :: a17 :: a18 :: a19 :: a20 :: a21 :: a22 :: a23 :: a24 :: a25 :: a26 :: a27 :: b :: t) H R := q
theorem gN29 {R : L2.St → Hp → Prop} {a0 a1 a2 a3 a4 a5 a6 a7 a8 a9 a10 a11 a12 a13 a14 a15 a16 a17 a18 a19 a20 a21 a22 a23 a24 a25 a26 a27 a28 b : Option V} {v : V} {t : L2.St} (q : R (a0 :: a1 :: a2 :: a3 :: a4 :: a5 :: a6 :: a7 :: a8 :: a9 :: a10 :: a11 :: a12 :: a13 :: a14 :: a15 :: a16 :: a17 :: a18 :: a19 :: a20 :: a21 :: a22 :: a23 :: a24 :: a25 :: a26 :: a27 :: a28 :: some v :: t) H) : gName 29 v (a0 :: a1 :: a2 :: a3 :: a4 :: a5 :: a6 :: a7 :: a8 :: a9 :: a10 :: a11 :: a12 :: a13 :: a14 :: a15 :: a16 :: a17 :: a18 :: a19 :: a20 :: a21 :: a22 :: a23 :: a24 :: a25 :: a26 :: a27 :: a28 :: b :: t) H R := q
theorem op {r : R2} {ta tb : TE} (q : ta σ H fun x H1 => tb σ H1 fun y H2 => r x y H2 Q) : tOp r ta tb σ H Q := q
theorem un {r : V → Hp → VK → Prop} {ta : TE} (q : ta σ H fun x H1 => r x H1 Q) : tUn r ta σ H Q := q
theorem rU_ {g : Int → V} {i : Int} (q : Q (g i) H) : rU g (.int i) H Q := ⟨i, rfl, q⟩
theorem i0 {g : Int → Int → V} {i j : Int} (q : Q (g i j) H) : rI0 g (.int i) (.int j) H Q := ⟨i, j, rfl, rfl, q⟩
theorem nil {Q : List V → Hp → Prop} (q : Q [] H) : tNil σ H Q := q
theorem cons {ta : TE} {tr : TA} {Q : List V → Hp → Prop} (q : ta σ H fun x H1 => tr σ H1 fun xs H2 => Q (x :: xs) H2) : tCons ta tr σ H Q := q
theorem cst {v : V} (q : Q v H) : tC v σ H Q := q
theorem nopart {Q : Option Int → Hp → Prop} (q : Q none H) : tNoPart σ H Q := q
theorem part {t : TE} {Q : Option Int → Hp → Prop} (q : t σ H fun x H1 => ∃ i, x = .int i ∧ Q (some i) H1) : tPart t σ H Q := q
theorem part2 {i : Int} {Q : Option Int → Hp → Prop} (q : Q (some i) H) : ∃ j, V.int i = .int j ∧ Q (some j) H := ⟨i, rfl, q⟩
theorem nxt {D : Ends} (q : D.nx σ H) : tNext D σ H := q
theorem seq {D : Ends} {t u : TS} (q : t { D with nx := u D } σ H) : tSeq t u D σ H := q
theorem drop {D : Ends} {te : TE} (q : te σ H fun _ H1 => D.nx σ H1) : tDrop te D σ H := q
theorem ret {D : Ends} {te : TE} (q : te σ H D.rt) : tRet te D σ H := q
theorem retN {D : Ends} (q : D.rt .non H) : tRetN D σ H := q
theorem brk {D : Ends} (q : D.bk σ H) : tBreak D σ H := q
theorem cnt {D : Ends} (q : D.ct σ H) : tCont D σ H := q
theorem ifs {D : Ends} {c : TT} {t u : TS} (q : c σ H fun b H1 => if b = true then t D σ H1 else u D σ H1) : tIfS c t u D σ H := q
theorem asg {D : Ends} {te : TE} {g : TG} (q : te σ H fun x H1 => g x σ H1 D.nx) : tAsg te g D σ H := q
theorem test {t : TE} {Q : Bool → Hp → Prop} (q : t σ H fun x H1 => ∃ k, x = .bl k ∧ Q k H1) : tTest t σ H Q := q
theorem tb {t : TE} {Q : Bool → Hp → Prop} (q : t σ H fun x H1 => ∃ k, x = .bl k ∧ Q k H1) : tB t σ H Q := q
theorem bl {k : Bool} {Q : Bool → Hp → Prop} (q : Q k H) : ∃ c, V.bl k = .bl c ∧ Q c H := ⟨k, rfl, q⟩
theorem blif {k : Bool} {Q R : Prop} (q : if k = true then Q else R) : ∃ c, V.bl k = .bl c ∧ if c = true then Q else R := ⟨k, rfl, q⟩
theorem ift {Q R : Prop} (q : Q) : if true = true then Q else R := q
theorem iff {Q R : Prop} (q : R) : if false = true then Q else R := q
theorem and_ {t u : TT} {Q : Bool → Hp → Prop} (q : t σ H fun c H1 => if c = true then u σ H1 Q else Q false H1) : tAnd t u σ H Q := q
theorem or_ {t u : TT} {Q : Bool → Hp → Prop} (q : t σ H fun c H1 => if c = true then Q true H1 else u σ H1 Q) : tOr t u σ H Q := q
theorem not_ {t : TT} {Q : Bool → Hp → Prop} (q : t σ H fun c H1 => Q (!c) H1) : tNot t σ H Q := q
theorem andv {ta tb : TE} (q : ta σ H fun x H1 => ∃ c, x = .bl c ∧ if c = true then tb σ H1 Q else Q (.bl false) H1) : tAndV ta tb σ H Q := q
theorem orv {ta tb : TE} (q : ta σ H fun x H1 => ∃ c, x = .bl c ∧ if c = true then Q (.bl true) H1 else tb σ H1 Q) : tOrV ta tb σ H Q := q
theorem notv {ta : TE} (q : ta σ H fun x H1 => ∃ c, x = .bl c ∧ Q (.bl (!c)) H1) : tNotV ta σ H Q := q
theorem notv2 {k : Bool} (q : Q (.bl (!k)) H) : ∃ c, V.bl k = .bl c ∧ Q (.bl (!c)) H := ⟨k, rfl, q⟩
theorem if_ {t : TT} {ta tb : TE} (q : t σ H fun c H1 => if c = true then ta σ H1 Q else tb σ H1 Q) : tIf t ta tb σ H Q := q
theorem yes {Q : Bool → Hp → Prop} (q : Q true H) : tYes σ H Q := q
theorem bm0 {K : PySem.W.Frag} {T : String} {r : V → List V → Hp → VK → Prop} {to : TE} (q : to σ H fun x H1 => tyV K T x H1 ∧ r x [] H1 Q) : tBM0 K T r to σ H Q := q
theorem bm {K : PySem.W.Frag} {T : String} {r : V → List V → Hp → VK → Prop} {to : TE} {t : TA} (q : to σ H fun x H1 => tyV K T x H1 ∧ t σ H1 fun xs H2 => r x xs H2 Q) : tBM K T r to t σ H Q := q
theorem sl {r : V → Option Int → Option Int → Hp → VK → Prop} {te : TE} {tl th : TO} (q : te σ H fun x H1 => tl σ H1 fun l H2 => th σ H2 fun u H3 => r x l u H3 Q) : tSl r te tl th σ H Q := q
theorem cal {sp : Sp} {t : TA} (q : t σ H fun vs H1 => sp vs H1 Q L2.E0) : tCal sp t σ H Q := q
theorem cb {r : List V → Hp → VK → Prop} {t : TA} (q : t σ H fun vs H1 => r vs H1 Q) : tCB r t σ H Q := q
theorem gnil {R : L2.St → Hp → Prop} (q : R σ H) : gNil [] σ H R := ⟨rfl, q⟩
theorem gcons {t : TG} {u : TGs} {v : V} {r : List V} {R : L2.St → Hp → Prop} (q : t v σ H fun σ2 H2 => u r σ2 H2 R) : gCons t u (v :: r) σ H R := ⟨v, r, rfl, q⟩
theorem gsub {to ti : TE} {t : TSet} {v : V} {R : L2.St → Hp → Prop} (q : to σ H fun o H1 => ti σ H1 fun i H2 => t o i v H2 fun H3 => R σ H3) : gSub to ti t v σ H R := q
theorem rng1 {ta : TA} {R : It → Hp → Prop} (q : ta σ H fun vs H1 => ∃ j : Int, vs = [.int j] ∧ -(2 ^ 62) ≤ j ∧ j < 2 ^ 62 ∧ R (Itr 0 j.toNat) H1) : iRng1 ta σ H R := q
theorem rng1b {j : Int} {R : It → Hp → Prop} (q : -(2 ^ 62) ≤ j ∧ j < 2 ^ 62 ∧ R (Itr 0 j.toNat) H) : ∃ i : Int, [V.int j] = [.int i] ∧ -(2 ^ 62) ≤ i ∧ i < 2 ^ 62 ∧ R (Itr 0 i.toNat) H := ⟨j, rfl, q⟩
theorem zip_ {K : PySem.W.Frag} {ta : TA} {R : It → Hp → Prop} (q : ta σ H fun vs H1 => ∃ a b xs ys, vs = [.ref a, .ref b] ∧ SqL K H1 a xs ∧ SqL K H1 b ys ∧ R (Itz K a b) H1) : iZip K ta σ H R := q
theorem ilist {K : PySem.W.Frag} {tl : TE} {R : It → Hp → Prop} (q : tl σ H fun x H1 => ∃ a, x = .ref a ∧ (∃ xs, SqL K H1 a xs) ∧ R (Itl K a) H1) : iList K tl σ H R := q
theorem itup {K : PySem.W.Frag} {tl : TE} {R : It → Hp → Prop} (q : tl σ H fun x H1 => ∃ a, x = .ref a ∧ (∃ xs, SqT K H1 a xs) ∧ R (Itt K a) H1) : iTup K tl σ H R := q
theorem lc {wi : TI} {g : TG} {tt : TT} {te : TE} {vs : List Nat} (q : wi σ H fun J H1 => ∀ D, H1 D = none → ∃ W : Nat → Nat → Hp → Prop, (∃ m, W 0 m (upd H1 D (.lst []))) ∧ ∀ i m H, W i m H → (J.stop i H ∧ Q (.ref D) H) ∨ (J.go i H ∧ ∃ Nx : Hp → Prop, (∀ H', Nx H' → ∃ m', m' < m ∧ W (i + 1) m' H') ∧ ∀ x H', J.yld i H x H' → g x (wipe σ vs) H' fun σ2 H2 => wipe σ2 vs = wipe σ vs ∧ tt σ2 H2 fun b H3 => if b = true then te σ2 H3 fun y H4 => ∃ acc, H4 D = some (.lst acc) ∧ acc.length < sizeLine ∧ Nx (upd H4 D (.lst (acc ++ [y]))) else Nx H3)) : tLc wi g tt te vs σ H Q := q
theorem eq_i {i j : Int} (q : Q (.bl (decide (V.int i = V.int j))) H) : rEq (.int i) (.int j) H Q := ⟨rfl, q⟩
theorem ne_i {i j : Int} (q : Q (.bl (!decide (V.int i = V.int j))) H) : rNe (.int i) (.int j) H Q := ⟨rfl, q⟩
theorem i1 {C : Int → Int → Prop} {g : Int → Int → V} {i j : Int} (hc : C i j) (q : Q (g i j) H) : rI C g (.int i) (.int j) H Q := ⟨i, j, rfl, rfl, hc, q⟩
theorem tup {t : TA} (q : t σ H fun xs H1 => xs.length ≤ sizeLine ∧ ∀ p, H1 p = none → Q (.ref p) (upd H1 p (.tup xs))) : tTup t σ H Q := q
theorem lst {t : TA} (q : t σ H fun xs H1 => xs.length ≤ sizeLine ∧ ∀ p, H1 p = none → Q (.ref p) (upd H1 p (.lst xs))) : tLst t σ H Q := q
theorem par {D : Ends} {i j : Nat} {ta : TA} (q : ta σ H fun vs H1 => ∃ v w, vs = [v, w] ∧ gName i v σ H1 fun σ1 H2 => gName j w σ1 H2 D.nx) : tPar i j ta D σ H := q
theorem ex1 {i : Int} {R : Int → Prop} (q : R i) : ∃ j, [V.int i] = [V.int j] ∧ R j := ⟨i, rfl, q⟩
theorem exI {i : Int} {R : Int → Prop} (q : R i) : ∃ j, V.int i = V.int j ∧ R j := ⟨i, rfl, q⟩
theorem exB {k : Bool} {R : Bool → Prop} (q : R k) : ∃ c, V.bl k = V.bl c ∧ R c := ⟨k, rfl, q⟩
theorem par2 {v w : V} {R : V → V → Prop} (q : R v w) : ∃ v2 w2, [v, w] = [v2, w2] ∧ R v2 w2 := ⟨v, w, rfl, q⟩
theorem aug {D : Ends} {i : Nat} {te : TE} {ti : TIp} (q : ∃ x, σ[i]? = some (some x) ∧ te σ H fun y H1 => ti x y H1 fun z H2 => gName i z σ H2 D.nx) : tAug i te ti D σ H := q
theorem for_ {D : Ends} {wi : TI} {g : TG} {tb : TS} (q : wi σ H fun J H1 => ∃ W : Nat → Nat → L2.St → Hp → Prop, (∃ m, W 0 m σ H1) ∧ ∀ i m σ H, W i m σ H →   (J.stop i H ∧ D.nx σ H) ∨ (J.go i H ∧ ∃ N : L2.St → Hp → Prop, (∀ σ' H', N σ' H' → ∃ m', m' < m ∧ W (i + 1) m' σ' H') ∧ ∀ x H', J.yld i H x H' → g x σ H' fun σ2 H2 => tb { D with nx := N, ct := N, bk := D.nx } σ2 H2)) : tFor wi g tb D σ H := q
theorem nift {Q R : Prop} (q : R) : if (!true) = true then Q else R := q
theorem niff {Q R : Prop} (q : Q) : if (!false) = true then Q else R := q
end WK
end RR

namespace RR
open PySem PySem.Spec PyProof.Rows L2
def topS (i : Nat) : Stmt := PySem.Challenge.pw_runroots_k03_relations_that_hold.main.body.getD i (.Pass ⟨0, 0, 0, 0⟩)
abbrev s__law_numbers : Stmt := topS 11
theorem st__law_numbers {v0 v1 : V} : L2.start ["script", "many", "numbers", "k", "cell", "j", "mixed"] [v0, v1] = [some v0, some v1, none, none, none, none, none] := rfl
theorem sc__law_numbers : FnScope ["script", "many", "numbers", "k", "cell", "j", "mixed"] ["script", "many"] (defScope s__law_numbers) := ⟨rfl, rfl, rfl, by decide +kernel, rfl, by decide +kernel, by decide +kernel⟩
abbrev s__law_take : Stmt := topS 12
theorem st__law_take {v0 v1 : V} : L2.start ["numbers", "place"] [v0, v1] = [some v0, some v1] := rfl
theorem sc__law_take : FnScope ["numbers", "place"] ["numbers", "place"] (defScope s__law_take) := ⟨rfl, rfl, rfl, by decide +kernel, rfl, by decide +kernel, by decide +kernel⟩
abbrev s__law_member : Stmt := topS 24
theorem st__law_member {v0 v1 : V} : L2.start ["n", "a", "here", "after", "k", "later"] [v0, v1] = [some v0, some v1, none, none, none, none] := rfl
theorem sc__law_member : FnScope ["n", "a", "here", "after", "k", "later"] ["n", "a"] (defScope s__law_member) := ⟨rfl, rfl, rfl, by decide +kernel, rfl, by decide +kernel, by decide +kernel⟩
abbrev s__law_numbers_of : Stmt := topS 26
theorem st__law_numbers_of {v0 v1 v2 : V} : L2.start ["kind", "numbers", "place", "first", "second", "beside", "great", "k", "small", "base", "power", "value", "at"] [v0, v1, v2] = [some v0, some v1, some v2, none, none, none, none, none, none, none, none, none, none] := rfl
theorem sc__law_numbers_of : FnScope ["kind", "numbers", "place", "first", "second", "beside", "great", "k", "small", "base", "power", "value", "at"] ["kind", "numbers", "place"] (defScope s__law_numbers_of) := ⟨rfl, rfl, rfl, by decide +kernel, rfl, by decide +kernel, by decide +kernel⟩
abbrev s_row_member : Stmt := topS 5
theorem st_row_member {v0 v1 : V} : L2.start ["n", "a", "before", "here", "place", "below", "twice"] [v0, v1] = [some v0, some v1, none, none, none, none, none] := rfl
theorem sc_row_member : FnScope ["n", "a", "before", "here", "place", "below", "twice"] ["n", "a"] (defScope s_row_member) := ⟨rfl, rfl, rfl, by decide +kernel, rfl, by decide +kernel, by decide +kernel⟩
abbrev s__holds_row : Stmt := topS 9
theorem st__holds_row {v0 v1 v2 : V} : L2.start ["y", "n", "a"] [v0, v1, v2] = [some v0, some v1, some v2] := rfl
theorem sc__holds_row : FnScope ["y", "n", "a"] ["y", "n", "a"] (defScope s__holds_row) := ⟨rfl, rfl, rfl, by decide +kernel, rfl, by decide +kernel, by decide +kernel⟩
abbrev s_value_of : Stmt := topS 3
theorem st_value_of {v0 v1 : V} : L2.start ["polynomial", "values", "total", "monomial", "number", "term", "name"] [v0, v1] = [some v0, some v1, none, none, none, none, none] := rfl
theorem sc_value_of : FnScope ["polynomial", "values", "total", "monomial", "number", "term", "name"] ["polynomial", "values"] (defScope s_value_of) := ⟨rfl, rfl, rfl, by decide +kernel, rfl, by decide +kernel, by decide +kernel⟩
abbrev s__holds_under : Stmt := topS 7
theorem st__holds_under {v0 v1 : V} : L2.start ["a", "b"] [v0, v1] = [some v0, some v1] := rfl
theorem sc__holds_under : FnScope ["a", "b"] ["a", "b"] (defScope s__holds_under) := ⟨rfl, rfl, rfl, by decide +kernel, rfl, by decide +kernel, by decide +kernel⟩
abbrev s_raised : Stmt := topS 1
theorem st_raised {v0 v1 : V} : L2.start ["base", "exponent", "answer", "place"] [v0, v1] = [some v0, some v1, none, none] := rfl
theorem sc_raised : FnScope ["base", "exponent", "answer", "place"] ["base", "exponent"] (defScope s_raised) := ⟨rfl, rfl, rfl, by decide +kernel, rfl, by decide +kernel, by decide +kernel⟩
abbrev s__holds_power : Stmt := topS 8
theorem st__holds_power {v0 v1 v2 : V} : L2.start ["z", "x", "y"] [v0, v1, v2] = [some v0, some v1, some v2] := rfl
theorem sc__holds_power : FnScope ["z", "x", "y"] ["z", "x", "y"] (defScope s__holds_power) := ⟨rfl, rfl, rfl, by decide +kernel, rfl, by decide +kernel, by decide +kernel⟩
abbrev s_holds : Stmt := topS 6
theorem st_holds {v0 v1 : V} : L2.start ["relation", "values", "word", "numbers", "polynomial"] [v0, v1] = [some v0, some v1, none, none, none] := rfl
theorem sc_holds : FnScope ["relation", "values", "word", "numbers", "polynomial"] ["relation", "values"] (defScope s_holds) := ⟨rfl, rfl, rfl, by decide +kernel, rfl, by decide +kernel, by decide +kernel⟩
abbrev s__law_clean : Stmt := topS 15
theorem st__law_clean {v0 : V} : L2.start ["poly", "found", "key"] [v0] = [some v0, none, none] := rfl
theorem sc__law_clean : FnScope ["poly", "found", "key"] ["poly"] (defScope s__law_clean) := ⟨rfl, rfl, rfl, by decide +kernel, rfl, by decide +kernel, by decide +kernel⟩
abbrev s__law_given : Stmt := topS 22
theorem st__law_given {v0 v1 : V} : L2.start ["value", "number"] [v0, v1] = [some v0, some v1] := rfl
theorem sc__law_given : FnScope ["value", "number"] ["value", "number"] (defScope s__law_given) := ⟨rfl, rfl, rfl, by decide +kernel, rfl, by decide +kernel, by decide +kernel⟩
abbrev s__law_under : Stmt := topS 23
theorem st__law_under {v0 v1 : V} : L2.start ["a", "b", "k"] [v0, v1] = [some v0, some v1, none] := rfl
theorem sc__law_under : FnScope ["a", "b", "k"] ["a", "b"] (defScope s__law_under) := ⟨rfl, rfl, rfl, by decide +kernel, rfl, by decide +kernel, by decide +kernel⟩
abbrev s__law_told : Stmt := topS 25
theorem st__law_told {v0 v1 : V} : L2.start ["kind", "values", "product", "k"] [v0, v1] = [some v0, some v1, none, none] := rfl
theorem sc__law_told : FnScope ["kind", "values", "product", "k"] ["kind", "values"] (defScope s__law_told) := ⟨rfl, rfl, rfl, by decide +kernel, rfl, by decide +kernel, by decide +kernel⟩
abbrev s_law : Stmt := topS 27
theorem st_law {v0 : V} : L2.start ["script", "numbers", "place", "turn", "kind", "values", "at", "polys", "given", "k", "pair", "relation", "actual", "n", "a"] [v0] = [some v0, none, none, none, none, none, none, none, none, none, none, none, none, none, none] := rfl
theorem sc_law : FnScope ["script", "numbers", "place", "turn", "kind", "values", "at", "polys", "given", "k", "pair", "relation", "actual", "n", "a"] ["script"] (defScope s_law) := ⟨rfl, rfl, rfl, by decide +kernel, rfl, by decide +kernel, by decide +kernel⟩
local macro_rules | `(tactic| walk_at "sm") => `(tactic| first
  | assumption
  | exact Sm.lit (k := 64)
  | (refine' Sm.mul ?h1 ?h2; (case h1 => walk_at "sm"); (case h2 => walk_at "sm"))
  | (refine' Sm.ad ?h1 ?h2; (case h1 => walk_at "sm"); (case h2 => walk_at "sm"))
  | (refine' Sm.sb ?h1 ?h2; (case h1 => walk_at "sm"); (case h2 => walk_at "sm"))
  | (refine' Sm.neg ?h1; (case h1 => walk_at "sm"))
  | fail "sm")
local macro_rules | `(tactic| walk_at "rd") => `(tactic| repeat' first
  | (refine ⟨_, rfl, ?_⟩)
  | (refine ⟨_, _, rfl, rfl, ?_⟩)
  | (with_reducible refine tC_go ?_)
  | (with_reducible refine tNil_go ?_)
  | (with_reducible refine tNoPart_go ?_)
  | (with_reducible refine gTup_new (by with_unfolding_all rfl) ?_)
  | (with_reducible refine gTup_as (by first | exact sq_of (by assumption) | with_unfolding_all assumption) (by with_unfolding_all rfl) ?_)
  | (with_reducible refine ixT_new (by with_unfolding_all rfl) ?_)
  | (with_reducible refine ixT_as (by first | exact sq_of (by assumption) | with_unfolding_all assumption) (by with_unfolding_all rfl) ?_)
  | (refine ⟨_, _, (rfl : _ :: _ = _ :: _), ?_⟩)
  | (refine ⟨_, _, _, (rfl : _ :: _ = _ :: _), ?_⟩)
  | (refine ⟨rfl, ?_⟩)
  | (show _ ∧ _; refine And.intro (by omega) ?_)
  | ((with_reducible show CMulX _ _ ∧ _); refine And.intro (Sm.mx (by walk_at "sm") (by walk_at "sm") (by omega)) ?_)
  | ((with_reducible show CPow _ _ ∧ _); refine And.intro ⟨by decide, by decide, by decide⟩ ?_)
  | ((with_reducible show CDivW _ _ ∧ _); refine And.intro ⟨by first | omega | decide, by decide⟩ ?_)
  | (show _ ∧ _; refine And.intro (by assumption) ?_)
  | (show _ ∧ _; refine And.intro (Nat.le_of_ble_eq_true rfl) ?_)
  | ((with_reducible show tyV _ "list" _ _ ∧ _); refine And.intro (.inl ⟨rfl, _, .inl (.inl (by assumption))⟩) ?_)
  | fail "rd")
local macro_rules | `(tactic| walk_at "wk") => `(tactic| repeat' first
  | (with_reducible refine WK.op ?_)
  | (with_reducible refine WK.un ?_)
  | (with_reducible refine WK.rU_ ?_)
  | (with_reducible refine WK.i0 ?_)
  | (with_reducible refine WK.nil ?_)
  | (with_reducible refine WK.cons ?_)
  | (with_reducible refine WK.cst ?_)
  | (with_reducible refine WK.nopart ?_)
  | (with_reducible refine WK.part ?_)
  | (with_reducible refine WK.part2 ?_)
  | (with_reducible refine WK.nxt ?_)
  | (with_reducible refine WK.seq ?_)
  | (with_reducible refine WK.drop ?_)
  | (with_reducible refine WK.ret ?_)
  | (with_reducible refine WK.retN ?_)
  | (with_reducible refine WK.brk ?_)
  | (with_reducible refine WK.cnt ?_)
  | (with_reducible refine WK.ifs ?_)
  | (with_reducible refine WK.asg ?_)
  | (with_reducible refine WK.test ?_)
  | (with_reducible refine WK.tb ?_)
  | (with_reducible refine WK.bl ?_)
  | (with_reducible refine WK.blif ?_)
  | (with_reducible refine WK.ift ?_)
  | (with_reducible refine WK.iff ?_)
  | (with_reducible refine WK.nift ?_)
  | (with_reducible refine WK.niff ?_)
  | (with_reducible refine WK.and_ ?_)
  | (with_reducible refine WK.or_ ?_)
  | (with_reducible refine WK.not_ ?_)
  | (with_reducible refine WK.andv ?_)
  | (with_reducible refine WK.orv ?_)
  | (with_reducible refine WK.notv ?_)
  | (with_reducible refine WK.notv2 ?_)
  | (with_reducible refine WK.chain ?_)
  | (with_reducible refine WK.if_ ?_)
  | (with_reducible refine WK.yes ?_)
  | (with_reducible refine WK.bm0 ?_)
  | (with_reducible refine WK.bm ?_)
  | (with_reducible refine WK.sl ?_)
  | (with_reducible refine WK.cal ?_)
  | (with_reducible refine WK.cb ?_)
  | (with_reducible refine WK.gnil ?_)
  | (with_reducible refine WK.gcons ?_)
  | (with_reducible refine WK.gsub ?_)
  | (with_reducible refine WK.rng1 ?_)
  | (with_reducible refine WK.rng1b ?_)
  | (with_reducible refine WK.zip_ ?_)
  | (with_reducible refine WK.ilist ?_)
  | (with_reducible refine WK.itup ?_)
  | (with_reducible refine WK.lc ?_)
  | (with_reducible refine WK.eq_i ?_)
  | (with_reducible refine WK.ne_i ?_)
  | (with_reducible refine WK.tup ?_)
  | (with_reducible refine WK.lst ?_)
  | (with_reducible refine WK.par ?_)
  | (with_reducible refine WK.par2 ?_)
  | (with_reducible refine WK.for_ ?_)
  | (with_reducible refine WK.aug ?_)
  | (with_reducible refine WK.ex1 ?_)
  | (with_reducible refine WK.exI ?_)
  | (with_reducible refine WK.exB ?_)
  | (with_reducible show CMulX _ _); exact Sm.mx (by walk_at "sm") (by walk_at "sm") (by omega)
  | (with_reducible refine WK.tV0 ?_)
  | (with_reducible refine WK.tV1 ?_)
  | (with_reducible refine WK.tV2 ?_)
  | (with_reducible refine WK.tV3 ?_)
  | (with_reducible refine WK.tV4 ?_)
  | (with_reducible refine WK.tV5 ?_)
  | (with_reducible refine WK.tV6 ?_)
  | (with_reducible refine WK.tV7 ?_)
  | (with_reducible refine WK.tV8 ?_)
  | (with_reducible refine WK.tV9 ?_)
  | (with_reducible refine WK.tV10 ?_)
  | (with_reducible refine WK.tV11 ?_)
  | (with_reducible refine WK.tV12 ?_)
  | (with_reducible refine WK.tV13 ?_)
  | (with_reducible refine WK.tV14 ?_)
  | (with_reducible refine WK.tV15 ?_)
  | (with_reducible refine WK.tV16 ?_)
  | (with_reducible refine WK.tV17 ?_)
  | (with_reducible refine WK.tV18 ?_)
  | (with_reducible refine WK.tV19 ?_)
  | (with_reducible refine WK.tV20 ?_)
  | (with_reducible refine WK.tV21 ?_)
  | (with_reducible refine WK.tV22 ?_)
  | (with_reducible refine WK.tV23 ?_)
  | (with_reducible refine WK.tV24 ?_)
  | (with_reducible refine WK.tV25 ?_)
  | (with_reducible refine WK.tV26 ?_)
  | (with_reducible refine WK.tV27 ?_)
  | (with_reducible refine WK.tV28 ?_)
  | (with_reducible refine WK.tV29 ?_)
  | (with_reducible refine WK.gN0 ?_)
  | (with_reducible refine WK.gN1 ?_)
  | (with_reducible refine WK.gN2 ?_)
  | (with_reducible refine WK.gN3 ?_)
  | (with_reducible refine WK.gN4 ?_)
  | (with_reducible refine WK.gN5 ?_)
  | (with_reducible refine WK.gN6 ?_)
  | (with_reducible refine WK.gN7 ?_)
  | (with_reducible refine WK.gN8 ?_)
  | (with_reducible refine WK.gN9 ?_)
  | (with_reducible refine WK.gN10 ?_)
  | (with_reducible refine WK.gN11 ?_)
  | (with_reducible refine WK.gN12 ?_)
  | (with_reducible refine WK.gN13 ?_)
  | (with_reducible refine WK.gN14 ?_)
  | (with_reducible refine WK.gN15 ?_)
  | (with_reducible refine WK.gN16 ?_)
  | (with_reducible refine WK.gN17 ?_)
  | (with_reducible refine WK.gN18 ?_)
  | (with_reducible refine WK.gN19 ?_)
  | (with_reducible refine WK.gN20 ?_)
  | (with_reducible refine WK.gN21 ?_)
  | (with_reducible refine WK.gN22 ?_)
  | (with_reducible refine WK.gN23 ?_)
  | (with_reducible refine WK.gN24 ?_)
  | (with_reducible refine WK.gN25 ?_)
  | (with_reducible refine WK.gN26 ?_)
  | (with_reducible refine WK.gN27 ?_)
  | (with_reducible refine WK.gN28 ?_)
  | (with_reducible refine WK.gN29 ?_)
  | (with_reducible refine gTup_new (by with_unfolding_all rfl) ?_)
  | (with_reducible refine gTup_as (by first | exact sq_of (by assumption) | with_unfolding_all assumption) (by with_unfolding_all rfl) ?_)
  | (with_reducible refine ixT_new (by with_unfolding_all rfl) ?_)
  | (with_reducible refine ixT_as (by first | exact sq_of (by assumption) | with_unfolding_all assumption) (by with_unfolding_all rfl) ?_)
  | ((with_reducible refine WK.i1 ?hc ?_); (case hc => (with_reducible show CMulX _ _); exact Sm.mx (by walk_at "sm") (by walk_at "sm") (by omega)))
  | ((with_reducible refine WK.i1 ?hc ?_); (case hc => omega))
  | ((with_reducible refine WK.i1 ?hc ?_); (case hc => (with_reducible show CPow _ _); exact ⟨by decide, by decide, by decide⟩))
  | ((with_reducible refine WK.i1 ?hc ?_); (case hc => (with_reducible show CDivW _ _); exact ⟨by first | omega | decide, by decide⟩))
  | ((with_reducible show List.length _ ≤ sizeLine ∧ _); refine And.intro (Nat.le_of_ble_eq_true rfl) ?_)
  | ((with_reducible show tyV _ "list" _ _ ∧ _); refine And.intro (.inl ⟨rfl, _, .inl (.inl (by assumption))⟩) ?_)
  | ((with_reducible show _ ∧ _); refine And.intro (by omega) ?_)
  | (with_reducible refine ixL_at (by assumption) (by with_unfolding_all rfl) ?_)
  | fail "wk")
local macro_rules | `(tactic| walk_at "sm") => `(tactic| first
  | exact Sm.md (by decide) (by decide)
  | exact Sm.ix (by assumption) (by omega)
  | fail "sm3")

section
variable {P : Program} {w : World} {K : PySem.W.Frag} {mg : Str → Option Value} {base : Heap}
def sp__law_numbers (K : PySem.W.Frag) : Sp := fun vs H Q _ => ∃ (a : Addr) (ns : List Int) (many : Nat), vs = [.ref a, .int many] ∧ SqL K H a (ns.map V.int) ∧ ns.length ≤ 63 ∧ many ≤ 1000 ∧
  ∀ H' D (ds : List Nat), Same H H' → H D = none → H' D = some (.lst (toV ds)) → ds.length ≤ many → (∀ d ∈ ds, d < 1000) → Q (.ref D) H'
theorem ok__law_numbers {f : Addr} {fd : FuncData} (F : Fun K "_law_numbers" "_law_numbers" s__law_numbers f fd) (m_range : mg "range" = none) (m_len : mg "len" = none) (m_abs : mg "abs" = none) (m_int : mg "int" = none) : FnOk P w K mg base CX0 1 f fd ["script", "many"] (sp__law_numbers K) := by
  refine F.ok sc__law_numbers (fun vs H Q E h => ?_) (fun cdv A outer s H vs Q E hr h => ?_)
  · obtain ⟨a, ns, many, rfl, _⟩ := h
    rfl
  · obtain ⟨a, ns, many, rfl, hS, hn, hm, q⟩ := h
    refine ⟨_, (pss_cons (ps_set (i := 2) sc__law_numbers.nd rfl (.inl rfl) (pe_lst pa_nil))
      (pss_cons (ps_for PassesOwn.never rfl (pi_range1 (by rfl) m_range (pa_cons (pe_callB call_len_seq (by rfl) m_len (by decide +kernel) (pa_cons (pv 0) pa_nil)) pa_nil)) (pg_name (i := 3) sc__law_numbers.nd rfl (.inl rfl)) (pss_cons (ps_set (i := 4) sc__law_numbers.nd rfl (.inl rfl) (pe_callB call_abs (by rfl) m_abs (by decide +kernel) (pa_cons (pe_ix ix_list (pv 0) (pv 3) (fun _ _ => rfl)) pa_nil)))
      (pss_one (ps_if (pt_cmpR op_ge (pv 4) (pe_op op_pow pe_int pe_int) (nomark _)) (pss_one (ps_for PassesOwn.never rfl (pi_range1 (by rfl) m_range (pa_cons pe_int pa_nil)) (pg_name (i := 5) sc__law_numbers.nd rfl (.inl rfl)) (pss_one (ps_if (PW.pt (pw_and (pt_cmpR op_gt (pv 4) pe_int (nomark _)) (pw_and1 (pt_cmpR op_lt (pe_callB call_len_seq (by rfl) m_len (by decide +kernel) (pa_cons (pv 2) pa_nil)) (pv 1) (nomark _))))) (pss_cons (ps_expr (pe_bm PySem.F.plainAttrs_list PySem.F.slot_list_append PySem.F.type_list_append mt_append (pv 2) (pa_cons (pe_op op_mod (pv 4) pe_int) pa_nil)))
      (pss_one (ps_set (i := 4) sc__law_numbers.nd rfl (.inl rfl) (pe_op op_fdivW (pv 4) pe_int)))) pss_nil)))) (pss_one (ps_for PassesOwn.never rfl (pi_range1 (by rfl) m_range (pa_cons pe_int pa_nil)) (pg_name (i := 5) sc__law_numbers.nd rfl (.inl rfl)) (pss_cons (ps_set (i := 6) sc__law_numbers.nd rfl (.inl rfl) (pe_op op_mod (pe_callTy call_intI (by rfl) m_int (by decide +kernel) (pa_cons (pe_op op_add (pe_op op_add (pe_op op_add (pe_op op_mulX (pv 4) pe_int) (pe_op op_mulX (pv 3) pe_int)) (pe_op op_mulX (pv 5) pe_int)) pe_int) pa_nil)) pe_int))
      (pss_cons (ps_set (i := 6) sc__law_numbers.nd rfl (.inl rfl) (pe_op op_mod (pe_callTy call_intI (by rfl) m_int (by decide +kernel) (pa_cons (pe_op op_add (pe_op op_mulX (pv 6) (pv 6)) (pv 5)) pa_nil)) pe_int))
      (pss_one (ps_expr (pe_bm PySem.F.plainAttrs_list PySem.F.slot_list_append PySem.F.type_list_append mt_append (pv 2) (pa_cons (pe_op op_mod (pe_op op_fdivW (pv 6) pe_int) pe_int) pa_nil))))))))))))
      (pss_one (ps_ret (pe_slice sl_list (pv 2) po_none (po_some (pv 1))))))), ?_⟩
    rw [st__law_numbers]
    walk_at "wk"
    intro D nD
    have hD0 : NL (upd H D (.lst [])) D [] := ⟨upd_same, fun d hd => (List.not_mem_nil hd).elim⟩
    have s0 := same_upd (o := .lst []) nD
    generalize upd H D (.lst []) = H1 at hD0 s0 ⊢
    walk_at "wk"
    refine ⟨a, _, rfl, .inl (s0.seq hS), ?_⟩
    walk_at "wk"
    rw [List.length_map, Int.toNat_natCast]
    walk_at "wk"
    have h18 : (10 : Int) ^ (18 : Int).toNat = 1000000000000000000 := by decide +kernel
    refine for_rng (n := ns.length) (fun i σ' H' => ∃ (ds : List Nat) (c3 c4 c5 c6 : Option V), σ' = [some (.ref a), some (.int many), some (.ref D), c3, c4, c5, c6] ∧ NL H' D ds ∧ ds.length ≤ 60 * i ∧ Same H H') ?_ ?_ ?_
    · exact ⟨[], none, none, none, none, rfl, hD0, Nat.zero_le _, s0⟩
    · rintro i σ' H2 hi ⟨ds, c3, c4, c5, c6, rfl, hD, hl, s2⟩
      have si : Sm 64 (i : Int) := Sm.ix hi (by omega)
      walk_at "wk"
      refine ⟨a, _, (i : Int), .int ns[i], rfl, rfl, s2.seq hS, atI_nat (by rw [List.getElem?_map, List.getElem?_eq_getElem hi]; rfl), ?_⟩
      walk_at "wk"
      generalize ns[i] = z
      obtain ⟨nu, enu⟩ : ∃ nu : Int, nu = (if z < 0 then -z else z) := ⟨_, rfl⟩
      have hnu : 0 ≤ nu := by rw [enu]; split <;> omega
      rw [← enu]
      refine ite2 (fun e => ?_) (fun e => ?_)
      · walk_at "wk"
        refine for_rng (n := 60) (fun k σ' H' => ∃ (ds : List Nat) (w : Int) (c5 c6 : Option V), σ' = [some (.ref a), some (.int many), some (.ref D), some (.int i), some (.int w), c5, c6] ∧ 0 ≤ w ∧ NL H' D ds ∧ ds.length ≤ 60 * i + k ∧ Same H H') ?_ ?_ ?_
        · exact ⟨ds, nu, _, _, rfl, hnu, hD, hl, s2⟩
        · rintro k σ' H3 hk ⟨ds, w', c5, c6, rfl, hw, hD, hl, s3⟩
          walk_at "wk"
          refine ite2 (fun e2 => ?_) (fun e2 => ?_)
          · walk_at "wk"
            refine ⟨D, _, rfl, .inl (.inl (.inl hD.1)), ?_⟩
            walk_at "wk"
            refine ite2 (fun e3 => ?_) (fun e3 => ?_)
            · have hDl := hD.1
              walk_at "wk"
              refine app_go hD.1 (by unfold toV; rw [List.length_map]; exact sz_lt (by omega)) ?_
              walk_at "wk"
              refine ⟨_, w' / 1000, _, _, rfl, by omega, hD.push (by omega) (by omega), by rw [List.length_append]; show ds.length + 1 ≤ _; omega, Same.new s3 nD⟩
            · exact ⟨ds, w', _, _, rfl, hw, hD, by omega, s3⟩
          · exact ⟨ds, w', _, _, rfl, hw, hD, by omega, s3⟩
        · rintro σ' H3 ⟨ds, w', c5, c6, rfl, hw, hD, hl, s3⟩
          exact ⟨ds, _, _, _, _, rfl, hD, by omega, s3⟩
      · have hlt : nu < 1000000000000000000 := by
          have : ¬ (10 : Int) ^ (18 : Int).toNat ≤ nu := fun l => e (decide_eq_true l)
          rw [h18] at this
          omega
        have snu : Sm 64 nu := Sm.le (y := 1000000000000000000) (Sm.lit (k := 64)) hnu (by omega)
        walk_at "wk"
        refine for_rng (n := 5) (fun k σ' H' => ∃ (ds : List Nat) (c5 c6 : Option V), σ' = [some (.ref a), some (.int many), some (.ref D), some (.int i), some (.int nu), c5, c6] ∧ NL H' D ds ∧ ds.length ≤ 60 * i + k ∧ Same H H') ?_ ?_ ?_
        · exact ⟨ds, _, _, rfl, hD, hl, s2⟩
        · rintro k σ' H3 hk ⟨ds, c5, c6, rfl, hD, hl, s3⟩
          have sk : Sm 64 (k : Int) := Sm.ix hk (by omega)
          walk_at "wk"
          generalize (nu * 48271 + (i : Int) * 69621 + (k : Int) * 16807 + 11) % 2147483647 = mx
          refine ⟨.inl ⟨rfl, _, .inl (.inl hD.1)⟩, ?_⟩
          walk_at "wk"
          generalize mx * mx + (k : Int) = my
          refine app_go hD.1 (by unfold toV; rw [List.length_map]; exact sz_lt (by omega)) ?_
          exact ⟨_, _, _, rfl, hD.push (by omega) (by omega), by rw [List.length_append]; show ds.length + 1 ≤ _; omega, Same.new s3 nD⟩
        · rintro σ' H3 ⟨ds, c5, c6, rfl, hD, hl, s3⟩
          exact ⟨ds, _, _, _, _, rfl, hD, by omega, s3⟩
    · rintro σ' H2 ⟨ds, c3, c4, c5, c6, rfl, hD, hl, s2⟩
      walk_at "wk"
      refine ⟨D, _, rfl, .inl (.inl hD.1), fun p np => ?_⟩
      have ec : cutV (toV ds) none (some (many : Int)) = toV (ds.take many) := by
        unfold cutV toV
        rw [HT.sIx_none, HT.sIx_nat, List.drop_zero, Nat.sub_zero, List.length_map, List.map_take]
        by_cases h : many ≤ ds.length
        · rw [Nat.min_eq_left h]
        · rw [Nat.min_eq_right (by omega), List.take_of_length_le (by rw [List.length_map]; exact Nat.le_refl _), List.take_of_length_le (by rw [List.length_map]; omega)]
      rw [ec]
      exact q _ p (ds.take many) (s2.trans (same_upd np)) (s2.free np) upd_same (by rw [List.length_take]; omega) (fun d hx => hD.2 d (List.mem_of_mem_take hx))

def sp__law_take (K : PySem.W.Frag) : Sp := fun vs H Q _ => ∃ (l p : Addr) (ns : List Nat), vs = [.ref l, .ref p] ∧ TK H l p ns ∧ ∀ (n : Nat) (H' : Hp), n < 1000 → TK H' l p ns → Ex p H H' → Q (.int n) H'
theorem ok__law_take {f : Addr} {fd : FuncData} (F : Fun K "_law_take" "_law_take" s__law_take f fd) (m_len : mg "len" = none) : FnOk P w K mg base CX0 1 f fd ["numbers", "place"] (sp__law_take K) := by
  refine F.ok sc__law_take (fun vs H Q E h => ?_) (fun cdv A outer s H vs Q E hr h => ?_)
  · obtain ⟨l, p, ns, rfl, _⟩ := h
    rfl
  · obtain ⟨l, p, ns, rfl, ⟨hl, lp, ln, ⟨i, hp⟩, lt⟩, q'⟩ := h
    have q : Q (.int (ns.getD i 0 : Nat)) (upd H p (.lst [.int (if i < ns.length then i + 1 else i : Nat)])) := by
      refine q' _ _ ?_ ⟨by rw [upd_ne lp]; exact hl, lp, ln, ⟨_, upd_same⟩, lt⟩ (fun b o n e => by rw [upd_ne n]; exact e)
      rw [List.getD_eq_getElem?_getD]
      cases e : ns[i]? with
      | none => exact (by decide : 0 < 1000)
      | some n => exact lt n (List.mem_of_getElem? e)
    refine ⟨_, (pss_cons (ps_if (pt_cmpR op_lt (pe_ix ix_list (pv 1) pe_int (fun _ _ => rfl)) (pe_callB call_len_seq (by rfl) m_len (by decide +kernel) (pa_cons (pv 0) pa_nil)) (nomark _)) (pss_cons (ps_asg (pe_op op_add (pe_ix ix_list (pv 1) pe_int (fun _ _ => rfl)) pe_int) (pg_sub (pv 1) pe_int set_list))
      (pss_one (ps_ret (pe_ix ix_list (pv 0) (pe_op op_sub (pe_ix ix_list (pv 1) pe_int (fun _ _ => rfl)) pe_int) (fun _ _ => rfl))))) pss_nil)
      (pss_one (ps_ret pe_int))), ?_⟩
    rw [st__law_take]
    walk_at "wk"
    refine ⟨l, _, rfl, .inl (.inl (.inl hl)), ?_⟩
    rw [show (toV ns).length = ns.length by unfold toV; rw [List.length_map]]
    walk_at "wk"
    by_cases e : i < ns.length
    · rw [if_pos e] at q
      refine ite2 (fun _ => ?_) (fun z => absurd (decide_eq_true (by exact_mod_cast e)) z)
      walk_at "wk"
      refine ⟨p, _, 0, 0, rfl, rfl, hp, rfl, ?_⟩
      have hp1 : (upd H p (.lst [.int ((i : Int) + 1)])) p = some (.lst [.int ((i : Int) + 1)]) := upd_same
      have hl1 : (upd H p (.lst [.int ((i : Int) + 1)])) l = some (.lst (toV ns)) := by rw [upd_ne lp]; exact hl
      rw [show ((i + 1 : Nat) : Int) = (i : Int) + 1 by omega] at q
      dsimp only [List.set]
      generalize upd H p (.lst [.int ((i : Int) + 1)]) = H1 at hp1 hl1 q ⊢
      walk_at "wk"
      refine ⟨l, _, (i : Int), .int (ns.getD i 0 : Nat), rfl, by congr 1; omega, .inl (.inl hl1), atI_nat ?_, q⟩
      unfold toV
      rw [List.getElem?_map, List.getD_eq_getElem?_getD, List.getElem?_eq_getElem e]
      rfl
    · rw [if_neg e] at q
      refine ite2 (fun z => absurd (of_decide_eq_true z) (by omega)) (fun _ => ?_)
      walk_at "wk"
      have e2 : ns.getD i 0 = 0 := by
        rw [List.getD_eq_getElem?_getD, List.getElem?_eq_none (by omega)]
        rfl
      have e3 : upd H p (.lst [.int (i : Nat)]) = H := by
        funext b
        by_cases hb : b = p
        · subst hb
          rw [upd_same, hp]
        · rw [upd_ne hb]
      rw [e2, e3] at q
      exact q

def OkR (k : Nat) (vs : List Int) : Prop := (k = 0 ∧ ∃ z, vs = [z] ∧ Sm 2900 z) ∨ (k = 1 ∧ ∃ a b, vs = [a, b] ∧ Sm 2900 a ∧ Sm 2900 b) ∨ (k = 2 ∧ ∃ z x y, vs = [z, x, y] ∧ Sm 4100 z ∧ Sm 10 x ∧ Sm 200 y ∧ (600 < y → Sm 64 z)) ∨
  (k = 3 ∧ ∃ y n a, vs = [y, n, a] ∧ Sm 2900 y ∧ Sm 200 n ∧ Sm 10 a ∧ (300 ≤ n → Sm 64 y))
theorem OkR.len {k : Nat} {vs : List Int} (h : OkR k vs) : 1 ≤ vs.length ∧ vs.length ≤ 3 := by
  rcases h with ⟨_, z, rfl, _⟩ | ⟨_, a, b, rfl, _⟩ | ⟨_, z, x, y, rfl, _⟩ | ⟨_, y, n, a, rfl, _⟩ <;> exact ⟨by simp, by simp⟩
def sp__law_member (K : PySem.W.Frag) : Sp := fun vs H Q _ => ∃ (n : Nat) (a : Int), vs = [.int n, .int a] ∧ n ≤ 1000 ∧ Sm 10 a ∧ Q (.int (ry a n)) H
theorem ok__law_member {f : Addr} {fd : FuncData} (F : Fun K "_law_member" "_law_member" s__law_member f fd) (m_range : mg "range" = none) : FnOk P w K mg base CX0 1 f fd ["n", "a"] (sp__law_member K) := by
  refine F.ok sc__law_member (fun vs H Q E h => ?_) (fun cdv A outer s H vs Q E hr h => ?_)
  · obtain ⟨n, a, rfl, _⟩ := h
    rfl
  · obtain ⟨n, a, rfl, hn, ha, q⟩ := h
    refine ⟨_, (pss_cons (ps_set (i := 2) sc__law_member.nd rfl (.inl rfl) pe_int)
      (pss_cons (ps_set (i := 3) sc__law_member.nd rfl (.inl rfl) pe_int)
      (pss_cons (ps_for PassesOwn.never rfl (pi_range1 (by rfl) m_range (pa_cons (pv 0) pa_nil)) (pg_name (i := 4) sc__law_member.nd rfl (.inl rfl)) (pss_cons (ps_set (i := 5) sc__law_member.nd rfl (.inl rfl) (pe_op op_sub (pe_op op_mulX (pe_op op_mulX pe_int (pv 1)) (pv 3)) (pv 2)))
      (pss_cons (ps_set (i := 2) sc__law_member.nd rfl (.inl rfl) (pv 3))
      (pss_one (ps_set (i := 3) sc__law_member.nd rfl (.inl rfl) (pv 5))))))
      (pss_one (ps_ret (pv 2)))))), ?_⟩
    rw [st__law_member]
    refine ⟨_, rfl, (n : Int), rfl, by omega, by omega, ?_⟩
    rw [Int.toNat_natCast]
    refine for_rng (n := n) (fun k σ' H' => ∃ c4 c5 : Option V, σ' = [some (.int n), some (.int a), some (.int (ry a k)), some (.int (ry a (k + 1))), c4, c5] ∧ H' = H) ?_ ?_ ?_
    · exact ⟨none, none, rfl, rfl⟩
    · rintro k σ' H' hk ⟨c4, c5, rfl, rfl⟩
      have s2 : Sm (12 * (k + 1) + 1) (ry a (k + 1)) := (ry_sm ha k).2
      refine ⟨_, rfl, _, _, rfl, rfl, Sm.mx (Sm.lit (k := 64)) ha (by decide), _, rfl, _, _, rfl, rfl, Sm.mx (Sm.mul (Sm.lit (k := 64)) ha) s2 (by omega), _, rfl, _, _, rfl, rfl, ?_⟩
      exact ⟨_, rfl, _, rfl, _, _, rfl, rfl⟩
    · rintro σ' H' ⟨c4, c5, rfl, rfl⟩
      exact ⟨_, rfl, q⟩

theorem OkR.three {z x y : Int} (sz : Sm 4100 z) (sx : Sm 10 x) (sy : Sm 200 y) (g : 600 < y → Sm 64 z) : OkR 2 [z, x, y] := .inr (.inr (.inl ⟨rfl, z, x, y, rfl, sz, sx, sy, g⟩))
theorem OkR.row {y n a : Int} (sy : Sm 2900 y) (sn : Sm 200 n) (sa : Sm 10 a) (g : 300 ≤ n → Sm 64 y) : OkR 3 [y, n, a] := .inr (.inr (.inr ⟨rfl, y, n, a, rfl, sy, sn, sa, g⟩))
theorem sm_of {k : Nat} {z : Int} (h : (2 : Int) ^ k > z) (g : -(2 : Int) ^ k < z) : Sm k z := by
  unfold Sm
  have e : ((2 ^ k : Nat) : Int) = (2 : Int) ^ k := by push_cast; rfl
  rw [← e] at h g
  omega
theorem sm_nat {n : Nat} (h : n < 1000) : Sm 10 (n : Int) := by
  unfold Sm
  rw [Int.natAbs_natCast]
  omega
theorem sm_small {z : Int} (h : z < 1024) (g : -1024 < z) : Sm 10 z := by
  unfold Sm
  omega
def sp__law_numbers_of (K : PySem.W.Frag) : Sp := fun vs H Q _ => ∃ (k : Nat) (l p : Addr) (ns : List Nat), vs = [.int k, .ref l, .ref p] ∧ k < 4 ∧ TK H l p ns ∧
  ∀ (r : Addr) (zs : List Int) (H' : Hp), TK H' l p ns → Ex p H H' → H r = none → H' r = some (.lst (zs.map V.int)) → OkR k zs → Q (.ref r) H'
theorem ok__law_numbers_of {f : Addr} {fd : FuncData} (F : Fun K "_law_numbers_of" "_law_numbers_of" s__law_numbers_of f fd) (C__law_take : Cal P w K mg base "_law_take" 1 ["numbers", "place"] (sp__law_take K)) (C__law_member : Cal P w K mg base "_law_member" 1 ["n", "a"] (sp__law_member K)) (m_range : mg "range" = none) : FnOk P w K mg base CX0 2 f fd ["kind", "numbers", "place"] (sp__law_numbers_of K) := by
  refine F.ok sc__law_numbers_of (fun vs H Q E h => ?_) (fun cdv A outer s H vs Q E hr h => ?_)
  · obtain ⟨k, l, p, ns, rfl, _⟩ := h
    rfl
  · obtain ⟨k, l, p, ns, rfl, hk, T0, q⟩ := h
    refine ⟨_, (pss_cons (ps_set (i := 3) sc__law_numbers_of.nd rfl (.inl rfl) (pe_cal C__law_take hr (by rfl) (pa_cons (pv 1) (pa_cons (pv 2) pa_nil))))
      (pss_cons (ps_set (i := 4) sc__law_numbers_of.nd rfl (.inl rfl) (pe_cal C__law_take hr (by rfl) (pa_cons (pv 1) (pa_cons (pv 2) pa_nil))))
      (pss_cons (ps_set (i := 5) sc__law_numbers_of.nd rfl (.inl rfl) (pe_ix ix_tup (pe_tup (pa_cons pe_int (pa_cons pe_int (pa_cons pe_int (pa_cons pe_int (pa_cons (pe_un un_neg pe_int) (pa_cons pe_int pa_nil))))))) (pe_op op_mod (pe_cal C__law_take hr (by rfl) (pa_cons (pv 1) (pa_cons (pv 2) pa_nil))) pe_int) (fun _ _ => rfl)))
      (pss_cons (ps_if (pt_cmpR op_eq (pv 0) pe_int (nomark _)) (pss_one (ps_ret (pe_lst (pa_cons (pe_ix ix_tup (pe_tup (pa_cons pe_int (pa_cons pe_int (pa_cons pe_int (pa_cons (pe_un un_neg pe_int) (pa_cons (pv 3) pa_nil)))))) (pe_op op_mod (pv 4) pe_int) (fun _ _ => rfl)) pa_nil)))) pss_nil)
      (pss_cons (ps_if (pt_cmpR op_eq (pv 0) pe_int (nomark _)) (pss_cons (ps_set (i := 6) sc__law_numbers_of.nd rfl (.inl rfl) (pe_op op_add (pe_op op_mulX (pv 3) pe_int) (pv 4)))
      (pss_cons (ps_if (pt_cmpR op_eq (pe_op op_mod (pv 4) pe_int) pe_int (nomark _)) (pss_one (ps_for PassesOwn.never rfl (pi_range1 (by rfl) m_range (pa_cons pe_int pa_nil)) (pg_name (i := 7) sc__law_numbers_of.nd rfl (.inl rfl)) (pss_one (ps_set (i := 6) sc__law_numbers_of.nd rfl (.inl rfl) (pe_op op_add (pe_op op_add (pe_op op_mulX (pv 6) pe_int) (pv 4)) (pv 7)))))) pss_nil)
      (pss_cons (ps_set (i := 8) sc__law_numbers_of.nd rfl (.inl rfl) (pe_ix ix_list (pe_lst (pa_cons (pv 6) (pa_cons (pe_op op_fdivW (pv 6) pe_int) (pa_cons (pe_op op_mulX (pv 3) pe_int) (pa_cons (pe_op op_mod (pv 4) pe_int) (pa_cons (pe_un un_neg pe_int) (pa_cons (pe_op op_add (pv 6) pe_int) (pa_cons (pe_op op_sub (pe_op op_fdivW (pv 6) pe_int) (pe_op op_fdivW (pv 6) pe_int)) pa_nil)))))))) (pe_op op_mod (pe_cal C__law_take hr (by rfl) (pa_cons (pv 1) (pa_cons (pv 2) pa_nil))) pe_int) (fun _ _ => rfl)))
      (pss_one (ps_ret (pe_lst (pa_cons (pv 8) (pa_cons (pe_ix ix_tup (pe_tup (pa_cons (pv 6) (pa_cons (pv 6) (pa_cons pe_int (pa_cons (pe_un un_neg pe_int) (pa_cons (pe_op op_sub (pe_op op_pow pe_int pe_int) pe_int) pa_nil)))))) (pe_op op_mod (pe_op op_fdivW (pv 4) pe_int) pe_int) (fun _ _ => rfl)) pa_nil)))))))) pss_nil)
      (pss_cons (ps_if (pt_cmpR op_eq (pv 0) pe_int (nomark _)) (pss_cons (ps_set (i := 9) sc__law_numbers_of.nd rfl (.inl rfl) (pe_ix ix_tup (pe_tup (pa_cons pe_int (pa_cons pe_int (pa_cons pe_int (pa_cons pe_int (pa_cons (pv 3) (pa_cons pe_int (pa_cons (pe_un un_neg pe_int) pa_nil)))))))) (pe_op op_mod (pe_op op_fdivW (pv 3) pe_int) pe_int) (fun _ _ => rfl)))
      (pss_cons (ps_set (i := 10) sc__law_numbers_of.nd rfl (.inl rfl) (pe_ix ix_tup (pe_tup (pa_cons pe_int (pa_cons pe_int (pa_cons pe_int (pa_cons pe_int (pa_cons (pe_op op_mod (pv 4) pe_int) (pa_cons (pe_op op_add pe_int (pe_op op_mod (pv 4) pe_int)) (pa_cons (pe_op op_pow pe_int pe_int) (pa_cons (pe_un un_neg pe_int) pa_nil))))))))) (pe_op op_mod (pe_op op_fdivW (pv 4) pe_int) pe_int) (fun _ _ => rfl)))
      (pss_cons (ps_set (i := 11) sc__law_numbers_of.nd rfl (.inl rfl) (pv 3))
      (pss_cons (ps_if (PW.pt (pw_and (pt_cmpR op_lt (pv 10) pe_int (nomark _)) (pw_and1 (pt_cmpR op_ge (pv 10) pe_int (nomark _))))) (pss_cons (ps_set (i := 11) sc__law_numbers_of.nd rfl (.inl rfl) pe_int)
      (pss_one (ps_for PassesOwn.never rfl (pi_range1 (by rfl) m_range (pa_cons (pv 10) pa_nil)) (pg_name (i := 7) sc__law_numbers_of.nd rfl (.inl rfl)) (pss_one (ps_set (i := 11) sc__law_numbers_of.nd rfl (.inl rfl) (pe_op op_mulX (pv 11) (pv 9))))))) pss_nil)
      (pss_one (ps_ret (pe_lst (pa_cons (pe_op op_add (pv 11) (pv 5)) (pa_cons (pv 9) (pa_cons (pv 10) pa_nil)))))))))) pss_nil)
      (pss_cons (ps_set (i := 9) sc__law_numbers_of.nd rfl (.inl rfl) (pe_ix ix_tup (pe_tup (pa_cons pe_int (pa_cons pe_int (pa_cons pe_int (pa_cons (pv 3) (pa_cons pe_int (pa_cons pe_int pa_nil))))))) (pe_op op_mod (pe_op op_fdivW (pv 3) pe_int) pe_int) (fun _ _ => rfl)))
      (pss_cons (ps_set (i := 12) sc__law_numbers_of.nd rfl (.inl rfl) (pe_ix ix_tup (pe_tup (pa_cons pe_int (pa_cons pe_int (pa_cons pe_int (pa_cons pe_int (pa_cons (pe_op op_mod (pv 4) pe_int) (pa_cons (pe_op op_add pe_int (pe_op op_mod (pv 4) pe_int)) (pa_cons (pe_op op_pow pe_int pe_int) (pa_cons (pe_un un_neg pe_int) pa_nil))))))))) (pe_op op_mod (pe_op op_fdivW (pv 4) pe_int) pe_int) (fun _ _ => rfl)))
      (pss_cons (ps_set (i := 11) sc__law_numbers_of.nd rfl (.inl rfl) (pv 4))
      (pss_cons (ps_if (pt_chain op_le op_lt pe_int (pv 12) pe_int) (pss_one (ps_set (i := 11) sc__law_numbers_of.nd rfl (.inl rfl) (pe_cal C__law_member hr (by rfl) (pa_cons (pv 12) (pa_cons (pv 9) pa_nil))))) pss_nil)
      (pss_one (ps_ret (pe_lst (pa_cons (pe_op op_add (pv 11) (pv 5)) (pa_cons (pv 12) (pa_cons (pv 9) pa_nil)))))))))))))))), ?_⟩
    rw [st__law_numbers_of]
    walk_at "wk"
    refine ⟨l, p, ns, rfl, T0, fun first H1 f1 T1 x1 => ?_⟩
    walk_at "wk"
    refine ⟨l, p, ns, rfl, T1, fun second H2 f2 T2 x2 => ?_⟩
    walk_at "wk"
    intro t nt
    obtain ⟨T3, x3, ht, tp⟩ := T2.new (o := .tup [V.int 0, V.int 0, V.int 0, V.int 1, V.int (-1), V.int 0]) nt
    generalize upd H2 t _ = H3 at T3 x3 ht ⊢
    walk_at "wk"
    refine ⟨l, p, ns, rfl, T3, fun n H4 _ T4 x4 => ?_⟩
    walk_at "wk"
    refine ixT_any (zs := [0, 0, 0, 1, -1, 0]) rfl (by omega) (by show _ < (6 : Int); omega) (x4 t _ tp ht) fun beside hb => ?_
    have hb : -1 ≤ beside ∧ beside ≤ 1 := by
      simp only [List.mem_cons, List.not_mem_nil, or_false] at hb
      omega
    have x := ((x1.trans x2).trans x3).trans x4
    clear x1 x2 x3 x4 T1 T2 T3
    have sf := sm_nat f1
    have ss := sm_nat f2
    walk_at "wk"
    have k4 : k = 0 ∨ k = 1 ∨ k = 2 ∨ k = 3 := by omega
    rcases k4 with rfl | rfl | rfl | rfl
    · refine ite2 (fun _ => ?_) (fun e => absurd (by decide +kernel) e)
      walk_at "wk"
      intro t5 nt5
      obtain ⟨T5, x5, ht5, tp5⟩ := T4.new (o := .tup [V.int 0, V.int 0, V.int 1, V.int (-1), V.int first]) nt5
      generalize upd H4 t5 _ = H5 at T5 x5 ht5 ⊢
      walk_at "wk"
      refine ixT_any (zs := [0, 0, 1, -1, first]) rfl (by omega) (by show _ < (5 : Int); omega) ht5 fun z hz => ?_
      walk_at "wk"
      intro r nr
      obtain ⟨T6, x6, hr6, _⟩ := T5.new (o := .lst [V.int z]) nr
      refine q r [z] _ T6 ((x.trans x5).trans x6) ((x.trans x5).free T5.pn nr) hr6 (.inl ⟨rfl, z, rfl, ?_⟩)
      simp only [List.mem_cons, List.not_mem_nil, or_false] at hz
      refine Sm.mono (j := 10) ?_ (by decide)
      unfold Sm
      omega
    · refine ite2 (fun e => absurd e (by decide +kernel)) (fun _ => ?_)
      walk_at "wk"
      refine ite2 (fun _ => ?_) (fun e => absurd (by decide +kernel) e)
      walk_at "wk"
      refine split_if (fun σ' H' => ∃ (g : Int) (c7 : Option V), σ' = [some (.int ((1 : Nat) : Int)), some (.ref l), some (.ref p), some (.int first), some (.int second), some (.int beside), some (.int g), c7, none, none, none, none, none] ∧ 0 ≤ g ∧ Sm 2020 g ∧ H4 = H') ?_ ?_
      · rintro σ' H' ⟨g, c7, rfl, g0, sg, rfl⟩
        walk_at "wk"
        intro L nL
        obtain ⟨T5, x5, hL, Lp⟩ := T4.new (o := .lst [V.int g, V.int (g / 2), V.int (first * 1000), V.int (second % 8), V.int (-1), V.int (g + 1), V.int (g / 2 - g / 4)]) nL
        generalize upd H4 L _ = H5 at T5 x5 hL ⊢
        walk_at "wk"
        refine ⟨l, p, ns, rfl, T5, fun m H6 _ T6 x6 => ?_⟩
        walk_at "wk"
        refine ixL_any (zs := [g, g / 2, first * 1000, second % 8, -1, g + 1, g / 2 - g / 4]) rfl (by omega) (by show _ < (7 : Int); omega) (x6 L _ Lp hL) fun small hs => ?_
        walk_at "wk"
        intro t8 nt8
        obtain ⟨T8, x8, ht8, _⟩ := T6.new (o := .tup [V.int g, V.int g, V.int 0, V.int (-3), V.int (2 ^ Int.toNat 60 - 1)]) nt8
        generalize upd H6 t8 _ = H8 at T8 x8 ht8 ⊢
        walk_at "wk"
        refine ixT_any (zs := [g, g, 0, -3, 2 ^ 60 - 1]) rfl (by omega) (by show _ < (5 : Int); omega) ht8 fun z hz => ?_
        walk_at "wk"
        intro r nr
        obtain ⟨T9, x9, hr9, _⟩ := T8.new (o := .lst [V.int small, V.int z]) nr
        have xx := ((x.trans x5).trans x6).trans x8
        have sg2 : Sm 2021 (g + 1) := sg.add (Sm.mono (Sm.lit (k := 64)) (by decide))
        refine q r [small, z] _ T9 (xx.trans x9) (xx.free T8.pn nr) hr9 (.inr (.inl ⟨rfl, small, z, rfl, ?_, ?_⟩))
        · simp only [List.mem_cons, List.not_mem_nil, or_false] at hs
          rcases hs with rfl | rfl | rfl | rfl | rfl | rfl | rfl
          · exact sg.mono (by decide)
          · exact (Sm.le sg (by omega) (by omega)).mono (by decide)
          · exact (sf.mul (Sm.lit (k := 64))).mono (by decide)
          · exact (Sm.le ss (by omega) (by omega)).mono (by decide)
          · exact (Sm.lit (k := 64)).mono (by decide)
          · exact sg2.mono (by decide)
          · exact (Sm.le sg (by omega) (by omega)).mono (by decide)
        · simp only [List.mem_cons, List.not_mem_nil, or_false] at hz
          rcases hz with rfl | rfl | rfl | rfl | rfl
          · exact sg.mono (by decide)
          · exact sg.mono (by decide)
          · exact (Sm.lit (k := 64)).mono (by decide)
          · exact (Sm.lit (k := 64)).mono (by decide)
          · exact (Sm.lit (k := 64)).mono (by decide)
      · intro D' hD
        refine ite2 (fun _ => ?_) (fun _ => ?_)
        · walk_at "wk"
          refine for_rng (n := 100) (fun i σ' H' => ∃ (g : Int) (c7 : Option V), σ' = [some (.int ((1 : Nat) : Int)), some (.ref l), some (.ref p), some (.int first), some (.int second), some (.int beside), some (.int g), c7, none, none, none, none, none] ∧ 0 ≤ g ∧ Sm (20 + 20 * i) g ∧ H4 = H') ?_ ?_ ?_
          · refine ⟨_, none, rfl, by omega, ?_, rfl⟩
            unfold Sm
            omega
          · rintro i σ' H' hi ⟨g, c7, rfl, g0, sg, rfl⟩
            walk_at "wk"
            refine ⟨_, _, rfl, by omega, ?_, rfl⟩
            unfold Sm at sg ⊢
            rw [show 20 + 20 * (i + 1) = (20 + 20 * i) + 20 by omega, Nat.pow_add]
            generalize 2 ^ (20 + 20 * i) = M at sg ⊢
            omega
          · rintro σ' H' ⟨g, c7, rfl, g0, sg, rfl⟩
            exact hD _ _ ⟨g, c7, rfl, g0, sg, rfl⟩
        · refine hD _ _ ⟨_, none, rfl, by omega, ?_, rfl⟩
          refine Sm.mono (j := 20) ?_ (by decide)
          unfold Sm
          omega
    · refine ite2 (fun e => absurd e (by decide +kernel)) (fun _ => ?_)
      walk_at "wk"
      refine ite2 (fun e => absurd e (by decide +kernel)) (fun _ => ?_)
      walk_at "wk"
      refine ite2 (fun _ => ?_) (fun e => absurd (by decide +kernel) e)
      walk_at "wk"
      intro t5 nt5
      obtain ⟨T5, x5, ht5, tp5⟩ := T4.new (o := .tup [V.int 0, V.int 1, V.int 2, V.int 3, V.int first, V.int 10, V.int (-2)]) nt5
      generalize upd H4 t5 _ = H5 at T5 x5 ht5 ⊢
      walk_at "wk"
      refine ixT_any (zs := [0, 1, 2, 3, first, 10, -2]) rfl (by omega) (by show _ < (7 : Int); omega) ht5 fun base' hb' => ?_
      have sb : Sm 10 base' := by
        simp only [List.mem_cons, List.not_mem_nil, or_false] at hb'
        refine sm_small ?_ ?_ <;> omega
      walk_at "wk"
      intro t6 nt6
      obtain ⟨T6, x6, ht6, tp6⟩ := T5.new (o := .tup [V.int 0, V.int 1, V.int 2, V.int 3, V.int (second % 12), V.int (100 + second % 300), V.int (10 ^ Int.toNat 30), V.int (-1)]) nt6
      generalize upd H5 t6 _ = H6 at T6 x6 ht6 ⊢
      walk_at "wk"
      refine ixT_any (zs := [0, 1, 2, 3, second % 12, 100 + second % 300, 10 ^ 30, -1]) rfl (by omega) (by show _ < (8 : Int); omega) ht6 fun pw hp' => ?_
      have sp : Sm 200 pw ∧ (pw < 600 → pw < 400) := by
        simp only [List.mem_cons, List.not_mem_nil, or_false] at hp'
        rcases hp' with rfl | rfl | rfl | rfl | rfl | rfl | rfl | rfl
        · exact ⟨(Sm.lit (k := 64)).mono (by decide), by omega⟩
        · exact ⟨(Sm.lit (k := 64)).mono (by decide), by omega⟩
        · exact ⟨(Sm.lit (k := 64)).mono (by decide), by omega⟩
        · exact ⟨(Sm.lit (k := 64)).mono (by decide), by omega⟩
        · exact ⟨(sm_small (by omega) (by omega)).mono (by decide), by omega⟩
        · exact ⟨(sm_small (by omega) (by omega)).mono (by decide), by omega⟩
        · exact ⟨Sm.lit (k := 200), by omega⟩
        · exact ⟨(Sm.lit (k := 64)).mono (by decide), by omega⟩
      walk_at "wk"
      have xx := (x.trans x5).trans x6
      have fin : ∀ (v : Int) (c7 : Option V), Sm 4090 v → (600 < pw → Sm 10 v) → ∀ (r : Addr), H6 r = none → Q (.ref r) (upd H6 r (.lst [V.int (v + beside), V.int base', V.int pw])) := by
        intro v c7 s1 s2 r nr
        obtain ⟨T9, x9, hr9, _⟩ := T6.new (o := .lst [V.int (v + beside), V.int base', V.int pw]) nr
        refine q r [v + beside, base', pw] _ T9 (xx.trans x9) (xx.free T6.pn nr) hr9 (OkR.three ((s1.add (Sm.mono (j := 10) (sm_small (by omega) (by omega)) (by decide))).mono (by decide)) sb sp.1 fun h => ((s2 h).add (sm_small (by omega) (by omega))).mono (by decide))
      refine ite2 (fun e => ?_) (fun e => ?_)
      · have e6 : pw < 600 := of_decide_eq_true e
        walk_at "wk"
        refine ite2 (fun e2 => ?_) (fun e2 => ?_)
        · have e0 : 0 ≤ pw := of_decide_eq_true e2
          have e4 := sp.2 e6
          obtain ⟨pn, rfl⟩ : ∃ n : Nat, pw = n := ⟨pw.toNat, by omega⟩
          walk_at "wk"
          rw [Int.toNat_natCast]
          refine for_rng (n := pn) (fun i σ' H' => ∃ (c7 : Option V), σ' = [some (.int ((2 : Nat) : Int)), some (.ref l), some (.ref p), some (.int first), some (.int second), some (.int beside), none, c7, none, some (.int base'), some (.int pn), some (.int (base' ^ i)), none] ∧ H6 = H') ?_ ?_ ?_
          · exact ⟨none, by rw [Int.pow_zero], rfl⟩
          · rintro i σ' H' hi ⟨c7, rfl, rfl⟩
            have sv : Sm (10 * i + 1) (base' ^ i) := sb.pw i
            walk_at "wk"
            rw [Int.pow_succ]
            exact ⟨_, rfl, rfl⟩
          · rintro σ' H' ⟨c7, rfl, rfl⟩
            walk_at "wk"
            exact fin _ c7 ((sb.pw pn).mono (by omega)) (by omega)
        · walk_at "wk"
          exact fin _ none ((sm_nat f1).mono (by decide)) fun _ => sm_nat f1
      · walk_at "wk"
        exact fin _ none ((sm_nat f1).mono (by decide)) fun _ => sm_nat f1
    · refine ite2 (fun e => absurd e (by decide +kernel)) (fun _ => ?_)
      walk_at "wk"
      refine ite2 (fun e => absurd e (by decide +kernel)) (fun _ => ?_)
      walk_at "wk"
      refine ite2 (fun e => absurd e (by decide +kernel)) (fun _ => ?_)
      walk_at "wk"
      intro t5 nt5
      obtain ⟨T5, x5, ht5, tp5⟩ := T4.new (o := .tup [V.int 2, V.int 3, V.int 4, V.int first, V.int 1, V.int 0]) nt5
      generalize upd H4 t5 _ = H5 at T5 x5 ht5 ⊢
      walk_at "wk"
      refine ixT_any (zs := [2, 3, 4, first, 1, 0]) rfl (by omega) (by show _ < (6 : Int); omega) ht5 fun base' hb' => ?_
      have sb : Sm 10 base' := by
        simp only [List.mem_cons, List.not_mem_nil, or_false] at hb'
        refine sm_small ?_ ?_ <;> omega
      walk_at "wk"
      intro t6 nt6
      obtain ⟨T6, x6, ht6, tp6⟩ := T5.new (o := .tup [V.int 0, V.int 1, V.int 2, V.int 3, V.int (second % 14), V.int (100 + second % 101), V.int (10 ^ Int.toNat 30), V.int (-1)]) nt6
      generalize upd H5 t6 _ = H6 at T6 x6 ht6 ⊢
      walk_at "wk"
      refine ixT_any (zs := [0, 1, 2, 3, second % 14, 100 + second % 101, 10 ^ 30, -1]) rfl (by omega) (by show _ < (8 : Int); omega) ht6 fun pw hp' => ?_
      have sp : Sm 200 pw ∧ (pw < 300 → pw ≤ 200) := by
        simp only [List.mem_cons, List.not_mem_nil, or_false] at hp'
        rcases hp' with rfl | rfl | rfl | rfl | rfl | rfl | rfl | rfl
        · exact ⟨(Sm.lit (k := 64)).mono (by decide), by omega⟩
        · exact ⟨(Sm.lit (k := 64)).mono (by decide), by omega⟩
        · exact ⟨(Sm.lit (k := 64)).mono (by decide), by omega⟩
        · exact ⟨(Sm.lit (k := 64)).mono (by decide), by omega⟩
        · exact ⟨(sm_small (by omega) (by omega)).mono (by decide), by omega⟩
        · exact ⟨(sm_small (by omega) (by omega)).mono (by decide), by omega⟩
        · exact ⟨Sm.lit (k := 200), by omega⟩
        · exact ⟨(Sm.lit (k := 64)).mono (by decide), by omega⟩
      walk_at "wk"
      have xx := (x.trans x5).trans x6
      have fin : ∀ (v : Int), Sm 2800 v → (300 ≤ pw → Sm 10 v) → ∀ (r : Addr), H6 r = none → Q (.ref r) (upd H6 r (.lst [V.int (v + beside), V.int pw, V.int base'])) := by
        intro v s1 s2 r nr
        obtain ⟨T9, x9, hr9, _⟩ := T6.new (o := .lst [V.int (v + beside), V.int pw, V.int base']) nr
        refine q r [v + beside, pw, base'] _ T9 (xx.trans x9) (xx.free T6.pn nr) hr9 (OkR.row ((s1.add (Sm.mono (j := 10) (sm_small (by omega) (by omega)) (by decide))).mono (by decide)) sp.1 sb fun h => ((s2 h).add (sm_small (by omega) (by omega))).mono (by decide))
      have n3 : ∀ z : Int, 300 ≤ z → ¬ decide (z < 300) = true := fun z h e => by have := of_decide_eq_true e; omega
      refine ite2 (fun e => ?_) (fun e => ?_)
      · have e0 : 0 ≤ pw := of_decide_eq_true e
        walk_at "wk"
        refine ite2 (fun e2 => ?_) (fun e2 => ?_)
        · have e3 : pw < 300 := of_decide_eq_true e2
          have e4 := sp.2 e3
          obtain ⟨pn, rfl⟩ : ∃ n : Nat, pw = n := ⟨pw.toNat, by omega⟩
          walk_at "wk"
          refine ⟨pn, base', rfl, by omega, sb, ?_⟩
          walk_at "wk"
          exact fin _ ((ry_sm sb pn).1.mono (by omega)) (by omega)
        · walk_at "wk"
          exact fin _ (ss.mono (by decide)) (fun _ => ss)
      · walk_at "wk"
        exact fin _ (ss.mono (by decide)) (fun _ => ss)

def sp_row_member (K : PySem.W.Frag) : Sp := fun vs H Q _ => ∃ (n : Nat) (a : Int), vs = [.int n, .int a] ∧ n ≤ 4000 ∧ Sm 10 a ∧ ∀ H', Same H H' → Q (.int (ry a n)) H'
theorem ok_row_member {f : Addr} {fd : FuncData} (F : Fun K "row_member" "row_member" s_row_member f fd) (m_reversed : mg "reversed" = none) (m_range : mg "range" = none) : FnOk P w K mg base CX0 1 f fd ["n", "a"] (sp_row_member K) := by
  refine F.ok sc_row_member (fun vs H Q E h => ?_) (fun cdv A outer s H vs Q E hr h => ?_)
  · obtain ⟨n, a, rfl, _⟩ := h
    rfl
  · obtain ⟨n, a, rfl, hn, ha, q⟩ := h
    refine ⟨_, (pss_cons (ps_if (pt_cmpR op_eq (pv 0) pe_int (nomark _)) (pss_one (ps_ret pe_int)) pss_nil)
      (pss_cons (ps_asg (pe_tup (pa_cons pe_int (pa_cons pe_int pa_nil))) (pg_tup (by rfl) (pgs_cons (pg_name (i := 2) sc_row_member.nd rfl (.inl rfl)) (pgs_cons (pg_name (i := 3) sc_row_member.nd rfl (.inl rfl)) pgs_nil))))
      (pss_cons (ps_for PassesOwn.never rfl (pi_revR (by rfl) m_reversed (prg_1 (by rfl) m_range (pe_op op_sub (pe_bits (pv 0)) pe_int))) (pg_name (i := 4) sc_row_member.nd rfl (.inl rfl)) (pss_cons (ps_set (i := 5) sc_row_member.nd rfl (.inl rfl) (pe_op op_sub (pe_op op_mulX (pv 3) (pv 3)) (pe_op op_mulX (pv 2) (pv 2))))
      (pss_cons (ps_set (i := 6) sc_row_member.nd rfl (.inl rfl) (pe_op op_mulX (pe_op op_mulX pe_int (pv 3)) (pe_op op_sub (pe_op op_mulX (pv 1) (pv 3)) (pv 2))))
      (pss_one (ps_if (pt_truth (pe_op op_and (pe_op op_shr (pv 0) (pv 4)) pe_int) (by intro _; rfl)) (pss_one (ps_par (by rfl) sc_row_member.nd (i := 2) (j := 3) rfl rfl (by decide) rfl rfl (pa_cons (pv 6) (pa_cons (pe_op op_sub (pe_op op_mulX (pe_op op_mulX pe_int (pv 1)) (pv 6)) (pv 5)) pa_nil)) (by rfl))) (pss_one (ps_par (by rfl) sc_row_member.nd (i := 2) (j := 3) rfl rfl (by decide) rfl rfl (pa_cons (pv 5) (pa_cons (pv 6) pa_nil)) (by rfl))))))))
      (pss_one (ps_ret (pv 3)))))), ?_⟩
    rw [st_row_member]
    refine ⟨_, rfl, ⟨rfl, _, rfl, ite2 (fun e => ?_) (fun e => ?_)⟩⟩
    · have : (n : Int) = 0 := by
        have := of_decide_eq_true e
        injection this
      rw [show n = 0 by omega] at q
      exact q H (fun _ _ z => z)
    have n1 : 1 ≤ n := by
      by_cases z : n = 0
      · subst z
        exact absurd rfl e
      · omega
    have sr : ∀ m, m ≤ 2 * n + 1 → Sm 100000 (ry a m) := fun m hm => (ry_sm ha m).1.mono (by omega)
    have b1 : 1 ≤ bl n := by
      have := bl_lt n
      by_cases z : bl n = 0
      · rw [z] at this
        omega
      · omega
    walk_at "rd"
    intro t0 nt0
    refine gTup_as (sq_of (show (upd H t0 (.tup [.int 0, .int 1])) t0 = _ from upd_same)) rfl ⟨_, _, rfl, _, _, rfl, rfl, ?_⟩
    have s0 := same_upd (o := .tup [.int 0, .int 1]) nt0
    generalize upd H t0 (.tup [.int 0, .int 1]) = H0 at s0 ⊢
    dsimp only [List.set]
    have hL : bl n ≤ 60 := by
      have h2 := bl_le n1
      by_cases z : bl n ≤ 60
      · exact z
      · have := Nat.pow_le_pow_right (n := 2) (by decide) (show 60 ≤ bl n - 1 by omega)
        omega
    have hL2 : Builtin.Int.intBits (n : Int) ≤ 60 := hL
    walk_at "rd"
    refine for_rangeC (fun i σ H' => ∃ (c4 c5 c6 : Option V), σ = [some (.int n), some (.int a), some (.int (ry a (n / 2 ^ (bl n - 1 - i) - 1))), some (.int (ry a (n / 2 ^ (bl n - 1 - i)))), c4, c5, c6] ∧ Same H H') ?_ ?_ ?_
    · refine ⟨none, none, none, ?_, s0⟩
      have h1 : n / 2 ^ (bl n - 1) = 1 := by
        have h2 := bl_lt n
        have h3 := bl_le n1
        have e2 : 2 ^ bl n = 2 ^ (bl n - 1) * 2 := by rw [← Nat.pow_succ]; congr 1; omega
        exact Nat.div_eq_of_lt_le (by omega) (by omega)
      rw [Nat.sub_zero, h1]
      rfl
    · intro i σ H1 hi hP
      obtain ⟨c4, c5, c6, rfl, s1⟩ := hP
      have hi2 : i + 1 < bl n := by
        have : (((bl n : Nat) : Int) - 1 - 0).toNat = bl n - 1 := by omega
        have h3 : i < bl n - 1 := this ▸ hi
        omega
      have e0 : (0 : Int) + ((((Builtin.Int.intBits (n : Int) : Nat) : Int) - 1 - 0).toNat : Nat) - 1 + (i : Nat) * (-1) = ((bl n - 2 - i : Nat) : Int) := by
        show (0 : Int) + ((((bl n : Nat) : Int) - 1 - 0).toNat : Nat) - 1 + (i : Nat) * (-1) = ((bl n - 2 - i : Nat) : Int)
        omega
      rw [e0]
      obtain ⟨m, em⟩ : ∃ m, m = n / 2 ^ (bl n - 2 - i) := ⟨_, rfl⟩
      have hm : m ≤ n := by
        rw [em]
        exact Nat.div_le_self _ _
      have eh : n / 2 ^ (bl n - 1 - i) = m / 2 := by
        rw [em, Nat.div_div_eq_div_mul, ← Nat.pow_succ]
        congr 2
        omega
      have m2 : 2 ≤ m := by
        rw [em, Nat.le_div_iff_mul_le (Nat.two_pow_pos _)]
        have h3 := bl_le n1
        refine Nat.le_trans ?_ h3
        rw [Nat.mul_comm, ← Nat.pow_succ]
        exact Nat.pow_le_pow_right (by decide) (by omega)
      rw [eh]
      obtain ⟨t, et⟩ : ∃ t, t = m / 2 := ⟨_, rfl⟩
      rw [← et]
      have t1 : 1 ≤ t := by omega
      have w1 := sr t (by omega)
      have w0 := sr (t - 1) (by omega)
      have w2 := sr (2 * t) (by omega)
      have w3 := sr (2 * t - 1) (by omega)
      have ebit : Builtin.bitAnd ((n : Int) / 2 ^ ((bl n - 2 - i : Nat) : Int).toNat) 1 = ((m % 2 : Nat) : Int) := by
        rw [Int.toNat_natCast, show (n : Int) / 2 ^ (bl n - 2 - i) = ((m : Nat) : Int) by rw [em]; push_cast; rfl, show (1 : Int) = ((1 : Nat) : Int) from rfl, bitAnd_pp (by omega) (by omega), Int.toNat_natCast, Int.toNat_natCast, Nat.and_one_is_mod]
      have enext : n / 2 ^ (bl n - 1 - (i + 1)) = m := by
        rw [em]
        congr 2
        omega
      have wl : Sm 200001 (a * ry a t - ry a (t - 1)) := (((ha.mul w1).mono (k := 200000) (by decide)).sub (w0.mono (by decide))).mono (by decide)
      refine ⟨_, rfl, _, rfl, _, _, rfl, rfl, Sm.mx w1 w1 (by decide), _, rfl, _, rfl, _, _, rfl, rfl, Sm.mx w0 w0 (by decide), _, _, rfl, rfl, ?_⟩
      dsimp only
      rw [ry_low t1]
      refine ⟨_, rfl, _, _, rfl, rfl, Sm.mx (Sm.lit (k := 64)) w1 (by decide), _, rfl, _, rfl, _, _, rfl, rfl, Sm.mx ha w1 (by decide), _, rfl, _, _, rfl, rfl, _, _, rfl, rfl, Sm.mx (Sm.mul (Sm.lit (k := 64)) w1) wl (by decide), ?_⟩
      dsimp only
      rw [ry_twice t1]
      dsimp only [List.set]
      walk_at "rd"
      rw [ebit]
      refine ite2 (fun e => ?_) (fun e => ?_)
      · have h1 : m = 2 * t + 1 := by
          have : ((m % 2 : Nat) : Int) ≠ 0 := by simpa using e
          omega
        refine ⟨_, rfl, _, rfl, _, _, rfl, rfl, Sm.mx (Sm.lit (k := 64)) ha (by decide), _, rfl, _, _, rfl, rfl, Sm.mx (Sm.mul (Sm.lit (k := 64)) ha) w2 (by decide), _, rfl, _, _, rfl, rfl, _, _, rfl, ?_⟩
        refine ⟨some (.int ((bl n - 2 - i : Nat) : Int)), some (.int (ry a (2 * t - 1))), some (.int (ry a (2 * t))), ?_, s1⟩
        rw [enext, h1]
        dsimp only [List.set]
        rw [ry_next t1]
        rfl
      · have h1 : m = 2 * t := by
          have : ((m % 2 : Nat) : Int) = 0 := by simpa using e
          omega
        refine ⟨_, rfl, _, rfl, _, _, rfl, ?_⟩
        refine ⟨some (.int ((bl n - 2 - i : Nat) : Int)), some (.int (ry a (2 * t - 1))), some (.int (ry a (2 * t))), ?_, s1⟩
        rw [enext, h1]
        rfl
    · intro σ H1 hP
      obtain ⟨c4, c5, c6, rfl, s1⟩ := hP
      walk_at "rd"
      have e2 : n / 2 ^ (bl n - 1 - (((Builtin.Int.intBits (n : Int) : Nat) : Int) - 1 - 0).toNat) = n := by
        show n / 2 ^ (bl n - 1 - (((bl n : Nat) : Int) - 1 - 0).toNat) = n
        rw [show bl n - 1 - (((bl n : Nat) : Int) - 1 - 0).toNat = 0 by omega, Nat.pow_zero, Nat.div_one]
      rw [e2]
      exact q _ s1

def rowI (y n a : Int) : Bool := decide (0 ≤ y) && (decide (0 ≤ n) && (decide (2 ≤ a) && decide (y = ry a n.toNat)))
def sp__holds_row (K : PySem.W.Frag) : Sp := fun vs H Q _ => ∃ (y n a : Int), vs = [.int y, .int n, .int a] ∧ Sm 2900 y ∧ Sm 200 n ∧ Sm 10 a ∧ ∀ H', Same H H' → Q (.bl (rowI y n a)) H'
theorem ok__holds_row {f : Addr} {fd : FuncData} (F : Fun K "_holds_row" "_holds_row" s__holds_row f fd) (C_row_member : Cal P w K mg base "row_member" 1 ["n", "a"] (sp_row_member K)) : FnOk P w K mg base CX0 2 f fd ["y", "n", "a"] (sp__holds_row K) := by
  refine F.ok sc__holds_row (fun vs H Q E h => ?_) (fun cdv A outer s H vs Q E hr h => ?_)
  · obtain ⟨y, n, a, rfl, _⟩ := h
    rfl
  · obtain ⟨y, n, a, rfl, sy, sn, sa, q⟩ := h
    refine ⟨_, (pss_cons (ps_if (PW.pt (pw_or (pt_cmpR op_lt (pv 0) pe_int (nomark _)) (pw_or (pt_cmpR op_lt (pv 1) pe_int (nomark _)) (pw_or1 (pt_cmpR op_lt (pv 2) pe_int (nomark _)))))) (pss_one (ps_ret pe_bl)) pss_nil)
      (pss_cons (ps_if (pt_cmpR op_le (pe_bits (pv 0)) (pe_op op_mulX (pe_op op_sub (pe_bits (pe_op op_sub (pe_op op_mulX pe_int (pv 2)) pe_int)) pe_int) (pe_op op_sub (pv 1) pe_int)) (nomark _)) (pss_one (ps_ret pe_bl)) pss_nil)
      (pss_one (ps_ret (pe_cmpR op_eq (pv 0) (pe_cal C_row_member hr (by rfl) (pa_cons (pv 1) (pa_cons (pv 2) pa_nil))) (nomark _)))))), ?_⟩
    rw [st__holds_row]
    have same0 : Same H H := fun _ _ z => z
    walk_at "wk"
    unfold rowI at q
    refine ite2 (fun e => ?_) (fun e => ?_)
    · rw [decide_eq_false (show ¬ 0 ≤ y by have := of_decide_eq_true e; omega), Bool.false_and] at q
      exact q H same0
    have y0 : 0 ≤ y := by
      by_cases z : y < 0
      · exact absurd (decide_eq_true z) e
      · omega
    walk_at "wk"
    refine ite2 (fun e => ?_) (fun e => ?_)
    · rw [decide_eq_false (show ¬ 0 ≤ n by have := of_decide_eq_true e; omega), Bool.false_and, Bool.and_false] at q
      exact q H same0
    have n0 : 0 ≤ n := by
      by_cases z : n < 0
      · exact absurd (decide_eq_true z) e
      · omega
    walk_at "wk"
    refine ite2 (fun e => ?_) (fun e => ?_)
    · rw [decide_eq_false (show ¬ 2 ≤ a by have := of_decide_eq_true e; omega), Bool.false_and, Bool.and_false, Bool.and_false] at q
      exact q H same0
    have a2 : 2 ≤ a := by
      by_cases z : a < 2
      · exact absurd (decide_eq_true z) e
      · omega
    rw [decide_eq_true y0, decide_eq_true n0, decide_eq_true a2, Bool.true_and, Bool.true_and, Bool.true_and] at q
    walk_at "wk"
    obtain ⟨yn, rfl⟩ : ∃ yn : Nat, y = yn := ⟨y.toNat, by omega⟩
    obtain ⟨nn, rfl⟩ : ∃ nn : Nat, n = nn := ⟨n.toNat, by omega⟩
    obtain ⟨cn, ecn⟩ : ∃ cn : Nat, 2 * a - 1 = cn := ⟨(2 * a - 1).toNat, by omega⟩
    rw [Int.toNat_natCast] at q
    have c3 : 3 ≤ cn := by omega
    have hcb : 2 ≤ bl cn := by
      have := bl_lt cn
      by_cases z : 2 ≤ bl cn
      · exact z
      · have h4 := Nat.pow_le_pow_right (n := 2) (by decide) (show bl cn ≤ 1 by omega)
        omega
    have hcb2 : bl cn ≤ 12 := by
      have h3 := bl_le (show 1 ≤ cn by omega)
      by_cases z : bl cn ≤ 12
      · exact z
      · have h4 := Nat.pow_le_pow_right (n := 2) (by decide) (show 12 ≤ bl cn - 1 by omega)
        unfold Sm at sa
        omega
    have hyb : bl yn ≤ 2900 := by
      by_cases z : yn = 0
      · subst z
        decide
      · have h3 := bl_le (show 1 ≤ yn by omega)
        by_cases z : bl yn ≤ 2900
        · exact z
        · have h4 := Nat.pow_le_pow_right (n := 2) (by decide) (show 2900 ≤ bl yn - 1 by omega)
          unfold Sm at sy
          rw [Int.natAbs_natCast] at sy
          omega
    have scb : Sm 64 ((bl cn : Int) - 1) := Sm.le (y := 100) (Sm.lit (k := 64)) (by omega) (by omega)
    have sn1 : Sm 202 ((nn : Int) - 1) := (sn.sub (Sm.mono (j := 64) (Sm.lit (k := 64)) (by decide))).mono (by decide)
    refine ⟨_, rfl, _, rfl, _, rfl, _, _, rfl, rfl, Sm.mx (Sm.lit (k := 64)) sa (by decide), _, _, rfl, rfl, _, rfl, ?_⟩
    rw [ecn]
    refine ⟨_, _, rfl, rfl, _, rfl, _, _, rfl, rfl, _, _, rfl, rfl, Sm.mx scb sn1 (by decide), _, _, rfl, rfl, ⟨_, rfl, ?_⟩⟩
    obtain ⟨w, ew⟩ : ∃ w : Nat, bl cn = w + 1 := ⟨bl cn - 1, by omega⟩
    have big : ∀ t, ((2 ^ (w * t) : Nat) : Int) ≤ ry a (t + 1) := fun t => (ry_big (s := w) a2 (by
      have h3 := bl_le (show 1 ≤ cn by omega)
      rw [ew, Nat.add_sub_cancel] at h3
      rw [ecn]
      exact_mod_cast h3) t).2.2
    have ew2 : (Builtin.Int.intBits (cn : Int) : Int) - 1 = (w : Int) := by
      have : Builtin.Int.intBits (cn : Int) = w + 1 := ew
      omega
    have eyb : Builtin.Int.intBits (yn : Int) = bl yn := rfl
    rw [ew2, eyb]
    refine ite2 (fun e => ?_) (fun e => ?_)
    · have e1 : (bl yn : Int) ≤ (w : Int) * ((nn : Int) - 1) := of_decide_eq_true e
      have : (yn : Int) ≠ ry a nn := by
        by_cases z : nn = 0
        · subst z
          exfalso
          have : (w : Int) * (((0 : Nat) : Int) - 1) = -(w : Int) := by
            show (w : Int) * (-1) = _
            omega
          rw [this] at e1
          omega
        · obtain ⟨t, rfl⟩ : ∃ t, nn = t + 1 := ⟨nn - 1, by omega⟩
          rw [show (((t + 1 : Nat) : Int) - 1) = (t : Int) by omega, show (w : Int) * (t : Int) = ((w * t : Nat) : Int) by push_cast; rfl] at e1
          have h1 := big t
          have h2 := bl_lt yn
          have h3 := Nat.pow_le_pow_right (n := 2) (by decide) (show bl yn ≤ w * t by omega)
          omega
      rw [decide_eq_false this] at q
      exact q H same0
    · have hn4 : nn ≤ 4000 := by
        by_cases z : nn = 0
        · omega
        · obtain ⟨t, rfl⟩ : ∃ t, nn = t + 1 := ⟨nn - 1, by omega⟩
          have e1 : ¬ (bl yn : Int) ≤ (w : Int) * (((t + 1 : Nat) : Int) - 1) := fun l => e (decide_eq_true l)
          rw [show (((t + 1 : Nat) : Int) - 1) = (t : Int) by omega, show (w : Int) * (t : Int) = ((w * t : Nat) : Int) by push_cast; rfl] at e1
          have h4 : t ≤ w * t := Nat.le_mul_of_pos_left t (by omega)
          omega
      refine ⟨_, rfl, _, rfl, _, rfl, nn, a, rfl, hn4, sa, fun H' s' => WK.eq_i ?_⟩
      rw [dvi]
      exact q H' s'

def sp_value_of (K : PySem.W.Frag) : Sp := fun vs H Q _ => ∃ (a d : Addr) (p : Poly) (ks : List (L2.Key × V)) (f : Str → Int) (B : Nat), vs = [.ref a, .ref d] ∧ PD H a p ∧ H d = some (.dK ks) ∧ (∀ t ∈ p, Sm B t.2 ∧ t.1.length ≤ 100 ∧ ∀ x ∈ t.1, valV ks (.inr x) = some (.int (f x)) ∧ Sm B (f x)) ∧ B ≤ 100000 ∧
  ∀ H', Same H H' → Q (.int (evp f p)) H'
theorem ok_value_of {f : Addr} {fd : FuncData} (F : Fun K "value_of" "value_of" s_value_of f fd)  : FnOk P w K mg base CX0 1 f fd ["polynomial", "values"] (sp_value_of K) := by
  refine F.ok sc_value_of (fun vs H Q E h => ?_) (fun cdv A outer s H vs Q E hr h => ?_)
  · obtain ⟨a, d, p, ks, f, B, rfl, _⟩ := h
    rfl
  · obtain ⟨a, d, p, ks, f, B, rfl, ha, hd, hp, hB, q⟩ := h
    refine ⟨_, (pss_cons (ps_set (i := 2) sc_value_of.nd rfl (.inl rfl) pe_int)
      (pss_cons (ps_lk (ps_for PassesOwn.never rfl (pi_itemsT (pv 0)) (pg_tup (by rfl) (pgs_cons (pg_name (i := 3) sc_value_of.nd rfl (.inl rfl)) (pgs_cons (pg_name (i := 4) sc_value_of.nd rfl (.inl rfl)) pgs_nil))) (pss_cons (ps_set (i := 5) sc_value_of.nd rfl (.inl rfl) (pv 4))
      (pss_cons (ps_for PassesOwn.never rfl (pi_tup (pv 3)) (pg_name (i := 6) sc_value_of.nd rfl (.inl rfl)) (pss_one (ps_set (i := 5) sc_value_of.nd rfl (.inl rfl) (pe_op op_mulX (pv 5) (pe_dget (hu_of hr) (pv 1) (pv 6) (fun _ _ => rfl))))))
      (pss_one (ps_set (i := 2) sc_value_of.nd rfl (.inl rfl) (pe_op op_add (pv 2) (pv 5))))))))
      (pss_one (ps_ret (pv 2))))), ?_⟩
    have hm := mut_one ha trivial
    refine lkS_all [a] hm fun Hl L => ?_
    obtain ⟨ob, lk⟩ := L.at_ a (List.mem_singleton.mpr rfl) _ ha
    have hda : d ∉ [a] := fun z => by
      rw [List.mem_singleton] at z
      rw [z, ha] at hd
      cases hd
    have hdl := L.there hd hda
    refine ⟨_, rfl, a, ob, enc p, rfl, lk, ?_⟩
    refine for_it walk_itemsT (fun i σ H' => ∃ c3 c4 c5 c6 : Option V, σ = [some (.ref a), some (.ref d), some (.int (evp f (p.take i))), c3, c4, c5, c6] ∧ Same Hl H') ?_ ?_ ?_ ?_
    · exact ⟨none, none, none, none, rfl, fun _ _ z => z⟩
    · rintro i σ H1 _ ⟨_, _, _, _, _, s1⟩
      exact s1 _ _ lk
    · rintro i x σ H1 H2 lt ⟨c3, c4, c5, c6, rfl, s1⟩ ⟨T, qk, k, v, hk, rfl, nT, hq, rfl⟩
      obtain ⟨m, c, hpi, rfl, rfl⟩ := enc_at hk
      rw [kI_V] at hq
      obtain ⟨hc, hml, hx⟩ := hp (m, c) (List.mem_of_getElem? hpi)
      have s2 := s1.trans (same_upd (o := .tup [.ref qk, .int c]) nT)
      have hq2 : MT (upd H1 T (.tup [.ref qk, .int c])) qk m := same_upd nT _ _ hq
      refine gTup_new rfl ⟨_, _, rfl, _, _, rfl, rfl, _, rfl, ?_⟩
      generalize upd H1 T (.tup [.ref qk, .int c]) = H2 at s2 hq2 ⊢
      refine ⟨_, rfl, qk, rfl, ⟨_, .inl (.inl hq2)⟩, ?_⟩
      refine for_it (walk_tup (K := K) (a := qk) (xs := m.map V.str)) (fun j σ H' => ∃ c6 : Option V, σ = [some (.ref a), some (.ref d), some (.int (evp f (p.take i))), some (.ref qk), some (.int c), some (.int (ev1 f (m.take j, c))), c6] ∧ Sm (B * (j + 1)) (ev1 f (m.take j, c)) ∧ H' = H2) ?_ ?_ ?_ ?_
      · exact ⟨_, rfl, by rw [Nat.mul_one]; exact hc, rfl⟩
      · rintro j σ H3 _ ⟨_, _, _, rfl⟩
        exact .inl (.inl hq2)
      · rintro j x σ H3 H4 ltj ⟨c6, rfl, hs, rfl⟩ ⟨rfl, hxj⟩
        rw [List.getElem?_map] at hxj
        obtain ⟨x, hx1, rfl⟩ := Option.map_eq_some_iff.mp hxj
        obtain ⟨hv, hf⟩ := hx x (List.mem_of_getElem? hx1)
        have jlt : j < m.length := (List.getElem?_eq_some_iff.mp hx1).1
        have e1 : ev1 f (m.take (j + 1), c) = ev1 f (m.take j, c) * f x := by
          unfold ev1
          rw [List.take_add_one, hx1]
          simp
        have hml : m.length ≤ 100 := hml
        have bnd : B * (j + 1) ≤ 100000 * 100 := Nat.mul_le_mul hB (by omega)
        refine ⟨_, rfl, _, rfl, _, rfl, d, .int (f x), rfl, .inl ⟨ks, .inr x, .inl (s2 _ _ hdl), rfl, hv.symm⟩, _, _, rfl, rfl, Sm.mx hs hf (by omega), ?_⟩
        refine ⟨some (.str x), ?_, ?_, rfl⟩
        · rw [e1]
          rfl
        · rw [e1, show B * (j + 1 + 1) = B * (j + 1) + B by rw [Nat.mul_succ]]
          exact hs.mul hf
      · rintro σ H3 ⟨c6, rfl, hs, rfl⟩
        rw [List.length_map, List.take_of_length_le (Nat.le_refl _)]
        refine ⟨_, rfl, _, rfl, _, _, rfl, rfl, some (.ref qk), some (.int c), some (.int (ev1 f (m, c))), c6, ?_, s2⟩
        rw [take_snoc hpi, evp_snoc]
        rfl
    · rintro σ H1 ⟨c3, c4, c5, c6, rfl, s1⟩
      rw [enc_len, List.take_of_length_le (Nat.le_refl _)]
      exact ⟨L.kept hm s1, _, rfl, q _ (back_same L s1)⟩

def sp__holds_under (K : PySem.W.Frag) : Sp := fun vs H Q _ => ∃ (a b : Int), vs = [.int a, .int b] ∧ Q (.bl (undI a b)) H
theorem ok__holds_under {f : Addr} {fd : FuncData} (F : Fun K "_holds_under" "_holds_under" s__holds_under f fd)  : FnOk P w K mg base CX0 1 f fd ["a", "b"] (sp__holds_under K) := by
  refine F.ok sc__holds_under (fun vs H Q E h => ?_) (fun cdv A outer s H vs Q E hr h => ?_)
  · obtain ⟨a, b, rfl, _⟩ := h
    rfl
  · obtain ⟨a, b, rfl, q⟩ := h
    refine ⟨_, (pss_one (ps_ret (pe_and (pe_cmpR op_ge (pv 0) pe_int (nomark _)) (pe_and (pe_cmpR op_ge (pv 1) pe_int (nomark _)) (pe_one (pe_cmpR op_eq (pe_op op_and (pv 0) (pv 1)) (pv 0) (nomark _))))))), ?_⟩
    rw [st__holds_under]
    walk_at "wk"
    unfold undI at q
    refine ite2 (fun e => ?_) (fun e => ?_)
    · have a0 : 0 ≤ a := of_decide_eq_true e
      rw [e, Bool.true_and] at q
      refine ⟨_, rfl, _, _, rfl, rfl, _, rfl, ite2 (fun e2 => ?_) (fun e2 => ?_)⟩
      · have b0 : 0 ≤ b := of_decide_eq_true e2
        rw [e2, Bool.true_and] at q
        refine ⟨_, rfl, _, rfl, _, _, rfl, rfl, _, rfl, WK.eq_i ?_⟩
        have e1 : decide (V.int (Builtin.bitAnd a b) = V.int a) = (a.toNat &&& b.toNat == a.toNat) := by
          rw [dvi, bitAnd_pp a0 b0]
          by_cases c : a.toNat &&& b.toNat = a.toNat
          · rw [beq_iff_eq.mpr c]
            exact decide_eq_true (by rw [c]; omega)
          · rw [beq_eq_false_iff_ne.mpr c]
            exact decide_eq_false (by omega)
        rw [e1]
        exact q
      · rw [Bool.eq_false_iff.mpr e2, Bool.false_and] at q
        exact q
    · rw [Bool.eq_false_iff.mpr e, Bool.false_and] at q
      exact q

def sp_raised (K : PySem.W.Frag) : Sp := fun vs H Q _ => ∃ (b n B : Nat), vs = [.int b, .int n] ∧ 1 ≤ b ∧ Sm B (b : Int) ∧ Sm B ((b ^ n : Nat) : Int) ∧ B ≤ 100000 ∧ n < 2 ^ 60 ∧ Q (.int ((b ^ n : Nat) : Int)) H
theorem ok_raised {f : Addr} {fd : FuncData} (F : Fun K "raised" "raised" s_raised f fd) (m_reversed : mg "reversed" = none) (m_range : mg "range" = none) : FnOk P w K mg base CX0 1 f fd ["base", "exponent"] (sp_raised K) := by
  refine F.ok sc_raised (fun vs H Q E h => ?_) (fun cdv A outer s H vs Q E hr h => ?_)
  · obtain ⟨b, n, B, rfl, _⟩ := h
    rfl
  · obtain ⟨b, n, B, rfl, hb, sb, sbn, hB, hn, q⟩ := h
    refine ⟨_, (pss_cons (ps_set (i := 2) sc_raised.nd rfl (.inl rfl) pe_int)
      (pss_cons (ps_for PassesOwn.never rfl (pi_revR (by rfl) m_reversed (prg_1 (by rfl) m_range (pe_bits (pv 1)))) (pg_name (i := 3) sc_raised.nd rfl (.inl rfl)) (pss_cons (ps_set (i := 2) sc_raised.nd rfl (.inl rfl) (pe_op op_mulX (pv 2) (pv 2)))
      (pss_one (ps_if (pt_truth (pe_op op_and (pe_op op_shr (pv 1) (pv 3)) pe_int) (by intro _; rfl)) (pss_one (ps_set (i := 2) sc_raised.nd rfl (.inl rfl) (pe_op op_mulX (pv 2) (pv 0)))) pss_nil))))
      (pss_one (ps_ret (pv 2))))), ?_⟩
    have hL : bl n ≤ 60 := by
      by_cases h0 : 1 ≤ n
      · have h2 := bl_le h0
        by_cases z : bl n ≤ 60
        · exact z
        · have := Nat.pow_le_pow_right (n := 2) (by decide) (show 60 ≤ bl n - 1 by omega)
          omega
      · rw [show n = 0 by omega]
        decide
    have hL2 : Builtin.Int.intBits (n : Int) ≤ 60 := hL
    have sp : ∀ m, m ≤ n → Sm B ((b ^ m : Nat) : Int) := fun m hm => by
      unfold Sm at sbn ⊢
      rw [Int.natAbs_natCast] at sbn ⊢
      exact Nat.lt_of_le_of_lt (Nat.pow_le_pow_right hb hm) sbn
    walk_at "rd"
    refine for_rangeC (fun i σ H' => ∃ (c3 : Option V), σ = [some (.int b), some (.int n), some (.int ((b ^ (n / 2 ^ (bl n - i)) : Nat) : Int)), c3] ∧ H' = H) ?_ ?_ ?_
    · refine ⟨none, ?_, rfl⟩
      rw [Nat.sub_zero, Nat.div_eq_of_lt (bl_lt n)]
      rfl
    · intro i σ H1 hi hP
      obtain ⟨c3, rfl, rfl⟩ := hP
      have hi2 : i < bl n := by
        have : (((bl n : Nat) : Int) - 0).toNat = bl n := by omega
        exact this ▸ hi
      have hp : (0 : Int) + ((((bl n : Nat) : Int) - 0).toNat : Nat) - 1 + (i : Nat) * (-1) = ((bl n - 1 - i : Nat) : Int) := by omega
      have e0 : (0 : Int) + (((((Builtin.Int.intBits (n : Int) : Nat) : Int) - 0).toNat : Nat) : Int) - 1 + (i : Nat) * (-1) = ((bl n - 1 - i : Nat) : Int) := hp
      rw [e0]
      obtain ⟨m, em⟩ : ∃ m, m = n / 2 ^ (bl n - 1 - i) := ⟨_, rfl⟩
      have hm : m ≤ n := by
        rw [em]
        exact Nat.div_le_self _ _
      have eh : n / 2 ^ (bl n - i) = m / 2 := by rw [em]; exact half_pow n (bl n) i hi2
      rw [eh]
      have s2 := sp (m / 2) (by omega)
      have esq : ((b ^ (m / 2) : Nat) : Int) * ((b ^ (m / 2) : Nat) : Int) = ((b ^ (m / 2 + m / 2) : Nat) : Int) := by
        rw [Nat.pow_add]
        push_cast
        rfl
      have s3 := sp (m / 2 + m / 2) (by omega)
      rw [← esq] at s3
      have enext : n / 2 ^ (bl n - (i + 1)) = m := by
        rw [em]
        congr 2
        omega
      have ebit : Builtin.bitAnd ((n : Int) / 2 ^ ((bl n - 1 - i : Nat) : Int).toNat) 1 = ((m % 2 : Nat) : Int) := by
        rw [Int.toNat_natCast, show (n : Int) / 2 ^ (bl n - 1 - i) = ((m : Nat) : Int) by rw [em]; push_cast; rfl, show (1 : Int) = ((1 : Nat) : Int) from rfl, bitAnd_pp (by omega) (by omega), Int.toNat_natCast, Int.toNat_natCast, Nat.and_one_is_mod]
      walk_at "rd"
      rw [ebit]
      refine ite2 (fun e => ?_) (fun e => ?_)
      · have h1 : m % 2 = 1 := by
          have : ((m % 2 : Nat) : Int) ≠ 0 := by simpa using e
          omega
        walk_at "rd"
        rw [enext]
        refine ⟨some (V.int ((bl n - 1 - i : Nat) : Int)), ?_, rfl⟩
        refine congrArg (fun z => [some (V.int b), some (V.int n), some (V.int z), some (V.int ((bl n - 1 - i : Nat) : Int))]) ?_
        show ((b ^ (m / 2) : Nat) : Int) * ((b ^ (m / 2) : Nat) : Int) * (b : Int) = _
        rw [esq, show ((b ^ (m / 2 + m / 2) : Nat) : Int) * (b : Int) = ((b ^ (m / 2 + m / 2) * b : Nat) : Int) by push_cast; rfl, ← Nat.pow_succ]
        congr 2
        omega
      · have h1 : m % 2 = 0 := by
          have : ((m % 2 : Nat) : Int) = 0 := by simpa using e
          omega
        refine ⟨some (V.int ((bl n - 1 - i : Nat) : Int)), ?_, rfl⟩
        rw [enext]
        refine congrArg (fun z => [some (V.int b), some (V.int n), some (V.int z), some (V.int ((bl n - 1 - i : Nat) : Int))]) ?_
        show ((b ^ (m / 2) : Nat) : Int) * ((b ^ (m / 2) : Nat) : Int) = _
        rw [esq]
        congr 2
        omega
    · intro σ H1 hP
      obtain ⟨c3, rfl, rfl⟩ := hP
      walk_at "rd"
      have e1 : (((bl n : Nat) : Int) - 0).toNat = bl n := by omega
      have e2 : n / 2 ^ (bl n - (((Builtin.Int.intBits (n : Int) : Nat) : Int) - 0).toNat) = n := by
        show n / 2 ^ (bl n - (((bl n : Nat) : Int) - 0).toNat) = n
        rw [e1, Nat.sub_self, Nat.pow_zero, Nat.div_one]
      rw [e2]
      exact q

def powI (z x y : Int) : Bool := decide (0 ≤ z) && (decide (0 ≤ x) && (decide (0 ≤ y) && decide (z = ((x.toNat ^ y.toNat : Nat) : Int))))
def sp__holds_power (K : PySem.W.Frag) : Sp := fun vs H Q _ => ∃ (z x y : Int), vs = [.int z, .int x, .int y] ∧ Sm 4100 z ∧ Sm 10 x ∧ Sm 200 y ∧ Q (.bl (powI z x y)) H
theorem ok__holds_power {f : Addr} {fd : FuncData} (F : Fun K "_holds_power" "_holds_power" s__holds_power f fd) (C_raised : Cal P w K mg base "raised" 1 ["base", "exponent"] (sp_raised K)) : FnOk P w K mg base CX0 2 f fd ["z", "x", "y"] (sp__holds_power K) := by
  refine F.ok sc__holds_power (fun vs H Q E h => ?_) (fun cdv A outer s H vs Q E hr h => ?_)
  · obtain ⟨z, x, y, rfl, _⟩ := h
    rfl
  · obtain ⟨z, x, y, rfl, sz, sx, sy, q⟩ := h
    refine ⟨_, (pss_cons (ps_if (PW.pt (pw_or (pt_cmpR op_lt (pv 0) pe_int (nomark _)) (pw_or (pt_cmpR op_lt (pv 1) pe_int (nomark _)) (pw_or1 (pt_cmpR op_lt (pv 2) pe_int (nomark _)))))) (pss_one (ps_ret pe_bl)) pss_nil)
      (pss_cons (ps_if (pt_cmpR op_lt (pv 1) pe_int (nomark _)) (pss_one (ps_ret (pe_cmpR op_eq (pv 0) (pe_ifExp (pt_cmpR op_eq (pv 2) pe_int (nomark _)) pe_int (pv 1)) (nomark _)))) pss_nil)
      (pss_cons (ps_if (pt_cmpR op_le (pe_bits (pv 0)) (pe_op op_mulX (pe_op op_sub (pe_bits (pv 1)) pe_int) (pv 2)) (nomark _)) (pss_one (ps_ret pe_bl)) pss_nil)
      (pss_one (ps_ret (pe_cmpR op_eq (pv 0) (pe_cal C_raised hr (by rfl) (pa_cons (pv 1) (pa_cons (pv 2) pa_nil))) (nomark _))))))), ?_⟩
    rw [st__holds_power]
    unfold powI at q
    walk_at "wk"
    refine ite2 (fun e => ?_) (fun e => ?_)
    · rw [decide_eq_false (show ¬ 0 ≤ z by have := of_decide_eq_true e; omega), Bool.false_and] at q
      exact q
    have z0 : 0 ≤ z := by
      by_cases c : z < 0
      · exact absurd (decide_eq_true c) e
      · omega
    walk_at "wk"
    refine ite2 (fun e => ?_) (fun e => ?_)
    · rw [decide_eq_false (show ¬ 0 ≤ x by have := of_decide_eq_true e; omega), Bool.false_and, Bool.and_false] at q
      exact q
    have x0 : 0 ≤ x := by
      by_cases c : x < 0
      · exact absurd (decide_eq_true c) e
      · omega
    walk_at "wk"
    refine ite2 (fun e => ?_) (fun e => ?_)
    · rw [decide_eq_false (show ¬ 0 ≤ y by have := of_decide_eq_true e; omega), Bool.false_and, Bool.and_false, Bool.and_false] at q
      exact q
    have y0 : 0 ≤ y := by
      by_cases c : y < 0
      · exact absurd (decide_eq_true c) e
      · omega
    rw [decide_eq_true z0, decide_eq_true x0, decide_eq_true y0, Bool.true_and, Bool.true_and, Bool.true_and] at q
    walk_at "wk"
    obtain ⟨zn, rfl⟩ : ∃ n : Nat, z = n := ⟨z.toNat, by omega⟩
    obtain ⟨xn, rfl⟩ : ∃ n : Nat, x = n := ⟨x.toNat, by omega⟩
    obtain ⟨yn, rfl⟩ : ∃ n : Nat, y = n := ⟨y.toNat, by omega⟩
    rw [Int.toNat_natCast, Int.toNat_natCast] at q
    refine ite2 (fun e => ?_) (fun e => ?_)
    · have x2 : xn < 2 := by
        have := of_decide_eq_true e
        omega
      refine ⟨_, rfl, _, rfl, ⟨rfl, _, rfl, ite2 (fun e2 => ?_) (fun e2 => ?_)⟩⟩
      · rw [dvi] at e2
        have y2 : yn = 0 := by
          have := of_decide_eq_true e2
          omega
        refine WK.cst (WK.eq_i ?_)
        rw [dvi]
        rw [y2, Nat.pow_zero] at q
        exact q
      · rw [dvi] at e2
        have y2 : yn ≠ 0 := fun z => e2 (decide_eq_true (by omega))
        refine ⟨_, rfl, WK.eq_i ?_⟩
        rw [dvi]
        have : xn ^ yn = xn := by
          have : xn = 0 ∨ xn = 1 := by omega
          rcases this with rfl | rfl
          · exact Nat.zero_pow (by omega)
          · exact Nat.one_pow _
        rw [this] at q
        exact q
    · have x2 : 2 ≤ xn := by
        by_cases c : xn < 2
        · exact absurd (decide_eq_true (by omega)) e
        · omega
      have hxb : 2 ≤ bl xn := by
        have := bl_lt xn
        by_cases c : 2 ≤ bl xn
        · exact c
        · have h4 := Nat.pow_le_pow_right (n := 2) (by decide) (show bl xn ≤ 1 by omega)
          omega
      have hx10 : xn < 2 ^ 10 := by
        unfold Sm at sx
        rw [Int.natAbs_natCast] at sx
        exact sx
      have hxb2 : bl xn ≤ 10 := by
        have h3 := bl_le (show 1 ≤ xn by omega)
        by_cases c : bl xn ≤ 10
        · exact c
        · have h4 := Nat.pow_le_pow_right (n := 2) (by decide) (show 10 ≤ bl xn - 1 by omega)
          omega
      obtain ⟨w, ew⟩ : ∃ w : Nat, bl xn = w + 1 := ⟨bl xn - 1, by omega⟩
      have ew2 : (Builtin.Int.intBits (xn : Int) : Int) - 1 = (w : Int) := by
        have : Builtin.Int.intBits (xn : Int) = w + 1 := ew
        omega
      have sw : Sm 64 (w : Int) := Sm.le (y := 100) (Sm.lit (k := 64)) (by omega) (by omega)
      have hzb : bl zn ≤ 4100 := by
        by_cases c : zn = 0
        · subst c
          decide
        · have h3 := bl_le (show 1 ≤ zn by omega)
          by_cases c : bl zn ≤ 4100
          · exact c
          · have h4 := Nat.pow_le_pow_right (n := 2) (by decide) (show 4100 ≤ bl zn - 1 by omega)
            unfold Sm at sz
            rw [Int.natAbs_natCast] at sz
            omega
      refine ⟨_, rfl, _, rfl, _, rfl, _, rfl, _, _, rfl, rfl, _, rfl, _, _, rfl, rfl, by rw [ew2]; exact Sm.mx sw sy (by decide), _, _, rfl, rfl, ⟨_, rfl, ?_⟩⟩
      rw [ew2, show (Builtin.Int.intBits (zn : Int) : Int) = (bl zn : Int) from rfl, show (w : Int) * (yn : Int) = ((w * yn : Nat) : Int) by push_cast; rfl]
      refine ite2 (fun e2 => ?_) (fun e2 => ?_)
      · have e3 : bl zn ≤ w * yn := by
          have := of_decide_eq_true e2
          omega
        have h1 := bl_lt zn
        have h2 := Nat.pow_le_pow_right (n := 2) (by decide) e3
        have h3 := bl_le (show 1 ≤ xn by omega)
        rw [ew, Nat.add_sub_cancel] at h3
        have h4 : (2 ^ w) ^ yn ≤ xn ^ yn := Nat.pow_le_pow_left h3 yn
        rw [← Nat.pow_mul] at h4
        rw [decide_eq_false (by omega)] at q
        exact q
      · have e3 : w * yn < bl zn := by
          by_cases c : bl zn ≤ w * yn
          · exact absurd (decide_eq_true (by omega)) e2
          · omega
        have h5 : yn ≤ w * yn := Nat.le_mul_of_pos_left yn (by omega)
        have h6 : Sm 50000 ((xn ^ yn : Nat) : Int) := by
          unfold Sm
          rw [Int.natAbs_natCast]
          have h7 : xn ^ yn ≤ (2 ^ 10) ^ yn := Nat.pow_le_pow_left (by omega) yn
          rw [← Nat.pow_mul] at h7
          exact Nat.lt_of_le_of_lt h7 (Nat.pow_lt_pow_right (by decide) (by omega))
        refine ⟨_, rfl, _, rfl, _, rfl, xn, yn, 50000, rfl, by omega, sx.mono (by decide), h6, by decide, by omega, WK.eq_i ?_⟩
        rw [dvi]
        exact q

def ZV (H : Hp) (f : Str → Int) (ks : List (L2.Key × V)) (z : Addr) (v : Int) : Prop := ∃ p : Poly, PD H z p ∧ evp f p = v ∧ ∀ t ∈ p, Sm 5000 t.2 ∧ t.1.length ≤ 100 ∧ ∀ x ∈ t.1, valV ks (.inr x) = some (.int (f x)) ∧ Sm 5000 (f x)
theorem ZV.keep {H H' : Hp} {f : Str → Int} {ks : List (L2.Key × V)} {z : Addr} {v : Int} (h : ZV H f ks z v) (s : Same H H') : ZV H' f ks z v := let ⟨p, a, b, c⟩ := h; ⟨p, s _ _ a, b, c⟩
def wdR (k : Nat) : Str := if k = 0 then Str.ofString "zero" else if k = 1 then Str.ofString "under" else if k = 2 then Str.ofString "power" else Str.ofString "row"
def relI (k : Nat) (vs : List Int) : Bool := match k, vs with
  | 0, [z] => decide (z = 0)
  | 1, [a, b] => undI a b
  | 2, [z, x, y] => powI z x y
  | 3, [y, n, a] => rowI y n a
  | _, _ => false
def sp_holds (K : PySem.W.Frag) : Sp := fun vs H Q _ => ∃ (a d : Addr) (k : Nat) (zs : List Addr) (ns : List Int) (ks : List (L2.Key × V)) (f : Str → Int), vs = [.ref a, .ref d] ∧ H a = some (.tup (.str (wdR k) :: zs.map V.ref)) ∧ Paired (ZV H f ks) zs ns ∧ H d = some (.dK ks) ∧ OkR k ns ∧
  ∀ H', Same H H' → Q (.bl (relI k ns)) H'
theorem ok_holds {f : Addr} {fd : FuncData} (F : Fun K "holds" "holds" s_holds f fd) (C__holds_row : Cal P w K mg base "_holds_row" 2 ["y", "n", "a"] (sp__holds_row K)) (C_value_of : Cal P w K mg base "value_of" 1 ["polynomial", "values"] (sp_value_of K)) (C__holds_under : Cal P w K mg base "_holds_under" 1 ["a", "b"] (sp__holds_under K)) (C__holds_power : Cal P w K mg base "_holds_power" 2 ["z", "x", "y"] (sp__holds_power K)) : FnOk P w K mg base CX0 3 f fd ["relation", "values"] (sp_holds K) := by
  refine F.ok sc_holds (fun vs H Q E h => ?_) (fun cdv A outer s H vs Q E hr h => ?_)
  · obtain ⟨a, d, k, zs, ns, ks, f, rfl, _⟩ := h
    rfl
  · obtain ⟨a, d, k, zs, ns, ks, f, rfl, hz, hp, hd, ok, q⟩ := h
    refine ⟨_, (pss_cons (ps_set (i := 2) sc_holds.nd rfl (.inl rfl) (pe_ix ix_tup (pv 0) pe_int (fun _ _ => rfl)))
      (pss_cons (ps_setLc (i := 3) (own := [("polynomial", 4)]) (g := (gName 4)) (by rfl) sc_holds.nd rfl rfl (sw_true rfl rfl rfl (by decide +kernel)) (pi_tup (pe_slice sl_tupA (pv 0) (po_some pe_int) po_none)) (blkOk_by (own := [("polynomial", 4)]) (N := ["relation", "values", "word", "numbers", "polynomial"]) (sc := defScope s_holds) (by decide +kernel)) (fun _ _ _ _ _ => (pg_name (i := 4) sc_holds.nd rfl (Or.inl rfl))) (fun _ _ _ _ _ => pts_nil) (fun _ _ _ _ _ => (pe_cal C_value_of (hr.mono (by decide)) (by rfl) (pa_cons (pv 4) (pa_cons (pv 1) pa_nil)))))
      (pss_cons (ps_if (pt_cmpR op_eq (pv 2) pe_str (nomark _)) (pss_one (ps_ret (pe_cmpR op_eq (pe_ix ix_list (pv 3) pe_int (fun _ _ => rfl)) pe_int (nomark _)))) pss_nil)
      (pss_cons (ps_if (pt_cmpR op_eq (pv 2) pe_str (nomark _)) (pss_one (ps_ret (pe_calS C__holds_under (hr.mono (by decide)) (by rfl) (pv 3)))) pss_nil)
      (pss_cons (ps_if (pt_cmpR op_eq (pv 2) pe_str (nomark _)) (pss_one (ps_ret (pe_calS C__holds_power hr (by rfl) (pv 3)))) pss_nil)
      (pss_one (ps_ret (pe_calS C__holds_row hr (by rfl) (pv 3))))))))), ?_⟩
    have hzl : zs.length = ns.length := Paired.length hp
    obtain ⟨hn0, hn⟩ := ok.len
    refine ⟨_, rfl, a, _, 0, .str (wdR k), rfl, rfl, sq_of hz, (show atI _ ((0 : Nat) : Int) = _ from atI_nat (j := 0) rfl), ?_⟩
    refine ⟨_, rfl, 1, rfl, a, _, rfl, sq_of hz, ?_⟩
    have ecut : cutV (V.str (wdR k) :: zs.map V.ref) (some 1) none = zs.map V.ref := by
      unfold cutV
      rw [HT.sIx_none, show (1 : Int) = ((1 : Nat) : Int) from rfl, HT.sIx_nat, List.length_cons, Nat.min_eq_left (by omega)]
      show ((zs.map V.ref).take _) = _
      rw [List.take_of_length_le (by simp)]
    refine ⟨fun e => ?_, fun _ t nt => ?_⟩
    · have e1 := e.1
      rw [show (1 : Int) = ((1 : Nat) : Int) from rfl, HT.sIx_nat, List.length_cons, Nat.min_eq_left (by omega)] at e1
      exact absurd e1 (by decide)
    rw [ecut]
    have ht : (upd H t (.tup (zs.map V.ref))) t = some (.tup (zs.map V.ref)) := upd_same
    have s1 := same_upd (o := .tup (zs.map V.ref)) nt
    refine ⟨t, rfl, ⟨_, sq_of ht⟩, fun D nD => ?_⟩
    generalize upd H t (.tup (zs.map V.ref)) = H1 at ht s1 nD ⊢
    refine lc_it (walk_tup (K := K) (a := t) (xs := zs.map V.ref)) (fun i H' => H' D = some (.lst ((ns.take i).map V.int)) ∧ Same H1 H') ?_ ?_ ?_ ?_
    · exact ⟨upd_same, same_upd nD⟩
    · rintro i H' _ ⟨_, s2⟩
      exact sq_of (s2 _ _ ht)
    · rintro i x H2 H3 lt ⟨hD, s2⟩ ⟨rfl, hx⟩
      obtain ⟨z, hz1, rfl⟩ := ref_at hx
      have li : i < ns.length := by rw [List.length_map] at lt; omega
      have hni : ns[i]? = some ns[i] := List.getElem?_eq_getElem li
      obtain ⟨z', hz', p, hp1, hp2, hp3⟩ := paired_at hp hni
      obtain rfl : z = z' := Option.some.inj (hz1.symm.trans hz')
      have s3 := s1.trans s2
      refine ⟨rfl, WK.yes (WK.ift ⟨_, rfl, _, rfl, z, d, p, ks, f, 5000, rfl, s3 _ _ hp1, s3 _ _ hd, hp3, by decide, fun H4 s4 => ?_⟩)⟩
      refine ⟨_, s4 _ _ hD, sz_lt (by rw [List.length_map, List.length_take]; omega), ?_, Same.new (s2.trans s4) nD⟩
      rw [hp2, List.take_add_one, hni, List.map_append]
      exact upd_same
    · rintro H2 ⟨hD, s2⟩
      have s3 := s1.trans s2
      rw [List.length_map, hzl, List.take_of_length_le (Nat.le_refl _)] at hD
      have q2 := q H2 s3
      rcases ok with ⟨rfl, z, rfl, sz⟩ | ⟨rfl, x, y, rfl, sx, sy⟩ | ⟨rfl, z, x, y, rfl, sz, sx, sy, _⟩ | ⟨rfl, y, n, b, rfl, sy, sn, sb, _⟩
      · refine ⟨_, rfl, ⟨rfl, _, rfl, ite2 (fun _ => ?_) (fun e => absurd (by decide +kernel) e)⟩⟩
        refine ⟨_, rfl, D, _, 0, .int z, rfl, rfl, .inl (.inl hD), rfl, rfl, ?_⟩
        show Q (.bl (decide (V.int z = V.int 0))) H2
        rw [dvi]
        exact q2
      · refine ⟨_, rfl, ⟨rfl, _, rfl, ite2 (fun e => absurd e (by decide +kernel)) (fun _ => ?_)⟩⟩
        refine ⟨_, rfl, ⟨rfl, _, rfl, ite2 (fun _ => ?_) (fun e => absurd (by decide +kernel) e)⟩⟩
        exact ⟨_, rfl, D, _, rfl, .inr (.inl (.inl hD)), _, _, rfl, q2⟩
      · refine ⟨_, rfl, ⟨rfl, _, rfl, ite2 (fun e => absurd e (by decide +kernel)) (fun _ => ?_)⟩⟩
        refine ⟨_, rfl, ⟨rfl, _, rfl, ite2 (fun e => absurd e (by decide +kernel)) (fun _ => ?_)⟩⟩
        refine ⟨_, rfl, ⟨rfl, _, rfl, ite2 (fun _ => ?_) (fun e => absurd (by decide +kernel) e)⟩⟩
        exact ⟨_, rfl, D, _, rfl, .inr (.inl (.inl hD)), _, _, _, rfl, sz, sx, sy, q2⟩
      · refine ⟨_, rfl, ⟨rfl, _, rfl, ite2 (fun e => absurd e (by decide +kernel)) (fun _ => ?_)⟩⟩
        refine ⟨_, rfl, ⟨rfl, _, rfl, ite2 (fun e => absurd e (by decide +kernel)) (fun _ => ?_)⟩⟩
        refine ⟨_, rfl, ⟨rfl, _, rfl, ite2 (fun e => absurd e (by decide +kernel)) (fun _ => ?_)⟩⟩
        exact ⟨_, rfl, D, _, rfl, .inr (.inl (.inl hD)), _, _, _, rfl, sy, sn, sb, fun H' s' => q H' (s3.trans s')⟩

def sp__law_clean (K : PySem.W.Frag) : Sp := fun vs H Q _ => ∃ (a : Addr) (p : Poly), vs = [.ref a] ∧ PD H a p ∧ KN p ∧ p.length ≤ 100000 ∧
  ∀ H' r, Same H H' → H r = none → PD H' r (nz p) → Q (.ref r) H'
theorem ok__law_clean {f : Addr} {fd : FuncData} (F : Fun K "_law_clean" "_law_clean" s__law_clean f fd)  : FnOk P w K mg base CX0 1 f fd ["poly"] (sp__law_clean K) := by
  refine F.ok sc__law_clean (fun vs H Q E h => ?_) (fun cdv A outer s H vs Q E hr h => ?_)
  · obtain ⟨a, p, rfl, _⟩ := h
    rfl
  · obtain ⟨a, p, rfl, hp, kn, hl, q⟩ := h
    refine ⟨_, (pss_cons (ps_set (i := 1) sc__law_clean.nd rfl (.inl rfl) pe_dnewT)
      (pss_cons (ps_lk (ps_for PassesOwn.never rfl (pi_keys (pv 0)) (pg_name (i := 2) sc__law_clean.nd rfl (.inl rfl)) (pss_one (ps_if (pt_cmpR op_ne (pe_dget (hu_of hr) (pv 0) (pv 2) (fun _ _ => rfl)) pe_int (nomark _)) (pss_one (ps_dput (hu_of hr) (pv 1) (pv 2) (pe_dget (hu_of hr) (pv 0) (pv 2) (fun _ _ => rfl)) (by rfl))) pss_nil))))
      (pss_one (ps_ret (pv 1))))), ?_⟩
    rw [st__law_clean]
    refine fun R nR => ?_
    have haR : a ≠ R := ne_of_none hp nR
    have hp1 : PD (upd H R (.dT [])) a p := same_upd nR _ _ hp
    have hR1 : (upd H R (.dT [])) R = some (.dT []) := upd_same
    have hm := mut_one hp1 trivial
    refine lkS_all [a] hm fun Hl L => ?_
    obtain ⟨ob, lk⟩ := L.at_ a (List.mem_singleton.mpr rfl) _ hp1
    have hRa : R ∉ [a] := fun z => haR (List.mem_singleton.mp z).symm
    have hRl : Hl R = some (.dT []) := (L.off R hRa).trans hR1
    refine ⟨_, rfl, a, ob, rfl, .inr ⟨_, lk, ?_⟩⟩
    refine for_it walk_keysT (fun i σ H' => ∃ c2 : Option V, σ = [some (.ref a), some (.ref R), c2] ∧ PD H' R (nz (p.take i)) ∧ ∀ b o, b ≠ R → Hl b = some o → H' b = some o) ?_ ?_ ?_ ?_
    · exact ⟨none, rfl, hRl, fun _ _ _ z => z⟩
    · rintro i σ H1 _ ⟨_, _, _, s⟩
      exact s _ _ haR lk
    · rintro i x σ H1 H2 lt ⟨c2, rfl, hD, s⟩ ⟨rfl, k, v, qk, hk, rfl, hq⟩
      obtain ⟨m, c, hpi, rfl, rfl⟩ := enc_at hk
      have hq : MT H2 qk m := by rw [kI_V] at hq; exact hq
      have hget : DGet H2 a (.ref qk) (some (.int c)) := by
        have := PD.get (.inr ⟨ob, s _ _ haR lk⟩) hq
        rw [getP_of kn hpi] at this
        exact this
      refine ⟨_, rfl, _, rfl, a, .int c, rfl, hget, ?_⟩
      refine WK.cst (WK.ne_i ⟨_, rfl, ite2 (fun e => ?_) fun e => ?_⟩)
      · have hc : c ≠ 0 := by
          rintro rfl
          simp at e
        refine ⟨_, rfl, _, rfl, a, .int c, rfl, hget, _, rfl, _, rfl, R, _, rfl, .inr ⟨enc (nz (p.take i)), kI m, qk, hD, rfl, hq.key, ?_, rfl⟩, ?_⟩
        · rw [enc_len]
          exact sz_lt (Nat.le_trans (nz_len _) (Nat.le_trans (List.length_take_le ..) (by rw [enc_len] at lt; omega)))
        · refine ⟨some (.ref qk), rfl, ?_, fun b o hb e => ?_⟩
          · rw [enc_put, putP_new (nz_fresh kn hpi), take_snoc hpi, nz_snoc, if_neg hc]
            exact upd_same
          · rw [upd_ne hb]
            exact s b o hb e
      · have hc : c = 0 := by
          by_cases z : c = 0
          · exact z
          · exact absurd (by simp [z]) e
        refine ⟨some (.ref qk), rfl, ?_, s⟩
        rw [take_snoc hpi, nz_snoc, if_pos hc]
        exact hD
    · rintro σ H1 ⟨c2, rfl, hD, s⟩
      rw [enc_len, List.take_of_length_le (Nat.le_refl _)] at hD
      refine ⟨fun d hd => ?_, _, rfl, q _ R (fun b o e => ?_) nR ((back_off hRa).trans hD)⟩
      · rw [List.mem_singleton.mp hd, lk]
        exact s _ _ haR lk
      · have hbR : b ≠ R := fun z => by rw [z, nR] at e; cases e
        have e1 : (upd H R (.dT [])) b = some o := (upd_ne hbR).trans e
        unfold back
        split
        · exact e1
        · rename_i hb
          exact s b o hbR ((L.off b hb).trans e1)

def GV (H : Hp) (a d : Addr) (v : Int) : Prop := ∃ (p : Poly) (ks : List (L2.Key × V)) (f : Str → Int), PD H a p ∧ H d = some (.dK ks) ∧ evp f p = v ∧ ∀ t ∈ p, Sm 5000 t.2 ∧ t.1.length ≤ 100 ∧ ∀ x ∈ t.1, valV ks (.inr x) = some (.int (f x)) ∧ Sm 5000 (f x)
def sp__law_given (K : PySem.W.Frag) : Sp := fun vs H Q _ => ∃ (v : Int) (n : Nat), vs = [.int v, .int n] ∧ Sm 4900 v ∧
  ∀ H' T a d, Same H H' → H T = none → H a = none → H d = none → H' T = some (.tup [.ref a, .ref d]) → GV H' a d v → Q (.ref T) H'
theorem ok__law_given {f : Addr} {fd : FuncData} (F : Fun K "_law_given" "_law_given" s__law_given f fd) (C__law_clean : Cal P w K mg base "_law_clean" 1 ["poly"] (sp__law_clean K)) : FnOk P w K mg base CX0 2 f fd ["value", "number"] (sp__law_given K) := by
  refine F.ok sc__law_given (fun vs H Q E h => ?_) (fun cdv A outer s H vs Q E hr h => ?_)
  · obtain ⟨v, n, rfl, _⟩ := h
    rfl
  · obtain ⟨v, n, rfl, sv, q⟩ := h
    refine ⟨_, (pss_cons (ps_if (pt_cmpR op_eq (pe_op op_mod (pv 1) pe_int) pe_int (nomark _)) (pss_one (ps_ret (pe_tup (pa_cons (pe_cal C__law_clean hr (by rfl) (pa_cons (pe_dispT hr.units0 (pps_cons (pe_tup pa_nil) (pv 0) pps_nil) (by rfl) (by rfl) (fun z => by cases z) (by decide)) pa_nil)) (pa_cons pe_dnewK pa_nil))))) pss_nil)
      (pss_cons (ps_if (PW.pt (pw_and (pt_cmpR op_eq (pe_op op_mod (pv 1) pe_int) pe_int (nomark _)) (pw_and1 (pt_cmpR op_ge (pv 0) pe_int (nomark _))))) (pss_one (ps_ret (pe_tup (pa_cons (pe_dispT hr.units0 (pps_cons (pe_tup (pa_cons pe_str pa_nil)) pe_int pps_nil) (by rfl) (by rfl) (fun z => by cases z) (by decide)) (pa_cons (pe_disp (pps_cons pe_str (pv 0) pps_nil) (by rfl) (by rfl) (fun z => by cases z) (by decide)) pa_nil))))) pss_nil)
      (pss_one (ps_ret (pe_tup (pa_cons (pe_cal C__law_clean hr (by rfl) (pa_cons (pe_dispT hr.units0 (pps_cons (pe_tup (pa_cons pe_str pa_nil)) pe_int (pps_cons (pe_tup pa_nil) (pe_op op_sub (pv 0) pe_int) pps_nil)) (by rfl) (by rfl) (fun z => by cases z) (by decide)) pa_nil)) (pa_cons (pe_disp (pps_cons pe_str pe_int pps_nil) (by rfl) (by rfl) (fun z => by cases z) (by decide)) pa_nil))))))), ?_⟩
    rw [st__law_given]
    walk_at "wk"
    have kn1 : KN [(([] : List Str), v)] := by unfold KN; simp
    refine ite2 (fun e => ?_) (fun e => ?_)
    · intro d nd
      refine ⟨Nat.le_of_ble_eq_true rfl, fun t nt => ⟨_, rfl, ?_⟩⟩
      have hd : (upd (upd H d (.dT [])) t (.tup [])) d = some (.dT []) := same_upd nt _ _ upd_same
      refine ⟨hd, [([], t, .int v)], rfl, fun x hx => ?_, Nat.le_of_ble_eq_true rfl, ?_⟩
      · rw [List.mem_singleton] at hx
        subst hx
        exact upd_same
      have s1 : Same H (upd (upd H d (.dT [])) t (.tup [])) := (same_upd nd).trans (same_upd nt)
      refine ⟨d, [([], v)], rfl, upd_same, kn1, Nat.le_of_ble_eq_true rfl, fun H' r s' nr hr => ?_⟩
      have s2 := (Same.new s1 nd).trans s'
      have nr0 : H r = none := (Same.new s1 nd).free nr
      refine fun d2 nd2 => ⟨Nat.le_of_ble_eq_true rfl, fun T nT => ?_⟩
      have s3 := same_upd (o := .dK []) nd2
      have s4 := same_upd (o := .tup [.ref r, .ref d2]) nT
      refine q _ T r d2 (s2.trans (s3.trans s4)) ((s2.trans s3).free nT) nr0 (s2.free nd2) upd_same ⟨nz [([], v)], [], fun _ => 0, s4 _ _ (s3 _ _ hr), s4 _ _ upd_same, ?_, ?_⟩
      · rw [evp_eq, sumv_nz, ← evp_eq]
        show evp _ [([], v)] = v
        simp [evp, ev1]
      · intro t ht
        have := nz_sub ht
        rw [List.mem_singleton] at this
        subst this
        exact ⟨sv.mono (by decide), Nat.zero_le _, fun x hx => (List.not_mem_nil hx).elim⟩
    walk_at "wk"
    refine ite2 (fun e2 => ?_) (fun e2 => ?_)
    · refine ⟨_, rfl, _, _, rfl, rfl, ⟨_, rfl, ite2 (fun e3 => ?_) (fun e3 => ?_)⟩⟩
      · have v0 : 0 ≤ v := of_decide_eq_true e3
        intro d nd
        refine ⟨Nat.le_of_ble_eq_true rfl, fun t nt => ?_⟩
        have sA := same_upd (o := .tup [.str (Str.ofString "x")]) nt
        have hd := sA _ _ (show (upd H d (.dT [])) d = some (.dT []) from upd_same)
        have ht : (upd (upd H d (.dT [])) t (.tup [.str (Str.ofString "x")])) t = some (.tup [.str (Str.ofString "x")]) := upd_same
        have s1 := (same_upd (o := .dT []) nd).trans sA
        generalize upd (upd H d (.dT [])) t (.tup [.str (Str.ofString "x")]) = H1 at hd ht s1 ⊢
        refine ⟨hd, [([.inr (Str.ofString "x")], t, .int 1)], rfl, fun x hx => ?_, Nat.le_of_ble_eq_true rfl, ?_⟩
        · rw [List.mem_singleton] at hx
          subst hx
          exact ht
        have s2 := Same.new (o := .dT [([.inr (Str.ofString "x")], .int 1)]) s1 nd
        refine fun d2 nd2 => ⟨_, rfl, upd_same, [(.inr (Str.ofString "x"), .int v)], rfl, Nat.le_of_ble_eq_true rfl, Nat.le_of_ble_eq_true rfl, fun T nT => ?_⟩
        have s3 := Same.new (o := .dK (mergeK [] [(.inr (Str.ofString "x"), .int v)])) (same_upd (o := .dK []) nd2) nd2
        have s4 := same_upd (o := .tup [.ref d, .ref d2]) nT
        refine q _ T d d2 (s2.trans (s3.trans s4)) ((s2.trans s3).free nT) nd (s2.free nd2) upd_same ⟨[([Str.ofString "x"], 1)], [(.inr (Str.ofString "x"), .int v)], fun _ => v, s4 _ _ (s3 _ _ upd_same), s4 _ _ upd_same, ?_, ?_⟩
        · simp [evp, ev1]
        · intro t ht
          rw [List.mem_singleton] at ht
          subst ht
          refine ⟨Sm.mono (j := 64) (Sm.lit (k := 64)) (by decide), Nat.le_of_ble_eq_true rfl, fun x hx => ?_⟩
          rw [List.mem_singleton] at hx
          subst hx
          exact ⟨rfl, sv.mono (by decide)⟩
      · intro d nd
        refine ⟨Nat.le_of_ble_eq_true rfl, fun t nt => ⟨Nat.le_of_ble_eq_true rfl, fun t2 nt2 => ⟨_, rfl, _, _, rfl, rfl, ?_⟩⟩⟩
        have sA := same_upd (o := .tup [.str (Str.ofString "x")]) nt
        have sB := same_upd (o := .tup []) nt2
        have hd := sB _ _ (sA _ _ (show (upd H d (.dT [])) d = some (.dT []) from upd_same))
        have ht := sB _ _ (show (upd (upd H d (.dT [])) t (.tup [.str (Str.ofString "x")])) t = some (.tup [.str (Str.ofString "x")]) from upd_same)
        have ht2 : (upd (upd (upd H d (.dT [])) t (.tup [.str (Str.ofString "x")])) t2 (.tup [])) t2 = some (.tup []) := upd_same
        have s1 := (same_upd (o := .dT []) nd).trans (sA.trans sB)
        generalize upd (upd (upd H d (.dT [])) t (.tup [.str (Str.ofString "x")])) t2 (.tup []) = H1 at hd ht ht2 s1 ⊢
        refine ⟨hd, [([.inr (Str.ofString "x")], t, .int 1), ([], t2, .int (v - 7))], rfl, fun x hx => ?_, Nat.le_of_ble_eq_true rfl, ?_⟩
        · simp only [List.mem_cons, List.not_mem_nil, or_false] at hx
          rcases hx with rfl | rfl
          · exact ht
          · exact ht2
        have knx : KN [([Str.ofString "x"], (1 : Int)), (([] : List Str), v - 7)] := by unfold KN; simp
        refine ⟨d, [([Str.ofString "x"], 1), ([], v - 7)], rfl, upd_same, knx, Nat.le_of_ble_eq_true rfl, fun H' r s' nr hr => ?_⟩
        have s2 := (Same.new s1 nd).trans s'
        have nr0 : H r = none := (Same.new s1 nd).free nr
        refine fun d2 nd2 => ⟨upd_same, [(.inr (Str.ofString "x"), .int 7)], rfl, Nat.le_of_ble_eq_true rfl, Nat.le_of_ble_eq_true rfl, fun T nT => ?_⟩
        have s3 := Same.new (o := .dK (mergeK [] [(.inr (Str.ofString "x"), .int 7)])) (same_upd (o := .dK []) nd2) nd2
        have s4 := same_upd (o := .tup [.ref r, .ref d2]) nT
        refine q _ T r d2 (s2.trans (s3.trans s4)) ((s2.trans s3).free nT) nr0 (s2.free nd2) upd_same ⟨nz [([Str.ofString "x"], 1), ([], v - 7)], [(.inr (Str.ofString "x"), .int 7)], fun _ => 7, s4 _ _ (s3 _ _ hr), s4 _ _ upd_same, ?_, ?_⟩
        · rw [evp_eq, sumv_nz, ← evp_eq]
          simp [evp, ev1]
          omega
        · intro t ht
          have := nz_sub ht
          simp only [List.mem_cons, List.not_mem_nil, or_false] at this
          rcases this with rfl | rfl
          · refine ⟨Sm.mono (j := 64) (Sm.lit (k := 64)) (by decide), Nat.le_of_ble_eq_true rfl, fun x hx => ?_⟩
            rw [List.mem_singleton] at hx
            subst hx
            exact ⟨rfl, Sm.mono (j := 64) (Sm.lit (k := 64)) (by decide)⟩
          · exact ⟨(sv.sub (Sm.mono (j := 64) (Sm.lit (k := 64)) (by decide))).mono (by decide), Nat.zero_le _, fun x hx => (List.not_mem_nil hx).elim⟩
    · refine (show _ from ?_)
      intro d nd
      refine ⟨Nat.le_of_ble_eq_true rfl, fun t nt => ⟨Nat.le_of_ble_eq_true rfl, fun t2 nt2 => ⟨_, rfl, _, _, rfl, rfl, ?_⟩⟩⟩
      have sA := same_upd (o := .tup [.str (Str.ofString "x")]) nt
      have sB := same_upd (o := .tup []) nt2
      have hd := sB _ _ (sA _ _ (show (upd H d (.dT [])) d = some (.dT []) from upd_same))
      have ht := sB _ _ (show (upd (upd H d (.dT [])) t (.tup [.str (Str.ofString "x")])) t = some (.tup [.str (Str.ofString "x")]) from upd_same)
      have ht2 : (upd (upd (upd H d (.dT [])) t (.tup [.str (Str.ofString "x")])) t2 (.tup [])) t2 = some (.tup []) := upd_same
      have s1 := (same_upd (o := .dT []) nd).trans (sA.trans sB)
      generalize upd (upd (upd H d (.dT [])) t (.tup [.str (Str.ofString "x")])) t2 (.tup []) = H1 at hd ht ht2 s1 ⊢
      refine ⟨hd, [([.inr (Str.ofString "x")], t, .int 1), ([], t2, .int (v - 7))], rfl, fun x hx => ?_, Nat.le_of_ble_eq_true rfl, ?_⟩
      · simp only [List.mem_cons, List.not_mem_nil, or_false] at hx
        rcases hx with rfl | rfl
        · exact ht
        · exact ht2
      have knx : KN [([Str.ofString "x"], (1 : Int)), (([] : List Str), v - 7)] := by unfold KN; simp
      refine ⟨d, [([Str.ofString "x"], 1), ([], v - 7)], rfl, upd_same, knx, Nat.le_of_ble_eq_true rfl, fun H' r s' nr hr => ?_⟩
      have s2 := (Same.new s1 nd).trans s'
      have nr0 : H r = none := (Same.new s1 nd).free nr
      refine fun d2 nd2 => ⟨upd_same, [(.inr (Str.ofString "x"), .int 7)], rfl, Nat.le_of_ble_eq_true rfl, Nat.le_of_ble_eq_true rfl, fun T nT => ?_⟩
      have s3 := Same.new (o := .dK (mergeK [] [(.inr (Str.ofString "x"), .int 7)])) (same_upd (o := .dK []) nd2) nd2
      have s4 := same_upd (o := .tup [.ref r, .ref d2]) nT
      refine q _ T r d2 (s2.trans (s3.trans s4)) ((s2.trans s3).free nT) nr0 (s2.free nd2) upd_same ⟨nz [([Str.ofString "x"], 1), ([], v - 7)], [(.inr (Str.ofString "x"), .int 7)], fun _ => 7, s4 _ _ (s3 _ _ hr), s4 _ _ upd_same, ?_, ?_⟩
      · rw [evp_eq, sumv_nz, ← evp_eq]
        simp [evp, ev1]
        omega
      · intro t ht
        have := nz_sub ht
        simp only [List.mem_cons, List.not_mem_nil, or_false] at this
        rcases this with rfl | rfl
        · refine ⟨Sm.mono (j := 64) (Sm.lit (k := 64)) (by decide), Nat.le_of_ble_eq_true rfl, fun x hx => ?_⟩
          rw [List.mem_singleton] at hx
          subst hx
          exact ⟨rfl, Sm.mono (j := 64) (Sm.lit (k := 64)) (by decide)⟩
        · exact ⟨(sv.sub (Sm.mono (j := 64) (Sm.lit (k := 64)) (by decide))).mono (by decide), Nat.zero_le _, fun x hx => (List.not_mem_nil hx).elim⟩

def sp__law_under (K : PySem.W.Frag) : Sp := fun vs H Q _ => ∃ (a b : Int), vs = [.int a, .int b] ∧ Sm 2900 a ∧ Q (.bl (undI a b)) H
theorem ok__law_under {f : Addr} {fd : FuncData} (F : Fun K "_law_under" "_law_under" s__law_under f fd) (m_range : mg "range" = none) : FnOk P w K mg base CX0 1 f fd ["a", "b"] (sp__law_under K) := by
  refine F.ok sc__law_under (fun vs H Q E h => ?_) (fun cdv A outer s H vs Q E hr h => ?_)
  · obtain ⟨a, b, rfl, _⟩ := h
    rfl
  · obtain ⟨a, b, rfl, sa, q⟩ := h
    refine ⟨_, (pss_cons (ps_if (PW.pt (pw_or (pt_cmpR op_lt (pv 0) pe_int (nomark _)) (pw_or1 (pt_cmpR op_lt (pv 1) pe_int (nomark _))))) (pss_one (ps_ret pe_bl)) pss_nil)
      (pss_cons (ps_for PassesOwn.never rfl (pi_range1 (by rfl) m_range (pa_cons pe_int pa_nil)) (pg_name (i := 2) sc__law_under.nd rfl (.inl rfl)) (pss_cons (ps_if (pt_cmpR op_gt (pe_op op_mod (pv 0) pe_int) (pe_op op_mod (pv 1) pe_int) (nomark _)) (pss_one (ps_ret pe_bl)) pss_nil)
      (pss_cons (ps_set (i := 0) sc__law_under.nd rfl (.inl rfl) (pe_op op_fdivW (pv 0) pe_int))
      (pss_cons (ps_set (i := 1) sc__law_under.nd rfl (.inl rfl) (pe_op op_fdivW (pv 1) pe_int))
      (pss_one (ps_if (pt_cmpR op_eq (pv 0) pe_int (nomark _)) (pss_one (ps_ret pe_bl)) pss_nil))))))
      (pss_one (ps_ret (pe_cmpR op_le (pv 0) (pv 1) (nomark _)))))), ?_⟩
    rw [st__law_under]
    walk_at "wk"
    unfold undI at q
    have n0 : ∀ z : Int, decide (z < 0) = true → decide (0 ≤ z) = false := fun z e => decide_eq_false (by have := of_decide_eq_true e; omega)
    refine ite2 (fun e => ?_) (fun e => ?_)
    · rw [n0 a e, Bool.false_and] at q
      exact q
    have a0 : 0 ≤ a := by
      by_cases z : a < 0
      · exact absurd (decide_eq_true z) e
      · omega
    walk_at "wk"
    refine ite2 (fun e => ?_) (fun e => ?_)
    · rw [n0 b e, Bool.false_and, Bool.and_false] at q
      exact q
    have b0 : 0 ≤ b := by
      by_cases z : b < 0
      · exact absurd (decide_eq_true z) e
      · omega
    rw [decide_eq_true a0, decide_eq_true b0, Bool.true_and, Bool.true_and] at q
    obtain ⟨an, rfl⟩ : ∃ an : Nat, a = an := ⟨a.toNat, by omega⟩
    obtain ⟨bn, rfl⟩ : ∃ bn : Nat, b = bn := ⟨b.toNat, by omega⟩
    rw [Int.toNat_natCast, Int.toNat_natCast] at q
    have ha : an < 2 ^ 2900 := by
      unfold Sm at sa
      rw [Int.natAbs_natCast] at sa
      exact sa
    walk_at "wk"
    refine for_rng (n := 3000) (fun k σ' H' => ∃ (x y : Nat) (c2 : Option V), σ' = [some (.int x), some (.int y), c2] ∧ (an &&& bn == an) = (x &&& y == x) ∧ (k = 0 ∨ x ≠ 0) ∧ x < 2 ^ (2900 - k) ∧ H' = H) ?_ ?_ ?_
    · exact ⟨an, bn, none, rfl, rfl, .inl rfl, ha, rfl⟩
    · rintro k σ' H' hk ⟨x, y, c2, rfl, ht, hz, hx, rfl⟩
      rw [und_step x y] at ht
      refine ⟨_, rfl, _, _, rfl, rfl, (by decide : (0 : Int) < 2), _, rfl, _, _, rfl, rfl, (by decide : (0 : Int) < 2), _, _, rfl, rfl, _, rfl, ite2 (fun e => ?_) (fun e => ?_)⟩
      · have e1 : x % 2 > y % 2 := by
          have : (x : Int) % 2 > (y : Int) % 2 := of_decide_eq_true e
          omega
        rw [decide_eq_true e1] at ht
        rw [ht] at q
        exact q
      · have e1 : ¬ x % 2 > y % 2 := fun l => e (decide_eq_true (by omega))
        rw [decide_eq_false e1] at ht
        have ht : (an &&& bn == an) = (x / 2 &&& y / 2 == x / 2) := ht
        refine ⟨_, rfl, _, _, rfl, rfl, ⟨by decide, by decide⟩, ?_⟩
        refine ⟨_, rfl, _, _, rfl, rfl, ⟨by decide, by decide⟩, ?_⟩
        dsimp only [List.set]
        rw [show (x : Int) / 2 = ((x / 2 : Nat) : Int) by omega, show (y : Int) / 2 = ((y / 2 : Nat) : Int) by omega]
        refine ⟨_, rfl, ⟨rfl, _, rfl, ite2 (fun e2 => ?_) (fun e2 => ?_)⟩⟩
        · rw [dvi] at e2
          have e3 : x / 2 = 0 := by
            have := of_decide_eq_true e2
            omega
          rw [e3, Nat.zero_and] at ht
          rw [ht] at q
          exact q
        · rw [dvi] at e2
          have e3 : x / 2 ≠ 0 := fun z => e2 (decide_eq_true (by omega))
          refine ⟨x / 2, y / 2, some (.int k), rfl, ht, .inr e3, ?_, rfl⟩
          rw [Nat.div_lt_iff_lt_mul (by decide), ← Nat.pow_succ]
          by_cases z : k < 2900
          · rw [show (2900 - (k + 1)).succ = 2900 - k by omega]
            exact hx
          · rw [show 2900 - k = 0 by omega] at hx
            exact absurd hx (by omega)
    · rintro σ' H' ⟨x, y, c2, rfl, ht, hz, hx, rfl⟩
      rw [show 2900 - 3000 = 0 from rfl] at hx
      rcases hz with hz | hz
      · exact absurd hz (by decide)
      · exact absurd hx (by omega)

theorem powI_nn {z x y : Int} (x0 : 0 ≤ x) (y0 : 0 ≤ y) : powI z x y = decide (z = ((x.toNat ^ y.toNat : Nat) : Int)) := by
  unfold powI
  rw [decide_eq_true x0, decide_eq_true y0, Bool.true_and, Bool.true_and]
  by_cases c : z = ((x.toNat ^ y.toNat : Nat) : Int)
  · rw [decide_eq_true (show 0 ≤ z by rw [c]; exact Int.natCast_nonneg _), Bool.true_and]
  · rw [decide_eq_false c, Bool.and_false]
theorem powI_gr {z x y : Int} (x0 : 0 ≤ x) (y0 : 600 < y) (sz : Sm 64 z) : powI z x y = (decide (x < 2) && decide (z = x)) := by
  rw [powI_nn x0 (by omega)]
  obtain ⟨xn, rfl⟩ : ∃ n : Nat, x = n := ⟨x.toNat, by omega⟩
  obtain ⟨yn, rfl⟩ : ∃ n : Nat, y = n := ⟨y.toNat, by omega⟩
  rw [Int.toNat_natCast, Int.toNat_natCast]
  by_cases c : xn < 2
  · have : xn ^ yn = xn := by
      have : xn = 0 ∨ xn = 1 := by omega
      rcases this with rfl | rfl
      · exact Nat.zero_pow (by omega)
      · exact Nat.one_pow _
    rw [this, decide_eq_true (show (xn : Int) < 2 by omega), Bool.true_and]
  · rw [decide_eq_false (show ¬ (xn : Int) < 2 by omega), Bool.false_and]
    refine decide_eq_false fun e => ?_
    have h1 : 2 ^ yn ≤ xn ^ yn := Nat.pow_le_pow_left (by omega) yn
    have h2 : 2 ^ 64 ≤ 2 ^ yn := Nat.pow_le_pow_right (by decide) (by omega)
    unfold Sm at sz
    rw [e, Int.natAbs_natCast] at sz
    omega
theorem rowI_nn {y n a : Int} (n0 : 0 ≤ n) (a2 : 2 ≤ a) : rowI y n a = decide (y = ry a n.toNat) := by
  unfold rowI
  rw [decide_eq_true n0, decide_eq_true a2, Bool.true_and, Bool.true_and]
  by_cases c : y = ry a n.toNat
  · have := (ry_big (s := 1) a2 (by show (2 : Int) ≤ _; omega) n.toNat).1
    rw [decide_eq_true (show 0 ≤ y by omega), Bool.true_and]
  · rw [decide_eq_false c, Bool.and_false]
theorem rowI_gr {y n a : Int} (n0 : 300 ≤ n) (a2 : 2 ≤ a) (sy : Sm 64 y) : rowI y n a = false := by
  rw [rowI_nn (by omega) a2]
  refine decide_eq_false fun e => ?_
  have := (ry_big (s := 1) a2 (by show (2 : Int) ≤ _; omega) (n.toNat - 1)).2.2
  rw [show n.toNat - 1 + 1 = n.toNat by omega, ← e] at this
  have h2 : 2 ^ 64 ≤ 2 ^ (1 * (n.toNat - 1)) := Nat.pow_le_pow_right (by decide) (by omega)
  unfold Sm at sy
  omega
def sp__law_told (K : PySem.W.Frag) : Sp := fun vs H Q _ => ∃ (k : Nat) (L : Addr) (ns : List Int), vs = [.int k, .ref L] ∧ H L = some (.lst (ns.map V.int)) ∧ OkR k ns ∧ Q (.bl (relI k ns)) H
theorem ok__law_told {f : Addr} {fd : FuncData} (F : Fun K "_law_told" "_law_told" s__law_told f fd) (C__law_under : Cal P w K mg base "_law_under" 1 ["a", "b"] (sp__law_under K)) (C__law_member : Cal P w K mg base "_law_member" 1 ["n", "a"] (sp__law_member K)) (m_range : mg "range" = none) : FnOk P w K mg base CX0 2 f fd ["kind", "values"] (sp__law_told K) := by
  refine F.ok sc__law_told (fun vs H Q E h => ?_) (fun cdv A outer s H vs Q E hr h => ?_)
  · obtain ⟨k, L, ns, rfl, _⟩ := h
    rfl
  · obtain ⟨k, L, ns, rfl, hL, ok, q⟩ := h
    refine ⟨_, (pss_cons (ps_if (pt_cmpR op_eq (pv 0) pe_int (nomark _)) (pss_one (ps_ret (pe_cmpR op_eq (pe_ix ix_list (pv 1) pe_int (fun _ _ => rfl)) pe_int (nomark _)))) pss_nil)
      (pss_cons (ps_if (pt_cmpR op_eq (pv 0) pe_int (nomark _)) (pss_one (ps_ret (pe_cal C__law_under hr (by rfl) (pa_cons (pe_ix ix_list (pv 1) pe_int (fun _ _ => rfl)) (pa_cons (pe_ix ix_list (pv 1) pe_int (fun _ _ => rfl)) pa_nil))))) pss_nil)
      (pss_cons (ps_if (pt_cmpR op_eq (pv 0) pe_int (nomark _)) (pss_cons (ps_if (PW.pt (pw_or (pt_cmpR op_lt (pe_ix ix_list (pv 1) pe_int (fun _ _ => rfl)) pe_int (nomark _)) (pw_or1 (pt_cmpR op_lt (pe_ix ix_list (pv 1) pe_int (fun _ _ => rfl)) pe_int (nomark _))))) (pss_one (ps_ret pe_bl)) pss_nil)
      (pss_cons (ps_if (pt_cmpR op_gt (pe_ix ix_list (pv 1) pe_int (fun _ _ => rfl)) pe_int (nomark _)) (pss_one (ps_ret (pe_and (pe_cmpR op_lt (pe_ix ix_list (pv 1) pe_int (fun _ _ => rfl)) pe_int (nomark _)) (pe_one (pe_cmpR op_eq (pe_ix ix_list (pv 1) pe_int (fun _ _ => rfl)) (pe_ix ix_list (pv 1) pe_int (fun _ _ => rfl)) (nomark _)))))) pss_nil)
      (pss_cons (ps_set (i := 2) sc__law_told.nd rfl (.inl rfl) pe_int)
      (pss_cons (ps_for PassesOwn.never rfl (pi_range1 (by rfl) m_range (pa_cons (pe_ix ix_list (pv 1) pe_int (fun _ _ => rfl)) pa_nil)) (pg_name (i := 3) sc__law_told.nd rfl (.inl rfl)) (pss_one (ps_set (i := 2) sc__law_told.nd rfl (.inl rfl) (pe_op op_mulX (pv 2) (pe_ix ix_list (pv 1) pe_int (fun _ _ => rfl))))))
      (pss_one (ps_ret (pe_cmpR op_eq (pe_ix ix_list (pv 1) pe_int (fun _ _ => rfl)) (pv 2) (nomark _)))))))) pss_nil)
      (pss_cons (ps_if (PW.pt (pw_or (pt_cmpR op_lt (pe_ix ix_list (pv 1) pe_int (fun _ _ => rfl)) pe_int (nomark _)) (pw_or1 (pt_cmpR op_lt (pe_ix ix_list (pv 1) pe_int (fun _ _ => rfl)) pe_int (nomark _))))) (pss_one (ps_ret pe_bl)) pss_nil)
      (pss_one (ps_ret (pe_and (pe_cmpR op_lt (pe_ix ix_list (pv 1) pe_int (fun _ _ => rfl)) pe_int (nomark _)) (pe_one (pe_cmpR op_eq (pe_ix ix_list (pv 1) pe_int (fun _ _ => rfl)) (pe_cal C__law_member hr (by rfl) (pa_cons (pe_ix ix_list (pv 1) pe_int (fun _ _ => rfl)) (pa_cons (pe_ix ix_list (pv 1) pe_int (fun _ _ => rfl)) pa_nil))) (nomark _)))))))))), ?_⟩
    rw [st__law_told]
    rcases ok with ⟨rfl, z, rfl, sz⟩ | ⟨rfl, x, y, rfl, sx, sy⟩ | ⟨rfl, z, x, y, rfl, sz, sx, sy, gr⟩ | ⟨rfl, y, n, b, rfl, sy, sn, sb, gr⟩
    · walk_at "wk"
      refine ite2 (fun _ => ?_) (fun e => absurd (by decide +kernel) e)
      walk_at "wk"
      rw [dvi]
      exact q
    · walk_at "wk"
      refine ite2 (fun e => absurd e (by decide +kernel)) (fun _ => ?_)
      walk_at "wk"
      refine ite2 (fun _ => ?_) (fun e => absurd (by decide +kernel) e)
      walk_at "wk"
      exact ⟨_, _, rfl, sx, q⟩
    · have q : Q (.bl (powI z x y)) H := q
      walk_at "wk"
      refine ite2 (fun e => absurd e (by decide +kernel)) (fun _ => ?_)
      walk_at "wk"
      refine ite2 (fun e => absurd e (by decide +kernel)) (fun _ => ?_)
      walk_at "wk"
      refine ite2 (fun _ => ?_) (fun e => absurd (by decide +kernel) e)
      walk_at "wk"
      refine ite2 (fun e => ?_) (fun e => ?_)
      · have e := of_decide_eq_true e
        rw [show powI z x y = false by unfold powI; rw [decide_eq_false (show ¬ 0 ≤ x by omega), Bool.false_and, Bool.and_false]] at q
        exact q
      have x0 : 0 ≤ x := by
        by_cases c : x < 0
        · exact absurd (decide_eq_true c) e
        · omega
      walk_at "wk"
      refine ite2 (fun e => ?_) (fun e => ?_)
      · have e := of_decide_eq_true e
        rw [show powI z x y = false by unfold powI; rw [decide_eq_false (show ¬ 0 ≤ y by omega), Bool.false_and, Bool.and_false, Bool.and_false]] at q
        exact q
      have y0 : 0 ≤ y := by
        by_cases c : y < 0
        · exact absurd (decide_eq_true c) e
        · omega
      walk_at "wk"
      refine ite2 (fun e => ?_) (fun e => ?_)
      · have e := of_decide_eq_true e
        rw [powI_gr x0 e (gr e)] at q
        walk_at "wk"
        refine ite2 (fun e2 => ?_) (fun e2 => ?_)
        · walk_at "wk"
          rw [dvi]
          rw [e2, Bool.true_and] at q
          exact q
        · rw [Bool.eq_false_iff.mpr e2, Bool.false_and] at q
          exact q
      have y6 : y ≤ 600 := by
        by_cases c : 600 < y
        · exact absurd (decide_eq_true c) e
        · omega
      rw [powI_nn x0 y0] at q
      obtain ⟨xn, rfl⟩ : ∃ n : Nat, x = n := ⟨x.toNat, by omega⟩
      obtain ⟨yn, rfl⟩ : ∃ n : Nat, y = n := ⟨y.toNat, by omega⟩
      rw [Int.toNat_natCast, Int.toNat_natCast] at q
      walk_at "wk"
      rw [Int.toNat_natCast]
      refine for_rng (n := yn) (fun k σ' H' => ∃ c3 : Option V, σ' = [some (.int ((2 : Nat) : Int)), some (.ref L), some (.int ((xn ^ k : Nat) : Int)), c3] ∧ H' = H) ?_ ?_ ?_
      · exact ⟨none, rfl, rfl⟩
      · rintro k σ' H' hk ⟨c3, rfl, rfl⟩
        have h6 : Sm (10 * k + 1) ((xn ^ k : Nat) : Int) := by
          have := sx.pw k
          push_cast
          exact this
        have e1 : ((xn ^ (k + 1) : Nat) : Int) = ((xn ^ k : Nat) : Int) * (xn : Int) := by
          rw [Nat.pow_succ]
          push_cast
          rfl
        walk_at "wk"
        rw [e1]
        exact ⟨_, rfl, rfl⟩
      · rintro σ' H' ⟨c3, rfl, rfl⟩
        walk_at "wk"
        rw [dvi]
        exact q
    · have q : Q (.bl (rowI y n b)) H := q
      walk_at "wk"
      refine ite2 (fun e => absurd e (by decide +kernel)) (fun _ => ?_)
      walk_at "wk"
      refine ite2 (fun e => absurd e (by decide +kernel)) (fun _ => ?_)
      walk_at "wk"
      refine ite2 (fun e => absurd e (by decide +kernel)) (fun _ => ?_)
      walk_at "wk"
      refine ite2 (fun e => ?_) (fun e => ?_)
      · have e := of_decide_eq_true e
        rw [show rowI y n b = false by unfold rowI; rw [decide_eq_false (show ¬ 2 ≤ b by omega), Bool.false_and, Bool.and_false, Bool.and_false]] at q
        exact q
      have b2 : 2 ≤ b := by
        by_cases c : b < 2
        · exact absurd (decide_eq_true c) e
        · omega
      walk_at "wk"
      refine ite2 (fun e => ?_) (fun e => ?_)
      · have e := of_decide_eq_true e
        rw [show rowI y n b = false by unfold rowI; rw [decide_eq_false (show ¬ 0 ≤ n by omega), Bool.false_and, Bool.and_false]] at q
        exact q
      have n0 : 0 ≤ n := by
        by_cases c : n < 0
        · exact absurd (decide_eq_true c) e
        · omega
      walk_at "wk"
      refine ite2 (fun e => ?_) (fun e => ?_)
      · have e := of_decide_eq_true e
        rw [rowI_nn n0 b2] at q
        obtain ⟨m, rfl⟩ : ∃ m : Nat, n = m := ⟨n.toNat, by omega⟩
        walk_at "wk"
        refine ⟨m, b, rfl, by omega, sb, ?_⟩
        walk_at "wk"
        rw [dvi]
        exact q
      · have n3 : 300 ≤ n := by
          by_cases c : n < 300
          · exact absurd (decide_eq_true c) e
          · omega
        rw [rowI_gr n3 b2 (gr n3)] at q
        exact q

def CV (H : Hp) (z : Addr) (v : Int) : Prop := PD H z (nz [([], v)]) ∧ Sm 4900 v
theorem CV.keep {H H' : Hp} {z : Addr} {v : Int} (h : CV H z v) (s : Same H H') : CV H' z v := ⟨s _ _ h.1, h.2⟩
theorem CV.zv {H : Hp} {z : Addr} {v : Int} (h : CV H z v) (f : Str → Int) (ks : List (L2.Key × V)) : ZV H f ks z v := by
  refine ⟨_, h.1, ?_, fun t ht => ?_⟩
  · rw [evp_eq, sumv_nz, ← evp_eq]
    show evp _ [([], v)] = v
    simp [evp, ev1]
  · have := nz_sub ht
    rw [List.mem_singleton] at this
    subst this
    exact ⟨h.2.mono (by decide), Nat.zero_le _, fun x hx => (List.not_mem_nil hx).elim⟩
theorem OkR.sm {k : Nat} {vs : List Int} (h : OkR k vs) : ∀ v ∈ vs, Sm 4100 v := by
  intro v hv
  rcases h with ⟨_, z, rfl, s⟩ | ⟨_, a, b, rfl, s, s2⟩ | ⟨_, z, x, y, rfl, s, s2, s3, _⟩ | ⟨_, y, n, a, rfl, s, s2, s3, _⟩ <;> simp only [List.mem_cons, List.not_mem_nil, or_false] at hv
  · subst hv; exact s.mono (by decide)
  · rcases hv with rfl | rfl
    · exact s.mono (by decide)
    · exact s2.mono (by decide)
  · rcases hv with rfl | rfl | rfl
    · exact s
    · exact s2.mono (by decide)
    · exact s3.mono (by decide)
  · rcases hv with rfl | rfl | rfl
    · exact s.mono (by decide)
    · exact s2.mono (by decide)
    · exact s3.mono (by decide)
def sp_law (K : PySem.W.Frag) : Sp := fun vs H Q _ => ∃ (a : Addr) (ns : List Int), vs = [.ref a] ∧ SqL K H a (ns.map V.int) ∧ ns.length ≤ 63 ∧ ∀ H', Q (.bl true) H'
theorem ok_law {f : Addr} {fd : FuncData} (F : Fun K "law" "law" s_law f fd) (C__law_numbers : Cal P w K mg base "_law_numbers" 1 ["script", "many"] (sp__law_numbers K)) (C__law_numbers_of : Cal P w K mg base "_law_numbers_of" 2 ["kind", "numbers", "place"] (sp__law_numbers_of K)) (C__law_take : Cal P w K mg base "_law_take" 1 ["numbers", "place"] (sp__law_take K)) (C_holds : Cal P w K mg base "holds" 3 ["relation", "values"] (sp_holds K)) (C_row_member : Cal P w K mg base "row_member" 1 ["n", "a"] (sp_row_member K)) (C__law_member : Cal P w K mg base "_law_member" 1 ["n", "a"] (sp__law_member K)) (C__law_given : Cal P w K mg base "_law_given" 2 ["value", "number"] (sp__law_given K)) (C__law_told : Cal P w K mg base "_law_told" 2 ["kind", "values"] (sp__law_told K)) (C__law_clean : Cal P w K mg base "_law_clean" 1 ["poly"] (sp__law_clean K)) (m_range : mg "range" = none) (m_len : mg "len" = none) (m_tuple : mg "tuple" = none) (m_isinstance : mg "isinstance" = none) (m_bool : mg "bool" = none) : FnOk P w K mg base CX0 4 f fd ["script"] (sp_law K) := by
  refine F.ok sc_law (fun vs H Q E h => ?_) (fun cdv A outer s H vs Q E hr h => ?_)
  · obtain ⟨a, ns, rfl, _⟩ := h
    rfl
  · obtain ⟨sa, ns, rfl, hS, hlen, q⟩ := h
    refine ⟨_, (pss_cons (ps_set (i := 1) sc_law.nd rfl (.inl rfl) (pe_cal C__law_numbers (hr.mono (by decide)) (by rfl) (pa_cons (pv 0) (pa_cons pe_int pa_nil))))
      (pss_cons (ps_set (i := 2) sc_law.nd rfl (.inl rfl) (pe_lst (pa_cons pe_int pa_nil)))
      (pss_cons (ps_for PassesOwn.never rfl (pi_range1 (by rfl) m_range (pa_cons pe_int pa_nil)) (pg_name (i := 3) sc_law.nd rfl (.inl rfl)) (pss_cons (ps_set (i := 4) sc_law.nd rfl (.inl rfl) (pe_op op_mod (pe_cal C__law_take (hr.mono (by decide)) (by rfl) (pa_cons (pv 1) (pa_cons (pv 2) pa_nil))) pe_int))
      (pss_cons (ps_set (i := 5) sc_law.nd rfl (.inl rfl) (pe_cal C__law_numbers_of (hr.mono (by decide)) (by rfl) (pa_cons (pv 4) (pa_cons (pv 1) (pa_cons (pv 2) pa_nil)))))
      (pss_cons (ps_set (i := 6) sc_law.nd rfl (.inl rfl) (pe_cal C__law_take (hr.mono (by decide)) (by rfl) (pa_cons (pv 1) (pa_cons (pv 2) pa_nil))))
      (pss_cons (ps_set (i := 7) sc_law.nd rfl (.inl rfl) (pe_lst pa_nil))
      (pss_cons (ps_set (i := 8) sc_law.nd rfl (.inl rfl) pe_dnewK)
      (pss_cons (ps_for PassesOwn.never rfl (pi_range1 (by rfl) m_range (pa_cons (pe_callB call_len_seq (by rfl) m_len (by decide +kernel) (pa_cons (pv 5) pa_nil)) pa_nil)) (pg_name (i := 9) sc_law.nd rfl (.inl rfl)) (pss_one (ps_if (pt_cmpR op_eq (pv 9) (pe_op op_mod (pv 6) (pe_callB call_len_seq (by rfl) m_len (by decide +kernel) (pa_cons (pv 5) pa_nil))) (nomark _)) (pss_cons (ps_set (i := 10) sc_law.nd rfl (.inl rfl) (pe_cal C__law_given (hr.mono (by decide)) (by rfl) (pa_cons (pe_ix ix_list (pv 5) (pv 9) (fun _ _ => rfl)) (pa_cons (pe_op op_fdivW (pv 6) pe_int) pa_nil))))
      (pss_cons (ps_expr (pe_bm PySem.F.plainAttrs_list PySem.F.slot_list_append PySem.F.type_list_append mt_append (pv 7) (pa_cons (pe_ix ix_tup (pv 10) pe_int (fun _ _ => rfl)) pa_nil)))
      (pss_one (ps_set (i := 8) sc_law.nd rfl (.inl rfl) (pe_ix ix_tup (pv 10) pe_int (fun _ _ => rfl)))))) (pss_one (ps_expr (pe_bm PySem.F.plainAttrs_list PySem.F.slot_list_append PySem.F.type_list_append mt_append (pv 7) (pa_cons (pe_cal C__law_clean (hr.mono (by decide)) (by rfl) (pa_cons (pe_dispT hr.units0 (pps_cons (pe_tup pa_nil) (pe_ix ix_list (pv 5) (pv 9) (fun _ _ => rfl)) pps_nil) (by rfl) (by rfl) (fun z => by cases z) (by decide)) pa_nil)) pa_nil)))))))
      (pss_cons (ps_set (i := 11) sc_law.nd rfl (.inl rfl) (pe_op op_catA (pe_tup (pa_cons (pe_ix ix_tup (pe_tup (pa_cons pe_str (pa_cons pe_str (pa_cons pe_str (pa_cons pe_str pa_nil))))) (pv 4) (fun _ _ => rfl)) pa_nil)) (pe_callTy call_tuple_of (by rfl) m_tuple (by decide +kernel) (pa_cons (pv 7) pa_nil))))
      (pss_cons (ps_set (i := 12) sc_law.nd rfl (.inl rfl) (pe_cal C_holds hr (by rfl) (pa_cons (pv 11) (pa_cons (pv 8) pa_nil))))
      (pss_one (ps_if (PW.pt (pw_or (pt_not (pt_val (pe_callB call_isi (by rfl) m_isinstance (by decide +kernel) (pa_cons (pv 12) (pa_cons (pe_bltn (v := .ty "bool") rfl m_bool (by decide +kernel) rfl) pa_nil))))) (pw_or1 (pt_cmpR op_ne (pv 12) (pe_cal C__law_told (hr.mono (by decide)) (by rfl) (pa_cons (pv 4) (pa_cons (pv 5) pa_nil))) (nomark _))))) (pss_one (ps_ret pe_bl)) pss_nil)))))))))))
      (pss_cons (ps_set (i := 13) sc_law.nd rfl (.inl rfl) (pe_op op_mod (pe_cal C__law_take (hr.mono (by decide)) (by rfl) (pa_cons (pv 1) (pa_cons (pv 2) pa_nil))) pe_int))
      (pss_cons (ps_set (i := 14) sc_law.nd rfl (.inl rfl) (pe_op op_add pe_int (pe_op op_mod (pe_cal C__law_take (hr.mono (by decide)) (by rfl) (pa_cons (pv 1) (pa_cons (pv 2) pa_nil))) pe_int)))
      (pss_one (ps_ret (pe_cmpR op_eq (pe_cal C_row_member (hr.mono (by decide)) (by rfl) (pa_cons (pv 13) (pa_cons (pv 14) pa_nil))) (pe_cal C__law_member (hr.mono (by decide)) (by rfl) (pa_cons (pv 13) (pa_cons (pv 14) pa_nil))) (nomark _))))))))), ?_⟩
    rw [st_law]
    walk_at "wk"
    refine ⟨sa, ns, 24, rfl, hS, hlen, by decide, fun H1 l ds s1 nl hl hdl hds => ?_⟩
    walk_at "wk"
    intro p np
    have T0 : TK (upd H1 p (.lst [.int 0])) l p ds := ⟨by rw [upd_ne (ne_of_none hl np)]; exact hl, ne_of_none hl np, by omega, ⟨0, upd_same⟩, hds⟩
    generalize upd H1 p (.lst [.int 0]) = H2 at T0 ⊢
    walk_at "wk"
    refine for_rng (n := 2) (fun i σ' H' => ∃ c3 c4 c5 c6 c7 c8 c9 c10 c11 c12 : Option V, σ' = [some (.ref sa), some (.ref l), some (.ref p), c3, c4, c5, c6, c7, c8, c9, c10, c11, c12, none, none] ∧ TK H' l p ds) ?_ ?_ ?_
    · exact ⟨_, _, _, _, _, _, _, _, _, _, rfl, T0⟩
    · rintro i σ' H3 hi ⟨c3, c4, c5, c6, c7, c8, c9, c10, c11, c12, rfl, T3⟩
      walk_at "wk"
      refine ⟨l, p, ds, rfl, T3, fun kn H4 _ T4 x4 => ?_⟩
      walk_at "wk"
      obtain ⟨k, ek⟩ : ∃ k : Nat, k = kn % 4 := ⟨_, rfl⟩
      have hk : k < 4 := by omega
      rw [show ((kn : Int) % 4) = ((k : Nat) : Int) by omega]
      refine ⟨k, l, p, ds, rfl, hk, T4, fun r zs H5 T5 x5 nr hr5 ok => ?_⟩
      walk_at "wk"
      refine ⟨l, p, ds, rfl, T5, fun at' H6 _ T6 x6 => ?_⟩
      have hr6 := x6 r _ (T4.newp nr) hr5
      obtain ⟨z1, z3⟩ := ok.len
      have hz := ok.sm
      walk_at "wk"
      intro P nP
      obtain ⟨T7, x7, hP, Pp⟩ := T6.new (o := .lst []) nP
      have hr7 := x7 r _ (T4.newp nr) hr6
      have rP : r ≠ P := ne_at hr6 nP
      have lP : l ≠ P := ne_at T6.l_ nP
      generalize upd H6 P (.lst []) = H7 at T7 x7 hP hr7 ⊢
      walk_at "wk"
      intro G nG
      have s8 := same_upd (o := .dK []) nG
      have T8 := T7.keep s8
      have hr8 := s8 _ _ hr7
      have hP8 := s8 _ _ hP
      have hG : (upd H7 G (.dK [])) G = some (.dK []) := upd_same
      generalize upd H7 G (.dK []) = H8 at T8 hr8 hP8 hG ⊢
      walk_at "wk"
      refine ⟨r, _, rfl, .inl (.inl (.inl hr8)), ?_⟩
      walk_at "wk"
      rw [List.length_map, Int.toNat_natCast]
      walk_at "wk"
      obtain ⟨m, em⟩ : ∃ m : Nat, m = at' % zs.length := ⟨_, rfl⟩
      have hm : m < zs.length := by rw [em]; exact Nat.mod_lt _ (by omega)
      refine for_rng (n := zs.length) (fun j σ' H' => ∃ (c9 c10 : Option V) (g : Addr) (ks : List (L2.Key × V)) (fv : Str → Int) (qs : List Addr), σ' = [some (.ref sa), some (.ref l), some (.ref p), some (.int i), some (.int k), some (.ref r), some (.int at'), some (.ref P), some (.ref g), c9, c10, c11, c12, none, none] ∧
        TK H' l p ds ∧ H' r = some (.lst (zs.map V.int)) ∧ H' P = some (.lst (qs.map V.ref)) ∧ qs.length = j ∧ H' g = some (.dK ks) ∧ (m < j ∨ ks = []) ∧ ∀ (t : Nat) (q : Addr) (z : Int), qs[t]? = some q → zs[t]? = some z → if t = m then ZV H' fv ks q z else CV H' q z) ?_ ?_ ?_
      · exact ⟨_, _, G, [], fun _ => 0, [], rfl, T8, hr8, hP8, rfl, hG, .inr rfl, fun t q z e => by simp at e⟩
      · rintro j σ' H9 hj ⟨c9, c10, g, ks, fv, qs, rfl, T9, hr9, hP9, hq, hg, hmj, hz9⟩
        have hzj : zs[j]? = some zs[j] := List.getElem?_eq_getElem hj
        have svj := hz _ (List.mem_of_getElem? hzj)
        generalize zs[j] = v at hzj svj
        walk_at "wk"
        refine ⟨r, _, rfl, .inl (.inl (.inl hr9)), ?_⟩
        rw [List.length_map]
        walk_at "wk"
        rw [dvi]
        refine ite2 (fun e => ?_) (fun e => ?_)
        · have ejm : j = m := by
            have := of_decide_eq_true e
            rw [em]
            omega
          walk_at "wk"
          refine ⟨r, _, (j : Int), .int v, rfl, rfl, .inl (.inl hr9), atI_nat (by rw [List.getElem?_map, hzj]; rfl), ?_⟩
          walk_at "wk"
          rw [show (at' : Int) / 4 = ((at' / 4 : Nat) : Int) by omega]
          refine ⟨v, at' / 4, rfl, svj.mono (by decide), fun H10 T a d s10 nT na nd hT gv => ?_⟩
          walk_at "wk"
          have hP10 := s10 _ _ hP9
          refine ⟨.inl ⟨rfl, _, .inl (.inl hP10)⟩, ?_⟩
          walk_at "wk"
          refine app_go hP10 (by rw [List.length_map]; exact sz_lt (by omega)) ?_
          walk_at "wk"
          have TP : T ≠ P := fun e => by rw [e] at nT; rw [nT] at hP9; cases hP9
          have hT2 : (upd H10 P (.lst (qs.map V.ref ++ [V.ref a]))) T = some (.tup [.ref a, .ref d]) := by rw [upd_ne TP]; exact hT
          refine ixT_as (i := 1) (sq_of hT2) rfl ?_
          walk_at "wk"
          obtain ⟨pp, ks2, f2, g1, g2, g3, g4⟩ := gv
          have exP : ∀ b o, H9 b = some o → b ≠ P → (upd H10 P (.lst (qs.map V.ref ++ [V.ref a]))) b = some o := fun b o e n => by rw [upd_ne n]; exact s10 _ _ e
          have aP : a ≠ P := fun e => by rw [e] at na; rw [na] at hP9; cases hP9
          have dP : d ≠ P := fun e => by rw [e] at nd; rw [nd] at hP9; cases hP9
          refine ⟨_, _, d, ks2, f2, qs ++ [a], rfl, ?_, exP _ _ hr9 rP, by rw [upd_same, List.map_append]; rfl, by rw [List.length_append, hq]; rfl, by rw [upd_ne dP]; exact g2, .inl (by omega), ?_⟩
          · exact T9.off s10 lP Pp.symm
          · intro t q' z e1 e2
            by_cases c : t < qs.length
            · rw [List.getElem?_append_left c] at e1
              have := hz9 t q' z e1 e2
              rw [if_neg (by omega)] at this ⊢
              have := this.keep s10
              exact ⟨by have h := this.1; unfold PD at h ⊢; rw [upd_ne (fun e => by rw [e, hP10] at h; cases h)]; exact h, this.2⟩
            · have ht : t = j := by
                have := (List.getElem?_eq_some_iff.mp e1).1
                rw [List.length_append] at this
                have : t < qs.length + 1 := this
                omega
              subst ht
              rw [List.getElem?_append_right (by omega), hq, Nat.sub_self] at e1
              obtain rfl : a = q' := Option.some.inj e1
              obtain rfl : v = z := Option.some.inj (hzj.symm.trans e2)
              rw [if_pos ejm]
              exact ⟨pp, by unfold PD at g1 ⊢; rw [upd_ne aP]; exact g1, g3, g4⟩
        · have ejm : j ≠ m := fun z => e (decide_eq_true (by rw [z, em]; omega))
          walk_at "wk"
          intro d nd
          refine ⟨Nat.le_of_ble_eq_true rfl, fun t nt => ⟨_, rfl, _, rfl, r, _, (j : Int), .int v, rfl, rfl, .inl (.inl (same_upd nt _ _ (same_upd nd _ _ hr9))), atI_nat (by rw [List.getElem?_map, hzj]; rfl), ?_⟩⟩
          have hd : (upd (upd H9 d (.dT [])) t (.tup [])) d = some (.dT []) := same_upd nt _ _ upd_same
          refine ⟨hd, [([], t, .int v)], rfl, fun x hx => ?_, Nat.le_of_ble_eq_true rfl, ?_⟩
          · rw [List.mem_singleton] at hx
            subst hx
            exact upd_same
          have s10 : Same H9 (upd (upd H9 d (.dT [])) t (.tup [])) := (same_upd nd).trans (same_upd nt)
          have kn1 : KN [(([] : List Str), v)] := by unfold KN; simp
          refine ⟨d, [([], v)], rfl, upd_same, kn1, Nat.le_of_ble_eq_true rfl, fun H10 a s' na ha => ?_⟩
          have s11 := (Same.new s10 nd).trans s'
          have na0 : H9 a = none := (Same.new s10 nd).free na
          have hP10 := s11 _ _ hP9
          dsimp only
          walk_at "wk"
          refine app_go hP10 (by rw [List.length_map]; exact sz_lt (by omega)) ?_
          have exP : ∀ b o, H9 b = some o → b ≠ P → (upd H10 P (.lst (qs.map V.ref ++ [V.ref a]))) b = some o := fun b o e n => by rw [upd_ne n]; exact s11 _ _ e
          have aP : a ≠ P := (ne_at hP9 na0).symm
          have gP : g ≠ P := fun e => by rw [e, hP9] at hg; cases hg
          refine ⟨_, _, g, ks, fv, qs ++ [a], rfl, T9.off s11 lP Pp.symm, exP _ _ hr9 rP, by rw [upd_same, List.map_append]; rfl, by rw [List.length_append, hq]; rfl, exP _ _ hg gP, ?_, ?_⟩
          · rcases hmj with h | h
            · exact .inl (by omega)
            · exact .inr h
          · intro t q' z e1 e2
            by_cases c : t < qs.length
            · rw [List.getElem?_append_left c] at e1
              have := hz9 t q' z e1 e2
              split
              · rename_i tm
                rw [if_pos tm] at this
                obtain ⟨pp, g1, g3, g4⟩ := this.keep s11
                exact ⟨pp, by unfold PD at g1 ⊢; rw [upd_ne (fun e => by rw [e, hP10] at g1; cases g1)]; exact g1, g3, g4⟩
              · rename_i tm
                rw [if_neg tm] at this
                have := this.keep s11
                exact ⟨by have h := this.1; unfold PD at h ⊢; rw [upd_ne (fun e => by rw [e, hP10] at h; cases h)]; exact h, this.2⟩
            · have ht : t = j := by
                have := (List.getElem?_eq_some_iff.mp e1).1
                rw [List.length_append] at this
                have : t < qs.length + 1 := this
                omega
              subst ht
              rw [List.getElem?_append_right (by omega), hq, Nat.sub_self] at e1
              obtain rfl : a = q' := Option.some.inj e1
              obtain rfl : v = z := Option.some.inj (hzj.symm.trans e2)
              rw [if_neg ejm]
              exact ⟨by unfold PD at ha ⊢; rw [upd_ne aP]; exact ha, svj.mono (by decide)⟩
      · rintro σ' H9 ⟨c9, c10, g, ks, fv, qs, rfl, T9, hr9, hP9, hq, hg, hmj, hz9⟩
        walk_at "wk"
        intro t nt
        have s10 := same_upd (o := .tup [V.str (Str.ofString "zero"), V.str (Str.ofString "under"), V.str (Str.ofString "power"), V.str (Str.ofString "row")]) nt
        have ht : (upd H9 t (.tup [V.str (Str.ofString "zero"), V.str (Str.ofString "under"), V.str (Str.ofString "power"), V.str (Str.ofString "row")])) t = some _ := upd_same
        generalize upd H9 t _ = H10 at s10 ht ⊢
        have hwd : ([V.str (Str.ofString "zero"), V.str (Str.ofString "under"), V.str (Str.ofString "power"), V.str (Str.ofString "row")] : List V)[k]? = some (.str (wdR k)) := by
          have : k = 0 ∨ k = 1 ∨ k = 2 ∨ k = 3 := by omega
          rcases this with rfl | rfl | rfl | rfl <;> rfl
        refine ⟨_, rfl, ixT_as (sq_of ht) (atI_nat hwd) ?_⟩
        walk_at "wk"
        intro t2 nt2
        have s11 := same_upd (o := .tup [.str (wdR k)]) nt2
        have ht2 : (upd H10 t2 (.tup [.str (wdR k)])) t2 = some (.tup [.str (wdR k)]) := upd_same
        generalize upd H10 t2 (.tup [.str (wdR k)]) = H11 at s11 ht2 ⊢
        walk_at "wk"
        refine ⟨P, _, rfl, .inl ⟨.inl (.inl (s11 _ _ (s10 _ _ hP9))), fun t3 nt3 => ?_⟩⟩
        have s12 := same_upd (o := .tup (qs.map V.ref)) nt3
        have ht3 : (upd H11 t3 (.tup (qs.map V.ref))) t3 = some (.tup (qs.map V.ref)) := upd_same
        have ht4 := s12 _ _ ht2
        generalize upd H11 t3 (.tup (qs.map V.ref)) = H12 at s12 ht3 ht4 ⊢
        refine ⟨t2, t3, _, _, rfl, rfl, sq_of ht4, sq_of ht3, by rw [List.length_map]; exact Nat.le_of_lt (sz_lt (by show 1 + _ ≤ _; omega)), (fun e => nomatch e), fun _ e => ?_, fun _ _ R nR => ?_⟩
        · have := congrArg List.length e
          rw [List.length_map] at this
          have : qs.length = 0 := this
          omega
        have s13 := same_upd (o := .tup ([V.str (wdR k)] ++ qs.map V.ref)) nR
        have hR : (upd H12 R (.tup ([V.str (wdR k)] ++ qs.map V.ref))) R = some (.tup (V.str (wdR k) :: qs.map V.ref)) := upd_same
        have sA := ((s10.trans s11).trans s12).trans s13
        generalize upd H12 R (.tup ([V.str (wdR k)] ++ qs.map V.ref)) = H13 at s13 hR sA ⊢
        walk_at "wk"
        refine ⟨R, g, k, qs, zs, ks, fv, rfl, hR, ?_, sA _ _ hg, ok, fun H14 s14 => ?_⟩
        · refine paired_of hq fun t a z e1 e2 => ?_
          have := hz9 t a z e1 e2
          split at this
          · exact this.keep sA
          · exact (this.keep sA).zv fv ks
        walk_at "wk"
        refine ⟨.bl (relI k zs), .ty "bool", .type "bool", .type "bool", true, rfl, .ty "bool", .base (.bl _), rfl, ?_⟩
        walk_at "wk"
        refine ⟨k, r, zs, rfl, s14 _ _ (sA _ _ hr9), ok, ?_⟩
        refine ⟨rfl, _, rfl, ite2 (fun e => ?_) (fun _ => ?_)⟩
        · rw [decide_eq_true rfl] at e
          exact absurd e (by decide)
        walk_at "wk"
        exact ⟨_, _, _, _, _, _, _, _, _, _, rfl, (T9.keep sA).keep s14⟩
    · rintro σ' H3 ⟨c3, c4, c5, c6, c7, c8, c9, c10, c11, c12, rfl, T3⟩
      walk_at "wk"
      refine ⟨l, p, ds, rfl, T3, fun nn H4 _ T4 x4 => ?_⟩
      walk_at "wk"
      refine ⟨l, p, ds, rfl, T4, fun an H5 _ T5 x5 => ?_⟩
      walk_at "wk"
      obtain ⟨n, en⟩ : ∃ n : Nat, n = nn % 20 := ⟨_, rfl⟩
      rw [show ((nn : Int) % 20) = ((n : Nat) : Int) by omega]
      refine ⟨n, 2 + (an : Int) % 50, rfl, by omega, sm_small (by omega) (by omega), fun H6 s6 => ?_⟩
      walk_at "wk"
      refine ⟨n, 2 + (an : Int) % 50, rfl, by omega, sm_small (by omega) (by omega), ?_⟩
      walk_at "wk"
      rw [decide_eq_true rfl]
      exact q _

end
end RR

namespace RR
open PySem PySem.Spec PyProof.Rows L2
theorem all_mk {l : PySem.W.OpenLaw} {w : World} {K : PySem.W.Frag} {h : Heap} {mg : Str → Option Value} {fa : Addr} (X : K.In h) (G : h.Ns mainGlobals mg) (hfa : mg "law" = some (.ref fa))
    {f0 : Addr} {od0 an0 : Option Addr} {sl0 : Array (Option Value)} {oc0 kV0 dc0 pm0 cd0 ct0 : Value}
    {f1 : Addr} {od1 an1 : Option Addr} {sl1 : Array (Option Value)} {oc1 kV1 dc1 pm1 cd1 ct1 : Value}
    {f2 : Addr} {od2 an2 : Option Addr} {sl2 : Array (Option Value)} {oc2 kV2 dc2 pm2 cd2 ct2 : Value}
    {f3 : Addr} {od3 an3 : Option Addr} {sl3 : Array (Option Value)} {oc3 kV3 dc3 pm3 cd3 ct3 : Value}
    {f4 : Addr} {od4 an4 : Option Addr} {sl4 : Array (Option Value)} {oc4 kV4 dc4 pm4 cd4 ct4 : Value}
    {f5 : Addr} {od5 an5 : Option Addr} {sl5 : Array (Option Value)} {oc5 kV5 dc5 pm5 cd5 ct5 : Value}
    {f6 : Addr} {od6 an6 : Option Addr} {sl6 : Array (Option Value)} {oc6 kV6 dc6 pm6 cd6 ct6 : Value}
    {f7 : Addr} {od7 an7 : Option Addr} {sl7 : Array (Option Value)} {oc7 kV7 dc7 pm7 cd7 ct7 : Value}
    {f8 : Addr} {od8 an8 : Option Addr} {sl8 : Array (Option Value)} {oc8 kV8 dc8 pm8 cd8 ct8 : Value}
    {f9 : Addr} {od9 an9 : Option Addr} {sl9 : Array (Option Value)} {oc9 kV9 dc9 pm9 cd9 ct9 : Value}
    {f10 : Addr} {od10 an10 : Option Addr} {sl10 : Array (Option Value)} {oc10 kV10 dc10 pm10 cd10 ct10 : Value}
    {f11 : Addr} {od11 an11 : Option Addr} {sl11 : Array (Option Value)} {oc11 kV11 dc11 pm11 cd11 ct11 : Value}
    {f12 : Addr} {od12 an12 : Option Addr} {sl12 : Array (Option Value)} {oc12 kV12 dc12 pm12 cd12 ct12 : Value}
    {f13 : Addr} {od13 an13 : Option Addr} {sl13 : Array (Option Value)} {oc13 kV13 dc13 pm13 cd13 ct13 : Value}
    {f14 : Addr} {od14 an14 : Option Addr} {sl14 : Array (Option Value)} {oc14 kV14 dc14 pm14 cd14 ct14 : Value}
    {f15 : Addr} {od15 an15 : Option Addr} {sl15 : Array (Option Value)} {oc15 kV15 dc15 pm15 cd15 ct15 : Value}
    (a0 : PySem.W.nsIn K mainGlobals "_law_numbers" = some (some (.ref f0)))
    (l0 : K.lookup f0 = some ⟨oc0, od0, .func (PySem.W.fnOf "_law_numbers" "_law_numbers" (defArgs s__law_numbers) (defBody s__law_numbers) (defScope s__law_numbers) .none kV0 dc0 pm0 an0 cd0 ct0), sl0⟩)
    (c0 : PySem.W.codeIn K cd0 "_law_numbers" = true) (k0 : PySem.W.keepIn K (.ref f0) = true)
    (a1 : PySem.W.nsIn K mainGlobals "_law_take" = some (some (.ref f1)))
    (l1 : K.lookup f1 = some ⟨oc1, od1, .func (PySem.W.fnOf "_law_take" "_law_take" (defArgs s__law_take) (defBody s__law_take) (defScope s__law_take) .none kV1 dc1 pm1 an1 cd1 ct1), sl1⟩)
    (c1 : PySem.W.codeIn K cd1 "_law_take" = true) (k1 : PySem.W.keepIn K (.ref f1) = true)
    (a2 : PySem.W.nsIn K mainGlobals "_law_member" = some (some (.ref f2)))
    (l2 : K.lookup f2 = some ⟨oc2, od2, .func (PySem.W.fnOf "_law_member" "_law_member" (defArgs s__law_member) (defBody s__law_member) (defScope s__law_member) .none kV2 dc2 pm2 an2 cd2 ct2), sl2⟩)
    (c2 : PySem.W.codeIn K cd2 "_law_member" = true) (k2 : PySem.W.keepIn K (.ref f2) = true)
    (a3 : PySem.W.nsIn K mainGlobals "_law_numbers_of" = some (some (.ref f3)))
    (l3 : K.lookup f3 = some ⟨oc3, od3, .func (PySem.W.fnOf "_law_numbers_of" "_law_numbers_of" (defArgs s__law_numbers_of) (defBody s__law_numbers_of) (defScope s__law_numbers_of) .none kV3 dc3 pm3 an3 cd3 ct3), sl3⟩)
    (c3 : PySem.W.codeIn K cd3 "_law_numbers_of" = true) (k3 : PySem.W.keepIn K (.ref f3) = true)
    (a4 : PySem.W.nsIn K mainGlobals "row_member" = some (some (.ref f4)))
    (l4 : K.lookup f4 = some ⟨oc4, od4, .func (PySem.W.fnOf "row_member" "row_member" (defArgs s_row_member) (defBody s_row_member) (defScope s_row_member) .none kV4 dc4 pm4 an4 cd4 ct4), sl4⟩)
    (c4 : PySem.W.codeIn K cd4 "row_member" = true) (k4 : PySem.W.keepIn K (.ref f4) = true)
    (a5 : PySem.W.nsIn K mainGlobals "_holds_row" = some (some (.ref f5)))
    (l5 : K.lookup f5 = some ⟨oc5, od5, .func (PySem.W.fnOf "_holds_row" "_holds_row" (defArgs s__holds_row) (defBody s__holds_row) (defScope s__holds_row) .none kV5 dc5 pm5 an5 cd5 ct5), sl5⟩)
    (c5 : PySem.W.codeIn K cd5 "_holds_row" = true) (k5 : PySem.W.keepIn K (.ref f5) = true)
    (a6 : PySem.W.nsIn K mainGlobals "value_of" = some (some (.ref f6)))
    (l6 : K.lookup f6 = some ⟨oc6, od6, .func (PySem.W.fnOf "value_of" "value_of" (defArgs s_value_of) (defBody s_value_of) (defScope s_value_of) .none kV6 dc6 pm6 an6 cd6 ct6), sl6⟩)
    (c6 : PySem.W.codeIn K cd6 "value_of" = true) (k6 : PySem.W.keepIn K (.ref f6) = true)
    (a7 : PySem.W.nsIn K mainGlobals "_holds_under" = some (some (.ref f7)))
    (l7 : K.lookup f7 = some ⟨oc7, od7, .func (PySem.W.fnOf "_holds_under" "_holds_under" (defArgs s__holds_under) (defBody s__holds_under) (defScope s__holds_under) .none kV7 dc7 pm7 an7 cd7 ct7), sl7⟩)
    (c7 : PySem.W.codeIn K cd7 "_holds_under" = true) (k7 : PySem.W.keepIn K (.ref f7) = true)
    (a8 : PySem.W.nsIn K mainGlobals "raised" = some (some (.ref f8)))
    (l8 : K.lookup f8 = some ⟨oc8, od8, .func (PySem.W.fnOf "raised" "raised" (defArgs s_raised) (defBody s_raised) (defScope s_raised) .none kV8 dc8 pm8 an8 cd8 ct8), sl8⟩)
    (c8 : PySem.W.codeIn K cd8 "raised" = true) (k8 : PySem.W.keepIn K (.ref f8) = true)
    (a9 : PySem.W.nsIn K mainGlobals "_holds_power" = some (some (.ref f9)))
    (l9 : K.lookup f9 = some ⟨oc9, od9, .func (PySem.W.fnOf "_holds_power" "_holds_power" (defArgs s__holds_power) (defBody s__holds_power) (defScope s__holds_power) .none kV9 dc9 pm9 an9 cd9 ct9), sl9⟩)
    (c9 : PySem.W.codeIn K cd9 "_holds_power" = true) (k9 : PySem.W.keepIn K (.ref f9) = true)
    (a10 : PySem.W.nsIn K mainGlobals "holds" = some (some (.ref f10)))
    (l10 : K.lookup f10 = some ⟨oc10, od10, .func (PySem.W.fnOf "holds" "holds" (defArgs s_holds) (defBody s_holds) (defScope s_holds) .none kV10 dc10 pm10 an10 cd10 ct10), sl10⟩)
    (c10 : PySem.W.codeIn K cd10 "holds" = true) (k10 : PySem.W.keepIn K (.ref f10) = true)
    (a11 : PySem.W.nsIn K mainGlobals "_law_clean" = some (some (.ref f11)))
    (l11 : K.lookup f11 = some ⟨oc11, od11, .func (PySem.W.fnOf "_law_clean" "_law_clean" (defArgs s__law_clean) (defBody s__law_clean) (defScope s__law_clean) .none kV11 dc11 pm11 an11 cd11 ct11), sl11⟩)
    (c11 : PySem.W.codeIn K cd11 "_law_clean" = true) (k11 : PySem.W.keepIn K (.ref f11) = true)
    (a12 : PySem.W.nsIn K mainGlobals "_law_given" = some (some (.ref f12)))
    (l12 : K.lookup f12 = some ⟨oc12, od12, .func (PySem.W.fnOf "_law_given" "_law_given" (defArgs s__law_given) (defBody s__law_given) (defScope s__law_given) .none kV12 dc12 pm12 an12 cd12 ct12), sl12⟩)
    (c12 : PySem.W.codeIn K cd12 "_law_given" = true) (k12 : PySem.W.keepIn K (.ref f12) = true)
    (a13 : PySem.W.nsIn K mainGlobals "_law_under" = some (some (.ref f13)))
    (l13 : K.lookup f13 = some ⟨oc13, od13, .func (PySem.W.fnOf "_law_under" "_law_under" (defArgs s__law_under) (defBody s__law_under) (defScope s__law_under) .none kV13 dc13 pm13 an13 cd13 ct13), sl13⟩)
    (c13 : PySem.W.codeIn K cd13 "_law_under" = true) (k13 : PySem.W.keepIn K (.ref f13) = true)
    (a14 : PySem.W.nsIn K mainGlobals "_law_told" = some (some (.ref f14)))
    (l14 : K.lookup f14 = some ⟨oc14, od14, .func (PySem.W.fnOf "_law_told" "_law_told" (defArgs s__law_told) (defBody s__law_told) (defScope s__law_told) .none kV14 dc14 pm14 an14 cd14 ct14), sl14⟩)
    (c14 : PySem.W.codeIn K cd14 "_law_told" = true) (k14 : PySem.W.keepIn K (.ref f14) = true)
    (a15 : PySem.W.nsIn K mainGlobals "law" = some (some (.ref f15)))
    (l15 : K.lookup f15 = some ⟨oc15, od15, .func (PySem.W.fnOf "law" "law" (defArgs s_law) (defBody s_law) (defScope s_law) .none kV15 dc15 pm15 an15 cd15 ct15), sl15⟩)
    (c15 : PySem.W.codeIn K cd15 "law" = true) (k15 : PySem.W.keepIn K (.ref f15) = true)
    (z_range : PySem.W.nsIn K mainGlobals "range" = some none)
    (z_len : PySem.W.nsIn K mainGlobals "len" = some none)
    (z_abs : PySem.W.nsIn K mainGlobals "abs" = some none)
    (z_int : PySem.W.nsIn K mainGlobals "int" = some none)
    (z_reversed : PySem.W.nsIn K mainGlobals "reversed" = some none)
    (z_tuple : PySem.W.nsIn K mainGlobals "tuple" = some none)
    (z_isinstance : PySem.W.nsIn K mainGlobals "isinstance" = some none)
    (z_bool : PySem.W.nsIn K mainGlobals "bool" = some none)
    : ∃ fd : FuncData, (∀ (s : Shared) (v : Value), BindsTo s fd ⟨[v], []⟩ [("script", v)]) ∧ ∀ base : Heap, K.In base → base.Ns mainGlobals mg → FnOk l.prog w K mg base CX0 4 fa fd ["script"] (sp_law K) := by
  have e := hfa.symm.trans (PySem.W.mg_of X G a15)
  cases e
  have F0 := fun_mk (st := s__law_numbers) l0 c0 k0
  have F1 := fun_mk (st := s__law_take) l1 c1 k1
  have F2 := fun_mk (st := s__law_member) l2 c2 k2
  have F3 := fun_mk (st := s__law_numbers_of) l3 c3 k3
  have F4 := fun_mk (st := s_row_member) l4 c4 k4
  have F5 := fun_mk (st := s__holds_row) l5 c5 k5
  have F6 := fun_mk (st := s_value_of) l6 c6 k6
  have F7 := fun_mk (st := s__holds_under) l7 c7 k7
  have F8 := fun_mk (st := s_raised) l8 c8 k8
  have F9 := fun_mk (st := s__holds_power) l9 c9 k9
  have F10 := fun_mk (st := s_holds) l10 c10 k10
  have F11 := fun_mk (st := s__law_clean) l11 c11 k11
  have F12 := fun_mk (st := s__law_given) l12 c12 k12
  have F13 := fun_mk (st := s__law_under) l13 c13 k13
  have F14 := fun_mk (st := s__law_told) l14 c14 k14
  have F15 := fun_mk (st := s_law) l15 c15 k15
  have b0 := F0.binds (ps := ["script", "many"]) fun _ _ _ _ _ _ us hl => match us, hl with | [_, _], _ => rfl
  have b1 := F1.binds (ps := ["numbers", "place"]) fun _ _ _ _ _ _ us hl => match us, hl with | [_, _], _ => rfl
  have b2 := F2.binds (ps := ["n", "a"]) fun _ _ _ _ _ _ us hl => match us, hl with | [_, _], _ => rfl
  have b3 := F3.binds (ps := ["kind", "numbers", "place"]) fun _ _ _ _ _ _ us hl => match us, hl with | [_, _, _], _ => rfl
  have b4 := F4.binds (ps := ["n", "a"]) fun _ _ _ _ _ _ us hl => match us, hl with | [_, _], _ => rfl
  have b5 := F5.binds (ps := ["y", "n", "a"]) fun _ _ _ _ _ _ us hl => match us, hl with | [_, _, _], _ => rfl
  have b6 := F6.binds (ps := ["polynomial", "values"]) fun _ _ _ _ _ _ us hl => match us, hl with | [_, _], _ => rfl
  have b7 := F7.binds (ps := ["a", "b"]) fun _ _ _ _ _ _ us hl => match us, hl with | [_, _], _ => rfl
  have b8 := F8.binds (ps := ["base", "exponent"]) fun _ _ _ _ _ _ us hl => match us, hl with | [_, _], _ => rfl
  have b9 := F9.binds (ps := ["z", "x", "y"]) fun _ _ _ _ _ _ us hl => match us, hl with | [_, _, _], _ => rfl
  have b10 := F10.binds (ps := ["relation", "values"]) fun _ _ _ _ _ _ us hl => match us, hl with | [_, _], _ => rfl
  have b11 := F11.binds (ps := ["poly"]) fun _ _ _ _ _ _ us hl => match us, hl with | [_], _ => rfl
  have b12 := F12.binds (ps := ["value", "number"]) fun _ _ _ _ _ _ us hl => match us, hl with | [_, _], _ => rfl
  have b13 := F13.binds (ps := ["a", "b"]) fun _ _ _ _ _ _ us hl => match us, hl with | [_, _], _ => rfl
  have b14 := F14.binds (ps := ["kind", "values"]) fun _ _ _ _ _ _ us hl => match us, hl with | [_, _], _ => rfl
  refine ⟨PySem.W.fnOf "law" "law" (defArgs s_law) (defBody s_law) (defScope s_law) .none kV15 dc15 pm15 an15 cd15 ct15, fun s v => .of_eq rfl, fun base _ _ => ?_⟩
  have m_range := PySem.W.mg_none_of X G z_range
  have m_len := PySem.W.mg_none_of X G z_len
  have m_abs := PySem.W.mg_none_of X G z_abs
  have m_int := PySem.W.mg_none_of X G z_int
  have m_reversed := PySem.W.mg_none_of X G z_reversed
  have m_tuple := PySem.W.mg_none_of X G z_tuple
  have m_isinstance := PySem.W.mg_none_of X G z_isinstance
  have m_bool := PySem.W.mg_none_of X G z_bool
  have C__law_numbers : Cal l.prog w K mg base "_law_numbers" 1 ["script", "many"] (sp__law_numbers K) := ⟨_, _, ok__law_numbers F0 m_range m_len m_abs m_int, PySem.W.mg_of X G a0, F0.kp, b0⟩
  have C__law_take : Cal l.prog w K mg base "_law_take" 1 ["numbers", "place"] (sp__law_take K) := ⟨_, _, ok__law_take F1 m_len, PySem.W.mg_of X G a1, F1.kp, b1⟩
  have C__law_member : Cal l.prog w K mg base "_law_member" 1 ["n", "a"] (sp__law_member K) := ⟨_, _, ok__law_member F2 m_range, PySem.W.mg_of X G a2, F2.kp, b2⟩
  have C__law_numbers_of : Cal l.prog w K mg base "_law_numbers_of" 2 ["kind", "numbers", "place"] (sp__law_numbers_of K) := ⟨_, _, ok__law_numbers_of F3 C__law_take C__law_member m_range, PySem.W.mg_of X G a3, F3.kp, b3⟩
  have C_row_member : Cal l.prog w K mg base "row_member" 1 ["n", "a"] (sp_row_member K) := ⟨_, _, ok_row_member F4 m_reversed m_range, PySem.W.mg_of X G a4, F4.kp, b4⟩
  have C__holds_row : Cal l.prog w K mg base "_holds_row" 2 ["y", "n", "a"] (sp__holds_row K) := ⟨_, _, ok__holds_row F5 C_row_member, PySem.W.mg_of X G a5, F5.kp, b5⟩
  have C_value_of : Cal l.prog w K mg base "value_of" 1 ["polynomial", "values"] (sp_value_of K) := ⟨_, _, ok_value_of F6 , PySem.W.mg_of X G a6, F6.kp, b6⟩
  have C__holds_under : Cal l.prog w K mg base "_holds_under" 1 ["a", "b"] (sp__holds_under K) := ⟨_, _, ok__holds_under F7 , PySem.W.mg_of X G a7, F7.kp, b7⟩
  have C_raised : Cal l.prog w K mg base "raised" 1 ["base", "exponent"] (sp_raised K) := ⟨_, _, ok_raised F8 m_reversed m_range, PySem.W.mg_of X G a8, F8.kp, b8⟩
  have C__holds_power : Cal l.prog w K mg base "_holds_power" 2 ["z", "x", "y"] (sp__holds_power K) := ⟨_, _, ok__holds_power F9 C_raised, PySem.W.mg_of X G a9, F9.kp, b9⟩
  have C_holds : Cal l.prog w K mg base "holds" 3 ["relation", "values"] (sp_holds K) := ⟨_, _, ok_holds F10 C__holds_row C_value_of C__holds_under C__holds_power, PySem.W.mg_of X G a10, F10.kp, b10⟩
  have C__law_clean : Cal l.prog w K mg base "_law_clean" 1 ["poly"] (sp__law_clean K) := ⟨_, _, ok__law_clean F11 , PySem.W.mg_of X G a11, F11.kp, b11⟩
  have C__law_given : Cal l.prog w K mg base "_law_given" 2 ["value", "number"] (sp__law_given K) := ⟨_, _, ok__law_given F12 C__law_clean, PySem.W.mg_of X G a12, F12.kp, b12⟩
  have C__law_under : Cal l.prog w K mg base "_law_under" 1 ["a", "b"] (sp__law_under K) := ⟨_, _, ok__law_under F13 m_range, PySem.W.mg_of X G a13, F13.kp, b13⟩
  have C__law_told : Cal l.prog w K mg base "_law_told" 2 ["kind", "values"] (sp__law_told K) := ⟨_, _, ok__law_told F14 C__law_under C__law_member m_range, PySem.W.mg_of X G a14, F14.kp, b14⟩
  exact ok_law F15 C__law_numbers C__law_numbers_of C__law_take C_holds C_row_member C__law_member C__law_given C__law_told C__law_clean m_range m_len m_tuple m_isinstance m_bool
end RR
open PySem PySem.W PyProof.Rows
set_option maxHeartbeats 0 in
theorem PySem.Challenge.cw_runroots_k03_relations_that_hold_holds : PySem.Challenge.rw_runroots_k03_relations_that_hold.Holds := by
  w_on; o_law; k_head; (case hw => w_witness2)
  k_fill
  refine L2.walk_of (l := PySem.Challenge.rw_runroots_k03_relations_that_hold) (n := 63) (k := 4) (x := "script") (CX := fun _ => L2.CX0) (sp := fun w => RR.sp_law _) rfl (by decide) rfl ⟨rfl, by decide, by decide⟩ (fun w h Y => PySem.W.kIn_of Y) ?F (fun _ _ a ns hl _ hS => ⟨a, ns, rfl, hS, hl, fun _ => rfl⟩) (fun _ _ _ _ _ h => h)
  case F =>
    intro w mg fa h KX G hmg
    refine' RR.all_mk KX G hmg ?a0 ?l0 ?c0 ?k0 ?a1 ?l1 ?c1 ?k1 ?a2 ?l2 ?c2 ?k2 ?a3 ?l3 ?c3 ?k3 ?a4 ?l4 ?c4 ?k4 ?a5 ?l5 ?c5 ?k5 ?a6 ?l6 ?c6 ?k6 ?a7 ?l7 ?c7 ?k7 ?a8 ?l8 ?c8 ?k8 ?a9 ?l9 ?c9 ?k9 ?a10 ?l10 ?c10 ?k10 ?a11 ?l11 ?c11 ?k11 ?a12 ?l12 ?c12 ?k12 ?a13 ?l13 ?c13 ?k13 ?a14 ?l14 ?c14 ?k14 ?a15 ?l15 ?c15 ?k15 ?z_range ?z_len ?z_abs ?z_int ?z_reversed ?z_tuple ?z_isinstance ?z_bool
    (case a0 => k_is); (case l0 => k_is); (case c0 => k_is); (case k0 => k_is); (case a1 => k_is); (case l1 => k_is); (case c1 => k_is); (case k1 => k_is); (case a2 => k_is); (case l2 => k_is); (case c2 => k_is); (case k2 => k_is); (case a3 => k_is); (case l3 => k_is); (case c3 => k_is); (case k3 => k_is); (case a4 => k_is); (case l4 => k_is); (case c4 => k_is); (case k4 => k_is); (case a5 => k_is); (case l5 => k_is); (case c5 => k_is); (case k5 => k_is); (case a6 => k_is); (case l6 => k_is); (case c6 => k_is); (case k6 => k_is); (case a7 => k_is); (case l7 => k_is); (case c7 => k_is); (case k7 => k_is); (case a8 => k_is); (case l8 => k_is); (case c8 => k_is); (case k8 => k_is); (case a9 => k_is); (case l9 => k_is); (case c9 => k_is); (case k9 => k_is); (case a10 => k_is); (case l10 => k_is); (case c10 => k_is); (case k10 => k_is); (case a11 => k_is); (case l11 => k_is); (case c11 => k_is); (case k11 => k_is); (case a12 => k_is); (case l12 => k_is); (case c12 => k_is); (case k12 => k_is); (case a13 => k_is); (case l13 => k_is); (case c13 => k_is); (case k13 => k_is); (case a14 => k_is); (case l14 => k_is); (case c14 => k_is); (case k14 => k_is); (case a15 => k_is); (case l15 => k_is); (case c15 => k_is); (case k15 => k_is); (case z_range => k_is); (case z_len => k_is); (case z_abs => k_is); (case z_int => k_is); (case z_reversed => k_is); (case z_tuple => k_is); (case z_isinstance => k_is); (case z_bool => k_is)
