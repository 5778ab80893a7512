import PyProof.Rows.All
import PyProof.FString3
import PyProof.Rows.StrIntSpec
import HandS.ForMost
import HandS.FStr
import HandS.Wide
import HandS.WideBits
import HandS.Style
import HandS.Star
import HandS.RevRange
import HandS.EndBits
import HandS.IsInst
import HandS.Deep
import HandS.Gcd
import HandS.Text
import HandS.NoneIn
import HandS.Walk
import HandS.DictComp
import HandS.DictTup
import PyProof.Rows.BitMore
import KE.KDictDisplayH
import HandS.More
import HandS.TupAny
import HandS.TupLen
import HandS.Small
import HandS.TupLe
import HandS.Zip
import PyProof.WalkInts
import PyProof.WalksMore
import PySem.Challenge.RW_runroots_k06_machines_run
set_option Elab.async false
set_option linter.all false
set_option maxRecDepth 100000
set_option maxHeartbeats 16000000
namespace RR
open PySem PySem.Spec PyProof.Rows L2 PySem.Builtin PySem.Builtin.Float
/-- a number's signs to the base two -/
def binL (n : Nat) : List Nat := (Nat.toDigits 2 n).map Char.toNat
def binS (n : Nat) : Str := ⟨(binL n).toArray⟩
def specB : FormatSpec := { align := 62, type := some 98 }
theorem parse_b (k : String) : parseFormatSpec (Str.ofString "b").cps.toList k 62 = .ok specB := rfl
theorem field_b {D : List Nat} (hD : D ≠ []) : intField' specB false [] D [] 4 = ⟨D.toArray⟩ := by
  have e : D.isEmpty = false := by cases D with
    | nil => exact absurd rfl hD
    | cons _ _ => rfl
  have p : ((-1 : Int) - 0 - (D.length : Int)).toNat = 0 := by omega
  simp [intField', specB, e, p]
theorem binL_ne (n : Nat) : binL n ≠ [] := by
  intro h
  have h2 : Nat.toDigits 2 n = [] := List.map_eq_nil_iff.mp h
  have := Nat.length_toDigits_pos (b := 2) (n := n)
  rw [h2] at this
  exact absurd this (by simp)
section
variable {prog : Program} {w : World} {A : Around} {E : Value → Shared → Prop} {s : Shared}
theorem bin_spec {n : Nat} {t : Tok} {Q : Value → Shared → Prop} (hl : (binS n).length ≤ sizeLine)
    (h : Q (.str (binS n) (s.toks + 1)) { s with toks := s.toks + 1 + 1 }) : wpAny (model prog w) A (formatField (.int (n : Int) t) (Str.ofString "b")) Q E s := by
  show wpAny _ _ (holding [Value.int (n : Int) t] (pyFormat (Value.int (n : Int) t) (Str.ofString "b"))) Q E s
  refine wpAny_holding ?_
  unfold pyFormat
  refine wpAny_bind (wpAny_mkStr ?_ (by decide))
  refine wpAny_bind (m := callSpecial? (.int (n : Int) t) (Str.ofString "__format__") [.str (Str.ofString "b") s.toks])
    (wpAny_callSpecial?_slot (name := Str.ofString "__format__") (typeIs_int _ _ t) slot_int_format ?_)
  refine wpAny_call (codeAny_call_builtin slot_int_format.plain entry_int_format
    (slot_int_format.check _ _ _ _ _ _ _ _ (typeIs_int _ _ t) (args_int_format _ _) ?_))
  unfold Builtin.«int.__format__»
  simp only [selfAndOne, noKeywords, Int.intOfSelf, asInt?, asStr?, List.isEmpty_nil, if_true, pure_bind, bind_assoc, Bool.false_eq_true, if_false,
    show ((Str.ofString "b").length == 0) = false by decide,
    show (((Str.ofString "b").cps.toList.drop 1).any (· ≥ 128) || ((Str.ofString "b").cps.getD 0 0 ≥ 128 && !([60, 62, 61, 94] : List Nat).contains ((Str.ofString "b").cps.getD 1 0))) = false by decide,
    show (Value.str (Str.ofString "b") s.toks == Value.none) = false from rfl]
  refine wpAny_bind (wpAny_typeNameOf (T := "str") (typeIs_str _ _ _) (by decide) fun _ => ?_)
  refine wpAny_bind (wpAny_typeNameOfCut_int ?_)
  obtain ⟨f, hf⟩ : ∃ f, f = specB := ⟨_, rfl⟩
  have hty : f.type.getD (if (Str.ofString "b").cps.back? == some 0 then 0 else 100) = 98 := by rw [hf]; rfl
  have hpr : f.precision.isSome = false := by rw [hf]; rfl
  have hz : f.noNeg0 = false := by rw [hf]; rfl
  have hal : f.alt = false := by rw [hf]; rfl
  have hw : f.width.getD 0 = 0 := by rw [hf]; rfl
  simp only [parse_b, ← hf, hty]
  rw [if_pos (by decide)]
  show wpAny _ _ (if _ then _ else _) _ _ _
  rw [if_neg (by simp [hpr])]
  show wpAny _ _ (if _ then _ else _) _ _ _
  rw [if_neg (by simp [hz])]
  show wpAny _ _ (if _ then _ else _) _ _ _
  rw [if_neg (by decide)]
  show wpAny _ _ (if _ then _ else _) _ _ _
  rw [if_neg (by decide)]
  show wpAny _ _ (if _ then _ else _) _ _ _
  rw [if_neg (by simp [hw])]
  show wpAny _ _ (retStr _) _ _ _
  unfold retStr
  have hneg : decide ((n : Int) < 0) = false := decide_eq_false (by omega)
  have key : intField' f (decide ((n : Int) < 0)) (if f.alt = true then [] else []) ((Nat.toDigits 2 (n : Int).natAbs).map fun c => (if (98 : Nat) == 88 then c.toUpper else c).toNat) [] 4 = binS n := by
    rw [hneg, hf]
    exact field_b (binL_ne n)
  have hl2 := key ▸ hl
  have h2 := key ▸ h
  clear h hl
  subst hf
  refine wpAny_bind (wpAny_mkStr (wpAny_pure ?_) hl2)
  exact wpAny_bind (wpAny_isInstance (typeIs_str _ _ _) isSubtype_str_str (wpAny_pure h2))
end
end RR
namespace RR
open PySem PySem.Spec PyProof.Rows L2
section
variable {X : Cx}
/-- f'{x:b}' of an int from 0 on -/
def tFmtB (te : TE) : TE := fun σ H Q => te σ H fun x H1 => ∃ n : Nat, x = .int n ∧ (binS n).length ≤ sizeLine ∧ Q (.str (binS n)) H1
theorem pe_fmtB {e : Expr} {te : TE} {k : Nat} {p1 p2 p3 p4 : Pos} (he : PE X e te) :
    PE X (.JoinedStr [.FormattedValue e (-1) (some (.JoinedStr [.Constant (.str "b") k p1] p2)) p3] p4) (tFmtB te) := by
  refine pe_joined1 ⟨fun pins s σ H Q I h => ?_⟩
  refine wpAny_FormattedValue_spec (thn (he.run pins s σ H _ I h) fun v s1 hv => ?_)
  obtain ⟨x, H1, I1, r1, n, rfl, hl, q⟩ := hv
  obtain ⟨t, rfl⟩ := r1
  refine wpAny_JoinedStr_one (Calls.Constant_str ⟨_, _, rfl, ?_⟩)
  exact bin_spec hl ⟨.str (binS n), H1, (I1.tok _).tok _, ⟨_, rfl⟩, q⟩
end
end RR

namespace RR
open PySem PySem.Spec PyProof.Rows L2
/-- a def of the text, as callers see it -/
structure Cal (P : Program) (w : World) (K : PySem.W.Frag) (mg : Str → Option Value) (base : Heap) (x : Str) (k : Nat) (ps : List Str) (sp : Sp) : Prop where
  ex : ∃ (f : Addr) (fd : FuncData), FnOk P w K mg base L2.CX0 k f fd ps sp ∧ mg x = some (.ref f) ∧ PySem.W.keepIn K (.ref f) = true ∧ Binds K fd ps []
theorem Cal.mk' {P : Program} {w : World} {K : PySem.W.Frag} {mg : Str → Option Value} {base : Heap} {x : Str} {k : Nat} {ps : List Str} {sp : Sp} {f : Addr} {fd : FuncData}
    (F : FnOk P w K mg base L2.CX0 k f fd ps sp) (g : mg x = some (.ref f)) (kp : PySem.W.keepIn K (.ref f) = true) (b : Binds K fd ps []) : Cal P w K mg base x k ps sp := ⟨f, fd, F, g, kp, b⟩
section
variable {X : Cx}
def tCal (sp : Sp) (t : TA) : TE := fun σ H Q => t σ H fun vs H1 => sp vs H1 Q L2.E0
theorem pe_cal {x : Str} {k : Nat} {ps : List Str} {sp : Sp} {p pos : Pos} {e : Expr} {es : List Expr} {t : TA} (C : Cal X.prog X.w X.K X.mg X.base x k ps sp) (hr : Room k X.A) (hg : Gl X x) (ha : PA X (e :: es) t)
    (hdb : (x == ("__debug__" : Str)) = false := by decide) (he : starEach (e :: es) X.env = (false, eval e X.env) :: starEach es X.env := by rfl) (hpl : (backTo pos (starEach es X.env)).any (·.1) = false := by rfl) :
    PE X (.Call (.Name x p) (e :: es) [] pos) (tCal sp t) := by
  obtain ⟨f, fd, F, g, kp, b⟩ := C.ex
  have h := pe_call (p := p) (pos := pos) F hr hg g kp b .nil L2.pass0 ha hdb he hpl
  refine ⟨fun pins s σ H Q I q => h.run pins s σ H Q I ?_⟩
  have e0 : tCall sp [] L2.E0 t σ H Q = tCal sp t σ H Q := by
    unfold tCall tCal
    simp only [List.append_nil]
  rw [e0]
  exact q
end
/-- int(x) of an int -/
theorem call_intI {X : Cx} : CallR X (.type "int") (fun xs H Q => ∃ i, xs = [.int i] ∧ Q (.int i) H) := fun pins s σ H xs us Q I r h => call_int1 pins s σ H xs us Q I r (.inl h)
/-- a loop over a text's signs -/
theorem for_str {x : Str} {g : TG} {tb : TS} {D : Ends} {σ : L2.St} {H : Hp} (Pv : Nat → L2.St → Hp → Prop) (h0 : Pv 0 σ H)
    (hs : ∀ i c σ H, x.cps[i]? = some c → Pv i σ H → g (.str ⟨#[c]⟩) σ H fun σ2 H2 => tb { D with nx := Pv (i + 1), ct := Pv (i + 1), bk := D.nx } σ2 H2) (hd : ∀ σ H, Pv x.cps.size σ H → D.nx σ H) :
    ∃ W : Nat → Nat → L2.St → Hp → Prop, (∃ m, W 0 m σ H) ∧ ∀ i m σ H, W i m σ H →
      ((Its x).stop i H ∧ D.nx σ H) ∨ ((Its x).go i H ∧ ∃ N : L2.St → Hp → Prop, (∀ σ' H', N σ' H' → ∃ m', m' < m ∧ W (i + 1) m' σ' H') ∧ ∀ v H', (Its x).yld i H v H' → g v σ H' fun σ2 H2 => tb { D with nx := N, ct := N, bk := D.nx } σ2 H2) := by
  refine ⟨fun i m σ H => m = x.cps.size - i ∧ i ≤ x.cps.size ∧ Pv i σ H, ⟨x.cps.size, by simp, Nat.zero_le _, h0⟩, ?_⟩
  rintro i m σ H ⟨rfl, hi, p⟩
  by_cases hlt : i < x.cps.size
  · refine .inr ⟨hlt, Pv (i + 1), fun σ' H' p' => ⟨x.cps.size - (i + 1), by omega, rfl, hlt, p'⟩, fun v H' y => ?_⟩
    obtain ⟨e, c, hc, e2⟩ := y
    subst e e2
    exact hs i c σ _ hc p
  · have e : i = x.cps.size := by omega
    subst e
    exact .inl ⟨Nat.le_refl _, hd σ H p⟩
/-- for k in range(n), the turn's number from 0 on -/
theorem for_rng {n : Nat} {g : TG} {tb : TS} {D : Ends} {σ : L2.St} {H : Hp} (Pv : Nat → L2.St → Hp → Prop) (h0 : Pv 0 σ H)
    (hs : ∀ i σ H, i < n → Pv i σ H → g (.int (i : Int)) σ H fun σ2 H2 => tb { D with nx := Pv (i + 1), ct := Pv (i + 1), bk := D.nx } σ2 H2) (hd : ∀ σ H, Pv n σ H → D.nx σ H) :
    ∃ W : Nat → Nat → L2.St → Hp → Prop, (∃ m, W 0 m σ H) ∧ ∀ i m σ H, W i m σ H →
      ((Itr 0 n).stop i H ∧ D.nx σ H) ∨ ((Itr 0 n).go i H ∧ ∃ N : L2.St → Hp → Prop, (∀ σ' H', N σ' H' → ∃ m', m' < m ∧ W (i + 1) m' σ' H') ∧
        ∀ x H', (Itr 0 n).yld i H x H' → g x σ H' fun σ2 H2 => tb { D with nx := N, ct := N, bk := D.nx } σ2 H2) :=
  for_range (lo := 0) (n := n) (g := g) (tb := tb) (D := D) Pv h0 (fun i σ H hi p => by rw [Int.zero_add]; exact hs i σ H hi p) hd
theorem tC_go {v : V} {σ : L2.St} {H : Hp} {Q : VK} (q : Q v H) : tC v σ H Q := q
theorem tNil_go {σ : L2.St} {H : Hp} {Q : List V → Hp → Prop} (q : Q [] H) : tNil σ H Q := q
theorem dV (x y : Int) : decide (V.int x = V.int y) = decide (x = y) := by
  by_cases h : x = y
  · rw [decide_eq_true h, decide_eq_true (by rw [h])]
  · rw [decide_eq_false h, decide_eq_false (fun e => h (V.int.inj e))]
theorem dB (x y : Bool) : decide (V.bl x = V.bl y) = decide (x = y) := by cases x <;> cases y <;> rfl
/-! heaps -/
theorem same_upd {H : Hp} {p : Addr} {o : HO} (h : H p = none) : Same H (upd H p o) := fun b x e => by
  rw [upd_ne (ne_of_none e h)]
  exact e
theorem sq_new {K : PySem.W.Frag} {H : Hp} {p : Addr} {xs : List V} : SqT K (upd H p (.tup xs)) p xs := .inl (.inl upd_same)
theorem sq_of {K : PySem.W.Frag} {H : Hp} {p : Addr} {xs : List V} (h : H p = some (.tup xs)) : SqT K H p xs := .inl (.inl h)
theorem gTup_new {K : PySem.W.Frag} {n : Nat} {t : TGs} {σ : L2.St} {H : Hp} {Q : L2.St → Hp → Prop} {p : Addr} {xs : List V} (h : xs.length = n) (q : t xs σ (upd H p (.tup xs)) Q) :
    gTup K n t (.ref p) σ (upd H p (.tup xs)) Q := ⟨p, xs, rfl, sq_new, h, q⟩
theorem gTup_as {K : PySem.W.Frag} {n : Nat} {t : TGs} {σ : L2.St} {H : Hp} {Q : L2.St → Hp → Prop} {p : Addr} {xs : List V} (hS : SqT K H p xs) (h : xs.length = n) (q : t xs σ H Q) :
    gTup K n t (.ref p) σ H Q := ⟨p, xs, rfl, hS, h, q⟩
theorem ixT_new {K : PySem.W.Frag} {H : Hp} {Q : VK} {p : Addr} {xs : List V} {i : Int} {v : V} (h : atI xs i = some v) (q : Q v (upd H p (.tup xs))) :
    rIxT K (.ref p) (.int i) (upd H p (.tup xs)) Q := ⟨p, xs, i, v, rfl, rfl, sq_new, h, q⟩
theorem ixT_as {K : PySem.W.Frag} {H : Hp} {Q : VK} {p : Addr} {xs : List V} {i : Int} {v : V} (hS : SqT K H p xs) (h : atI xs i = some v) (q : Q v H) :
    rIxT K (.ref p) (.int i) H Q := ⟨p, xs, i, v, rfl, rfl, hS, h, q⟩
theorem ixL_as {K : PySem.W.Frag} {H : Hp} {Q : VK} {p : Addr} {xs : List V} {i : Int} {v : V} (hS : SqL K H p xs) (h : atI xs i = some v) (q : Q v H) :
    rIxL K (.ref p) (.int i) H Q := ⟨p, xs, i, v, rfl, rfl, hS, h, q⟩
/-! sizes -/
/-- below 2 ^ k -/
def Sm (k : Nat) (x : Int) : Prop := x.natAbs < 2 ^ k
theorem Sm.mono {j k : Nat} {x : Int} (h : Sm j x) (l : j ≤ k) : Sm k x := Nat.lt_of_lt_of_le h (Nat.pow_le_pow_right (by omega) l)
theorem Sm.mul {j k : Nat} {x y : Int} (h : Sm j x) (l : Sm k y) : Sm (j + k) (x * y) := wide_lt h l
theorem Sm.add {k : Nat} {x y : Int} (h : Sm k x) (l : Sm k y) : Sm (k + 1) (x + y) := by
  unfold Sm at *
  have : (x + y).natAbs ≤ x.natAbs + y.natAbs := Int.natAbs_add_le x y
  rw [Nat.pow_succ]
  omega
theorem Sm.neg {k : Nat} {x : Int} (h : Sm k x) : Sm k (-x) := by
  unfold Sm at *
  omega
theorem Sm.sub {k : Nat} {x y : Int} (h : Sm k x) (l : Sm k y) : Sm (k + 1) (x - y) := by
  have := h.add l.neg
  rwa [← Int.sub_eq_add_neg] at this
theorem Sm.ad {j k : Nat} {x y : Int} (h : Sm j x) (l : Sm k y) : Sm (j + k + 1) (x + y) := (h.mono (Nat.le_add_right j k)).add (l.mono (Nat.le_add_left k j))
theorem Sm.sb {j k : Nat} {x y : Int} (h : Sm j x) (l : Sm k y) : Sm (j + k + 1) (x - y) := (h.mono (Nat.le_add_right j k)).sub (l.mono (Nat.le_add_left k j))
theorem Sm.lit {k : Nat} {x : Int} (h : x.natAbs < 2 ^ k := by decide) : Sm k x := h
theorem Sm.le {k : Nat} {x y : Int} (h : Sm k y) (h0 : 0 ≤ x) (h1 : x ≤ y) : Sm k x := by
  unfold Sm at *
  omega
theorem Sm.pw {j : Nat} {x : Int} (h : Sm j x) (n : Nat) : Sm (j * n + 1) (x ^ n) := by
  induction n with
  | zero => rw [Int.pow_zero]; exact (Sm.lit (k := 1)).mono (by omega)
  | succ n ih => rw [Int.pow_succ]; exact (ih.mul h).mono (by rw [Nat.mul_succ]; omega)
/-- what * asks -/
theorem Sm.mx {j k : Nat} {x y : Int} (h : Sm j x) (l : Sm k y) (b : j + k ≤ 134217728) : CMulX x y := mulx_ok h l b
end RR

namespace RR
open PySem PySem.Spec PyProof.Rows L2
/-- a tuple of two ints -/
def Tp (K : PySem.W.Frag) (H : Hp) (v : V) (x y : Int) : Prop := ∃ p, v = .ref p ∧ SqT K H p [.int x, .int y]
theorem Tp.of {K : PySem.W.Frag} {H : Hp} {p : Addr} {x y : Int} (h : H p = some (.tup [.int x, .int y])) : Tp K H (.ref p) x y := ⟨p, rfl, sq_of h⟩
theorem dp2 {K : PySem.W.Frag} {H : Hp} {v : V} {x y : Int} (h : Tp K H v x y) : Dp K H v (.tuple [.int x, .int y]) := by
  obtain ⟨p, rfl, h⟩ := h
  exact .tup h (.cons (.int x) (.cons (.int y) .nil))
theorem eqv2 (x y u v : Int) : PyData.eqv (.tuple [.int x, .int y]) (.tuple [.int u, .int v]) = (decide (x = u) && decide (y = v)) := by
  simp only [PyData.eqv, PyData.eqvAll, Bool.and_true]
  rfl
section
variable {X : Cx}
/-- ==, != of two tuples of two ints -/
theorem op_eq2 (hu : X.A.units + 64 < cLine) : OpR X (compareOp .Eq) (fun x y H Q => ∃ a b c d, Tp X.K H x a b ∧ Tp X.K H y c d ∧ Q (.bl (decide (a = c) && decide (b = d))) H) := by
  intro pins s σ H x y v u Q I rx ry h
  obtain ⟨a, b, c, d, h1, h2, q⟩ := h
  exact op_eqD hu pins s σ H x y v u Q I rx ry ⟨_, _, dp2 h1, dp2 h2, rfl, rfl, by rw [eqv2]; exact q⟩
theorem op_ne2 (hu : X.A.units + 64 < cLine) : OpR X (compareOp .NotEq) (fun x y H Q => ∃ a b c d, Tp X.K H x a b ∧ Tp X.K H y c d ∧ Q (.bl (!(decide (a = c) && decide (b = d)))) H) := by
  intro pins s σ H x y v u Q I rx ry h
  obtain ⟨a, b, c, d, h1, h2, q⟩ := h
  exact op_neD hu pins s σ H x y v u Q I rx ry ⟨_, _, dp2 h1, dp2 h2, rfl, rfl, by rw [eqv2]; exact q⟩
/-- a ** b of a great int -/
def CPowW (i j : Int) : Prop := 0 ≤ j ∧ (Builtin.Int.intBits i : Int) * j ≤ 2 ^ 27
theorem op_powW : OpR X (binaryOp .Pow) (rI CPowW fun i j => .int (i ^ j.toNat)) := opI fun i j _ _ _ _ _ hc q => pow_int hc.1 hc.2 q
/-- isinstance of an int -/
theorem isi_int : CallR X (.builtin "isinstance") (fun xs H Q => ∃ i : Int, xs = [.int i, .ty "int"] ∧ Q (.bl true) H) := by
  intro pins s σ H xs us Q I r h
  obtain ⟨i, rfl, q⟩ := h
  exact call_isi pins s σ H _ us Q I r ⟨.int i, .ty "int", .type "int", .type "int", true, rfl, .ty "int", .base (.int i), kit_ty (by decide +kernel), q⟩
theorem isi_bool : CallR X (.builtin "isinstance") (fun xs H Q => ∃ i : Int, xs = [.int i, .ty "bool"] ∧ Q (.bl false) H) := by
  intro pins s σ H xs us Q I r h
  obtain ⟨i, rfl, q⟩ := h
  exact call_isi pins s σ H _ us Q I r ⟨.int i, .ty "bool", .type "int", .type "bool", false, rfl, .ty "bool", .base (.int i), kit_ty (by decide +kernel), q⟩
theorem isi_list : CallR X (.builtin "isinstance") (fun xs H Q => ∃ (a : Addr) (ys : List V), xs = [.ref a, .ty "list"] ∧ H a = some (.lst ys) ∧ Q (.bl true) H) := by
  intro pins s σ H xs us Q I r h
  obtain ⟨a, ys, rfl, e, q⟩ := h
  exact call_isi pins s σ H _ us Q I r ⟨.ref a, .ty "list", .type "list", .type "list", true, rfl, .ty "list", .base (.lst e), kit_ty (by decide +kernel), q⟩
theorem isi_tup : CallR X (.builtin "isinstance") (fun xs H Q => ∃ (a : Addr) (ys : List V), xs = [.ref a, .ty "tuple"] ∧ H a = some (.tup ys) ∧ Q (.bl true) H) := by
  intro pins s σ H xs us Q I r h
  obtain ⟨a, ys, rfl, e, q⟩ := h
  exact call_isi pins s σ H _ us Q I r ⟨.ref a, .ty "tuple", .type "tuple", .type "tuple", true, rfl, .ty "tuple", .base (.tup e), kit_ty (by decide +kernel), q⟩
end
/-- an if and what follows it, once -/
theorem split_if {c : Prop} [Decidable c] {t u : TS} {D : Ends} {σ : L2.St} {H : Hp} (R : L2.St → Hp → Prop) (hR : ∀ σ' H', R σ' H' → D.nx σ' H')
    (h : ∀ D' : Ends, (∀ σ' H', R σ' H' → D'.nx σ' H') → if c then t D' σ H else u D' σ H) : if c then t D σ H else u D σ H := h D hR
theorem sm_bits {z : Int} {k : Nat} (h : Builtin.Int.intBits z ≤ k) : Sm k z := by
  unfold Builtin.Int.intBits at h
  unfold Sm
  split at h
  · rename_i e
    have e0 : z = 0 := by simpa using e
    subst e0
    exact Nat.two_pow_pos k
  · exact Nat.lt_of_lt_of_le Nat.lt_log2_self (Nat.pow_le_pow_right (by decide) h)
theorem getD_bits {ns : List Int} {k : Nat} (h : ∀ z ∈ ns, Builtin.Int.intBits z ≤ k) (i : Nat) : Sm k (ns.getD i 0) := by
  rw [List.getD_eq_getElem?_getD]
  cases e : ns[i]? with
  | none => exact Nat.two_pow_pos k
  | some z => exact sm_bits (h z (List.mem_of_getElem? e))
end RR

namespace RR
/-! the pairs of a base -/
def XY (a : Int) : Nat → Int × Int
  | 0 => (1, 0)
  | n + 1 => (a * (XY a n).1 + (a * a - 1) * (XY a n).2, (XY a n).1 + a * (XY a n).2)
def px (a : Int) (n : Nat) : Int := (XY a n).1
def py (a : Int) (n : Nat) : Int := (XY a n).2
theorem px0 (a : Int) : px a 0 = 1 := rfl
theorem py0 (a : Int) : py a 0 = 0 := rfl
theorem px1 (a : Int) (n : Nat) : px a (n + 1) = a * px a n + (a * a - 1) * py a n := rfl
theorem py1 (a : Int) (n : Nat) : py a (n + 1) = px a n + a * py a n := rfl
theorem pell (a : Int) (n : Nat) : px a n * px a n - (a * a - 1) * (py a n * py a n) = 1 := by
  induction n with
  | zero => rw [px0, py0]; omega
  | succ n ih => rw [px1, py1]; grind
theorem pxy_add (a : Int) (m n : Nat) : px a (m + n) = px a m * px a n + (a * a - 1) * (py a m * py a n) ∧ py a (m + n) = px a m * py a n + py a m * px a n := by
  induction n with
  | zero => rw [px0, py0, Nat.add_zero]; constructor <;> grind
  | succ n ih =>
    obtain ⟨h1, h2⟩ := ih
    rw [← Nat.add_assoc, px1, py1, px1, py1, h1, h2]
    constructor <;> grind
theorem px_dbl (a : Int) (n : Nat) : px a (2 * n) = 2 * px a n * px a n - 1 := by
  rw [Nat.two_mul, (pxy_add a n n).1]
  have := pell a n
  grind
theorem py_dbl (a : Int) (n : Nat) : py a (2 * n) = 2 * px a n * py a n := by
  rw [Nat.two_mul, (pxy_add a n n).2]
  grind
theorem pxy_pos {a : Int} (ha : 2 ≤ a) (n : Nat) : 0 ≤ py a n ∧ py a n < px a n := by
  induction n with
  | zero => rw [px0, py0]; omega
  | succ n ih =>
    obtain ⟨h1, h2⟩ := ih
    rw [px1, py1]
    have e1 : a * a ≥ 2 * a := Int.mul_le_mul_of_nonneg_right ha (by omega)
    have e2 : a * px a n ≥ 2 * px a n := Int.mul_le_mul_of_nonneg_right ha (by omega)
    have e3 : (a * a - 1) * py a n ≥ a * py a n := Int.mul_le_mul_of_nonneg_right (by omega) h1
    have e4 : 0 ≤ a * py a n := Int.mul_nonneg (by omega) h1
    omega
theorem px_mono1 {a : Int} (ha : 2 ≤ a) (n : Nat) : px a n ≤ px a (n + 1) := by
  obtain ⟨h1, h2⟩ := pxy_pos ha n
  rw [px1]
  have e1 : a * a ≥ 2 * a := Int.mul_le_mul_of_nonneg_right ha (by omega)
  have e2 : a * px a n ≥ 2 * px a n := Int.mul_le_mul_of_nonneg_right ha (by omega)
  have e3 : 0 ≤ (a * a - 1) * py a n := Int.mul_nonneg (by omega) h1
  omega
theorem px_mono {a : Int} (ha : 2 ≤ a) {m n : Nat} (h : m ≤ n) : px a m ≤ px a n := by
  induction h with
  | refl => exact Int.le_refl _
  | step _ ih => exact Int.le_trans ih (px_mono1 ha _)
/-! signs to the base two -/
def bval (l : List Nat) : Nat := l.foldl (fun v c => 2 * v + (c - 48)) 0
theorem bval_snoc (l : List Nat) (c : Nat) : bval (l ++ [c]) = 2 * bval l + (c - 48) := by
  unfold bval
  rw [List.foldl_append]
  rfl
theorem dig2 {d : Nat} (h : d < 2) : (Nat.digitChar d).toNat = 48 + d := by
  match d, h with
  | 0, _ => rfl
  | 1, _ => rfl
theorem binL_lt {n : Nat} (h : n < 2) : binL n = [48 + n] := by
  unfold binL
  rw [Nat.toDigits_of_lt_base h, List.map_singleton, dig2 h]
theorem binL_ge {n : Nat} (h : 2 ≤ n) : binL n = binL (n / 2) ++ [48 + n % 2] := by
  unfold binL
  rw [Nat.toDigits_of_base_le (by decide) h, List.map_append, List.map_singleton, dig2 (Nat.mod_lt _ (by decide))]
theorem bval_bin (n : Nat) : bval (binL n) = n := by
  induction n using Nat.strongRecOn with
  | ind n ih =>
    by_cases h : n < 2
    · rw [binL_lt h]
      show 2 * 0 + (48 + n - 48) = n
      omega
    · rw [binL_ge (by omega), bval_snoc, ih (n / 2) (by omega)]
      omega
theorem bin_mem (n : Nat) : ∀ c ∈ binL n, c = 48 ∨ c = 49 := by
  induction n using Nat.strongRecOn with
  | ind n ih =>
    intro c hc
    by_cases h : n < 2
    · rw [binL_lt h, List.mem_singleton] at hc
      omega
    · rw [binL_ge (by omega), List.mem_append, List.mem_singleton] at hc
      rcases hc with hc | hc
      · exact ih (n / 2) (by omega) c hc
      · omega
theorem bval_take {l : List Nat} {i c : Nat} (h : l[i]? = some c) : bval (l.take (i + 1)) = 2 * bval (l.take i) + (c - 48) := by
  rw [List.take_add_one, h]
  exact bval_snoc _ c
theorem fold_ge (m : List Nat) : ∀ v : Nat, v ≤ m.foldl (fun v c => 2 * v + (c - 48)) v := by
  induction m with
  | nil => intro v; exact Nat.le_refl _
  | cons c m ih =>
    intro v
    have := ih (2 * v + (c - 48))
    rw [List.foldl_cons]
    omega
theorem bval_app (l m : List Nat) : bval l ≤ bval (l ++ m) := by
  unfold bval
  rw [List.foldl_append]
  exact fold_ge m _
theorem bval_le (l : List Nat) (i : Nat) : bval (l.take i) ≤ bval l := by
  have := bval_app (l.take i) (l.drop i)
  rwa [List.take_append_drop] at this
theorem bin_len {n k : Nat} (h : n < 2 ^ k) (hk : 0 < k) : (binS n).length ≤ k := by
  show (binL n).toArray.size ≤ k
  rw [List.size_toArray]
  unfold binL
  rw [List.length_map]
  exact (Nat.length_toDigits_le_iff (by decide) hk).mpr h
end RR
namespace RR
theorem rest_dx (a : Int) (v : Nat) (m : Int) : (2 * (px a v % m) * (px a v % m) - 1) % m = (2 * px a v * px a v - 1) % m := by
  rw [Int.sub_emod, Int.mul_emod, Int.mul_emod 2, Int.emod_emod, ← Int.mul_emod 2, ← Int.mul_emod, ← Int.sub_emod]
theorem rest_dy (a : Int) (v : Nat) (m : Int) : (2 * (px a v % m) * (py a v % m)) % m = (2 * px a v * py a v) % m := by
  rw [Int.mul_emod, Int.mul_emod 2, Int.emod_emod, Int.emod_emod, ← Int.mul_emod 2, ← Int.mul_emod]
theorem modeq {m a b : Int} (k : Int) (h : a - b = m * k) : a % m = b % m :=
  Int.emod_eq_emod_iff_emod_sub_eq_zero.mpr (Int.emod_eq_zero_of_dvd ⟨k, h⟩)
theorem rest_nx (a x y m : Int) : (a * x + (a * a - 1) * y) % m = ((a % m) * (x % m) + ((a % m) * (a % m) - 1) * (y % m)) % m := by
  have h1 := Int.mul_ediv_add_emod a m
  have h2 := Int.mul_ediv_add_emod x m
  have h3 := Int.mul_ediv_add_emod y m
  generalize a % m = A at *
  generalize x % m = X at *
  generalize y % m = Y at *
  generalize a / m = q1 at *
  generalize x / m = q2 at *
  generalize y / m = q3 at *
  exact modeq (q1 * x + A * q2 + (a * a - 1) * q3 + q1 * (a + A) * Y) (by grind)
theorem rest_ny (a x y m : Int) : (x + a * y) % m = ((x % m) + (a % m) * (y % m)) % m := by
  have h1 := Int.mul_ediv_add_emod a m
  have h2 := Int.mul_ediv_add_emod x m
  have h3 := Int.mul_ediv_add_emod y m
  generalize a % m = A at *
  generalize x % m = X at *
  generalize y % m = Y at *
  generalize a / m = q1 at *
  generalize x / m = q2 at *
  generalize y / m = q3 at *
  exact modeq (q2 + q1 * y + A * q3) (by grind)
end RR
namespace RR
theorem px_step {a : Int} (ha : 2 ≤ a) (n : Nat) : (a * a - 1) * py a n ≤ a * px a n := by
  induction n with
  | zero => rw [px0, py0]; omega
  | succ n ih =>
    obtain ⟨h1, h2⟩ := pxy_pos ha n
    rw [px1, py1]
    have : a * (a * px a n + (a * a - 1) * py a n) - (a * a - 1) * (px a n + a * py a n) = px a n := by grind
    omega
theorem px_pow {a : Int} (ha : 2 ≤ a) (n : Nat) : px a n ≤ (2 * a) ^ n := by
  induction n with
  | zero => rw [px0, Int.pow_zero]; exact Int.le_refl _
  | succ n ih =>
    have h := px_step ha n
    rw [px1, Int.pow_succ]
    have e := Int.mul_le_mul_of_nonneg_right ih (show 0 ≤ 2 * a by omega)
    have : px a n * (2 * a) = a * px a n + a * px a n := by grind
    omega
theorem px_nat {a : Int} (ha : 2 ≤ a) (n B : Nat) (hB : 2 * a ≤ 2 ^ B) : (px a n).natAbs < 2 ^ (B * n + 1) := by
  have h := px_pow ha n
  have h0 := pxy_pos ha n
  have h2 : (2 * a) ^ n ≤ ((2 : Int) ^ B) ^ n := by
    have hp : ∀ k : Nat, (2 * a) ^ k ≤ ((2 : Int) ^ B) ^ k ∧ 0 ≤ (2 * a) ^ k := by
      intro k
      induction k with
      | zero => exact ⟨by rw [Int.pow_zero, Int.pow_zero]; exact Int.le_refl _, by rw [Int.pow_zero]; decide⟩
      | succ k ih =>
        rw [Int.pow_succ, Int.pow_succ]
        exact ⟨Int.mul_le_mul ih.1 hB (by omega) (Int.le_trans ih.2 ih.1), Int.mul_nonneg ih.2 (by omega)⟩
    exact (hp n).1
  have e : ((2 : Int) ^ B) ^ n = ((2 ^ (B * n) : Nat) : Int) := by
    rw [← Int.pow_mul]
    exact (Int.natCast_pow 2 (B * n)).symm
  rw [e] at h2
  rw [Nat.pow_succ]
  generalize (2 : Nat) ^ (B * n) = P at *
  omega
/-- what a power of x leaves -/
theorem px_power (a x : Int) (n : Nat) : ∃ k, px a n - py a n * (a - x) - x ^ n = (2 * a * x - x * x - 1) * k := by
  induction n with
  | zero => exact ⟨0, by rw [px0, py0, Int.pow_zero]; omega⟩
  | succ n ih =>
    obtain ⟨k, hk⟩ := ih
    refine ⟨x * k + py a n, ?_⟩
    rw [px1, py1, Int.pow_succ]
    grind
theorem px_cong (a b m : Int) (k : Int) (h : a - b = m * k) (n : Nat) : (∃ q, px a n - px b n = m * q) ∧ ∃ q, py a n - py b n = m * q := by
  induction n with
  | zero => exact ⟨⟨0, by rw [px0, px0]; omega⟩, ⟨0, by rw [py0, py0]; omega⟩⟩
  | succ n ih =>
    obtain ⟨⟨q, hq⟩, ⟨r, hr⟩⟩ := ih
    refine ⟨⟨k * px a n + b * q + (a * a - 1) * r + k * (a + b) * py b n, ?_⟩, ⟨q + k * py a n + b * r, ?_⟩⟩
    · rw [px1, px1]; grind
    · rw [py1, py1]; grind
end RR
namespace RR
theorem px_rec (a : Int) (k : Nat) : px a (k + 2) = 2 * a * px a (k + 1) - px a k := by
  rw [px1 a (k + 1), px1, py1]; grind
theorem py_rec (a : Int) (k : Nat) : py a (k + 2) = 2 * a * py a (k + 1) - py a k := by
  rw [py1 a (k + 1), px1, py1]; grind
theorem rest_rec {a m x2 X2 x1 X1 : Int} (h2 : x2 % m = X2 % m) (h1 : x1 % m = X1 % m) : (2 * a * x2 - x1) % m = (2 * a * X2 - X1) % m := by
  have e1 := Int.mul_ediv_add_emod x2 m
  have e2 := Int.mul_ediv_add_emod X2 m
  have e3 := Int.mul_ediv_add_emod x1 m
  have e4 := Int.mul_ediv_add_emod X1 m
  rw [h2] at e1
  rw [h1] at e3
  generalize X2 % m = A at *
  generalize X1 % m = B at *
  exact modeq (2 * a * (x2 / m - X2 / m) - (x1 / m - X1 / m)) (by grind)
theorem rest_dx' {a x : Int} {v : Nat} {m : Int} (h : x % m = px a v % m) : (2 * x * x - 1) % m = px a (2 * v) % m := by
  rw [px_dbl, ← rest_dx a v m, ← h]
  have e1 := Int.mul_ediv_add_emod x m
  generalize x % m = A at *
  exact modeq (2 * (x / m) * (x + A)) (by grind)
theorem rest_dy' {a x y : Int} {v : Nat} {m : Int} (h : x % m = px a v % m) (h' : y % m = py a v % m) : (2 * x * y) % m = py a (2 * v) % m := by
  rw [py_dbl, ← rest_dy a v m, ← h, ← h']
  have e1 := Int.mul_ediv_add_emod x m
  have e2 := Int.mul_ediv_add_emod y m
  generalize x % m = A at *
  generalize y % m = B at *
  exact modeq (2 * (x / m) * y + 2 * A * (y / m)) (by grind)
theorem rest_nx' {a x y : Int} {v : Nat} {m : Int} (h : x % m = px a v % m) (h' : y % m = py a v % m) : (a * x + (a * a - 1) * y) % m = px a (v + 1) % m := by
  rw [px1, rest_nx a x y, rest_nx a (px a v), h, h']
theorem rest_ny' {a x y : Int} {v : Nat} {m : Int} (h : x % m = px a v % m) (h' : y % m = py a v % m) : (x + a * y) % m = py a (v + 1) % m := by
  rw [py1, rest_ny a x y, rest_ny a (px a v), h, h']
/-- the value of signs, the lowest first -/
def lval : List Int → Nat
  | [] => 0
  | d :: r => d.toNat + 2 * lval r
theorem lval_app (l : List Int) (d : Int) : lval (l ++ [d]) = lval l + 2 ^ l.length * d.toNat := by
  induction l with
  | nil => show d.toNat + 2 * 0 = 0 + 2 ^ 0 * d.toNat; omega
  | cons c l ih =>
    show c.toNat + 2 * lval (l ++ [d]) = c.toNat + 2 * lval l + 2 ^ (l.length + 1) * d.toNat
    rw [ih, Nat.pow_succ, Nat.mul_add, Nat.mul_comm (2 ^ l.length) 2, Nat.mul_assoc]
    omega
theorem lval_drop {l : List Int} {i : Nat} {d : Int} (h : l[i]? = some d) : lval (l.drop i) = d.toNat + 2 * lval (l.drop (i + 1)) := by
  obtain ⟨hi, e⟩ := List.getElem?_eq_some_iff.mp h
  rw [List.drop_eq_getElem_cons hi, e]
  rfl
end RR
namespace RR
theorem rest_addx (a m : Int) (i j : Nat) : ((px a i % m) * (px a j % m) + (a * a - 1) * (py a i % m) * (py a j % m)) % m = px a (i + j) % m := by
  rw [(pxy_add a i j).1]
  have e1 := Int.mul_ediv_add_emod (px a i) m
  have e2 := Int.mul_ediv_add_emod (px a j) m
  have e3 := Int.mul_ediv_add_emod (py a i) m
  have e4 := Int.mul_ediv_add_emod (py a j) m
  generalize px a i % m = A at *
  generalize px a j % m = B at *
  generalize py a i % m = C at *
  generalize py a j % m = D at *
  exact (modeq ((px a i / m) * px a j + A * (px a j / m) + (a * a - 1) * ((py a i / m) * py a j + C * (py a j / m))) (by grind)).symm
theorem rest_addy (a m : Int) (i j : Nat) : ((px a i % m) * (py a j % m) + (py a i % m) * (px a j % m)) % m = py a (i + j) % m := by
  rw [(pxy_add a i j).2]
  have e1 := Int.mul_ediv_add_emod (px a i) m
  have e2 := Int.mul_ediv_add_emod (px a j) m
  have e3 := Int.mul_ediv_add_emod (py a i) m
  have e4 := Int.mul_ediv_add_emod (py a j) m
  generalize px a i % m = A at *
  generalize px a j % m = B at *
  generalize py a i % m = C at *
  generalize py a j % m = D at *
  exact (modeq ((px a i / m) * py a j + A * (py a j / m) + (py a i / m) * px a j + C * (px a j / m)) (by grind)).symm
end RR
namespace RR
theorem sq_lt {g k e : Nat} (h : g < 2 ^ e) (hk : k < 4) (he : 3 ≤ e) : g * g + k < 2 ^ (e * 2) := by
  have h8 : 2 ^ 3 ≤ 2 ^ e := Nat.pow_le_pow_right (by decide) he
  rw [Nat.pow_mul, Nat.pow_two]
  generalize 2 ^ e = P at *
  have h1 := Nat.mul_le_mul (show g + 1 ≤ P from h) (show g + 1 ≤ P from h)
  have h2 := Nat.mul_le_mul h8 h8
  have h3 : (g + 1) * (g + 1) = g * g + 2 * g + 1 := by grind
  by_cases hg : g < 2
  · have : g * g ≤ 1 * 1 := Nat.mul_le_mul (by omega) (by omega)
    omega
  · omega
end RR

namespace RR
open PySem PySem.Spec PyProof.Rows L2
section
variable {X : Cx}
/-- f(*y) -/
theorem pe_calS {x : Str} {k : Nat} {ps : List Str} {sp : Sp} {p pos sp_ : Pos} {e : Expr} {te : TE} (C : Cal X.prog X.w X.K X.mg X.base x k ps sp) (hr : Room k X.A) (hg : Gl X x) (he : PE X e te)
    (hd : (x == ("__debug__" : Str)) = false := by decide) (hst : starEach [.Starred e sp_] X.env = [(true, eval e X.env)] := by rfl) :
    PE X (.Call (.Name x p) [.Starred e sp_] [] pos) (fun σ H Q => te σ H fun y H1 => ∃ a xs, y = V.ref a ∧ (SqT X.K H1 a xs ∨ SqL X.K H1 a xs) ∧ sp xs H1 Q L2.E0) := by
  obtain ⟨f, fd, F, g, kp, b⟩ := C.ex
  have h := StX.pe_callS1 (p := p) (pos := pos) (sp_ := sp_) (F.raw b .nil) hr kp hg g L2.pass0 he hd hst
  refine ⟨fun pins s σ H Q I q => h.run pins s σ H Q I ?_⟩
  simp only [List.append_nil]
  exact q
end
/-- for x in reversed(xs) -/
theorem for_rev {K : PySem.W.Frag} {a : Addr} {xs : List V} {g : TG} {tb : TS} {D : Ends} {σ : L2.St} {H : Hp} (Pv : Nat → L2.St → Hp → Prop) (h0 : Pv 0 σ H) (hl : ∀ i σ H, i ≤ xs.length → Pv i σ H → SqL K H a xs)
    (hs : ∀ i x σ H, i < xs.length → xs[xs.length - 1 - i]? = some x → Pv i σ H → g x σ H fun σ2 H2 => tb { D with nx := Pv (i + 1), ct := Pv (i + 1), bk := D.nx } σ2 H2) (hd : ∀ σ H, Pv xs.length σ H → D.nx σ H) :
    ∃ W : Nat → Nat → L2.St → Hp → Prop, (∃ m, W 0 m σ H) ∧ ∀ i m σ H, W i m σ H →
      ((Itv K a xs.length).stop i H ∧ D.nx σ H) ∨ ((Itv K a xs.length).go i H ∧ ∃ N : L2.St → Hp → Prop, (∀ σ' H', N σ' H' → ∃ m', m' < m ∧ W (i + 1) m' σ' H') ∧
        ∀ x H', (Itv K a xs.length).yld i H x H' → g x σ H' fun σ2 H2 => tb { D with nx := N, ct := N, bk := D.nx } σ2 H2) := by
  refine ⟨fun i m σ H => m = xs.length - i ∧ i ≤ xs.length ∧ Pv i σ H, ⟨xs.length, by simp, Nat.zero_le _, h0⟩, ?_⟩
  rintro i m σ H ⟨rfl, hi, p⟩
  have q := hl i σ H hi p
  by_cases hlt : i < xs.length
  · have hix : xs[xs.length - 1 - i]? = some (xs[xs.length - 1 - i]'(by omega)) := List.getElem?_eq_getElem (by omega)
    refine .inr ⟨⟨hlt, xs, _, q, hix⟩, Pv (i + 1), fun σ' H' p' => ⟨xs.length - (i + 1), by omega, rfl, hlt, p'⟩, fun x H' y => ?_⟩
    obtain ⟨e, y⟩ := y
    subst e
    exact hs i x σ _ hlt (y xs q) p
  · have e : i = xs.length := by omega
    subst e
    exact .inl ⟨Nat.le_refl _, hd σ H p⟩
theorem Same.new {H H1 : Hp} {p : Addr} {o : HO} (s : Same H H1) (h : H p = none) : Same H (upd H1 p o) := fun b u e => by
  rw [upd_ne (ne_of_none e h)]
  exact s b u e
theorem px_ge {a : Int} (ha : 2 ≤ a) (n : Nat) : ((2 ^ n : Nat) : Int) ≤ px a n := by
  induction n with
  | zero => rw [px0]; decide
  | succ n ih =>
    obtain ⟨h1, h2⟩ := pxy_pos ha n
    rw [px1]
    have e1 : a * a ≥ 2 * a := Int.mul_le_mul_of_nonneg_right ha (by omega)
    have e2 : a * px a n ≥ 2 * px a n := Int.mul_le_mul_of_nonneg_right ha (by omega)
    have e3 : 0 ≤ (a * a - 1) * py a n := Int.mul_nonneg (by omega) h1
    rw [Nat.pow_succ]
    push_cast at *
    omega
theorem px_ix {a : Int} (ha : 2 ≤ a) {n B : Nat} (h : Sm B (px a n)) : n < B := by
  have h1 := px_ge ha n
  have h2 := pxy_pos ha n
  unfold Sm at h
  by_cases c : n < B
  · exact c
  · have := Nat.pow_le_pow_right (n := 2) (by decide) (show B ≤ n by omega)
    omega
theorem app_go {H : Hp} {Q : VK} {p : Addr} {v : V} {xs : List V} (h : H p = some (.lst xs)) (hl : xs.length < sizeLine) (q : Q .non (upd H p (.lst (xs ++ [v])))) : rAppend (.ref p) [v] H Q :=
  ⟨p, xs, v, rfl, rfl, h, hl, q⟩
theorem atI_neg {α : Type} {xs : List α} {k : Nat} {v : α} (h0 : 0 < k) (hk : k ≤ xs.length) (h : xs[xs.length - k]? = some v) : atI xs (-(k : Int)) = some v := by
  unfold atI ixN
  rw [if_neg (by omega), if_pos (by omega)]
  show xs[(-(k : Int) + xs.length).toNat]? = some v
  rw [show (-(k : Int) + xs.length).toNat = xs.length - k by omega]
  exact h
theorem cut_take (xs : List V) (n : Nat) (h : n ≤ xs.length) : cutV xs none (some (n : Int)) = xs.take n := by
  unfold cutV
  rw [HT.sIx_none, HT.sIx_nat, Nat.min_eq_left h, List.drop_zero, Nat.sub_zero]
theorem cut_mid (xs : List V) (i j : Nat) (hi : i ≤ xs.length) (hj : j ≤ xs.length) : cutV xs (some (i : Int)) (some (j : Int)) = (xs.drop i).take (j - i) := by
  unfold cutV
  rw [HT.sIx_nat, HT.sIx_nat, Nat.min_eq_left hi, Nat.min_eq_left hj]
/-- at L a list of the pairs with the indexes 0, 1, .. -/
def PL (a : Int) (H : Hp) (L : Addr) (n : Nat) : Prop := ∃ ps : List Addr, ps.length = n ∧ H L = some (.lst (ps.map V.ref)) ∧ ∀ (i : Nat) (p : Addr), ps[i]? = some p → H p = some (.tup [.int (px a i), .int (py a i)])
theorem PL.keep {a : Int} {H H' : Hp} {L : Addr} {n : Nat} (h : PL a H L n) (s : Same H H') : PL a H' L n := by
  obtain ⟨ps, e, hL, hp⟩ := h
  exact ⟨ps, e, s _ _ hL, fun i p hi => s _ _ (hp i p hi)⟩
theorem PL.at {K : PySem.W.Frag} {a : Int} {H : Hp} {L : Addr} {n : Nat} (h : PL a H L n) {Q : VK} {i : Nat} (hi : i < n) (q : ∀ p, H p = some (.tup [.int (px a i), .int (py a i)]) → Q (.ref p) H) :
    rIxL K (.ref L) (.int (i : Int)) H Q := by
  obtain ⟨ps, e, hL, hp⟩ := h
  have h1 : ps[i]? = some (ps[i]'(by omega)) := List.getElem?_eq_getElem (by omega)
  exact ixL_as (.inl (.inl hL)) (atI_nat (by rw [List.getElem?_map, h1]; rfl)) (q _ (hp i _ h1))
theorem PL.at' {K : PySem.W.Frag} {a : Int} {H : Hp} {L : Addr} {n : Nat} (h : PL a H L n) {Q : VK} {i : Nat} {z : Int} (e : z = (i : Int)) (hi : i < n) (q : ∀ p, H p = some (.tup [.int (px a i), .int (py a i)]) → Q (.ref p) H) :
    rIxL K (.ref L) (.int z) H Q := by
  subst e
  exact h.at hi q
theorem ne_self {x y : V} (h : x = y) : ¬ (!decide (x = y)) = true := by
  rw [decide_eq_true h]
  decide
theorem ne2_self {a b c d : Int} (h : a = c) (h' : b = d) : ¬ (!(decide (a = c) && decide (b = d))) = true := by
  rw [decide_eq_true h, decide_eq_true h']
  decide
theorem PL.push {a : Int} {H : Hp} {L : Addr} {ps : List Addr} (hL : H L = some (.lst (ps.map V.ref))) (hp : ∀ (i : Nat) (p : Addr), ps[i]? = some p → H p = some (.tup [.int (px a i), .int (py a i)])) {p : Addr}
    (h : H p = some (.tup [.int (px a ps.length), .int (py a ps.length)])) : PL a (upd H L (.lst (ps.map V.ref ++ [V.ref p]))) L (ps.length + 1) := by
  refine ⟨ps ++ [p], by rw [List.length_append]; rfl, by rw [upd_same, List.map_append]; rfl, fun i t hi => ?_⟩
  by_cases hj : i < ps.length
  · rw [List.getElem?_append_left hj] at hi
    have h1 := hp i t hi
    rw [upd_ne (ne_of hL h1 (by intro z; cases z)).symm]
    exact h1
  · rw [List.getElem?_append_right (by omega)] at hi
    have h3 : i - ps.length < 1 := (List.getElem?_eq_some_iff.mp hi).1
    have h4 : i = ps.length := by omega
    rw [h4, Nat.sub_self] at hi
    have h5 : p = t := Option.some.inj hi
    rw [← h5, h4, upd_ne (ne_of hL h (by intro z; cases z)).symm]
    exact h
/-! more on pairs -/
theorem py_lt1 {a : Int} (ha : 2 ≤ a) (n : Nat) : py a n < py a (n + 1) := by
  obtain ⟨h1, h2⟩ := pxy_pos ha n
  rw [py1]
  have : 2 * py a n ≤ a * py a n := Int.mul_le_mul_of_nonneg_right ha h1
  omega
theorem py_lt {a : Int} (ha : 2 ≤ a) {m n : Nat} (h : m < n) : py a m < py a n := by
  induction n with
  | zero => omega
  | succ n ih =>
    by_cases e : m = n
    · rw [e]; exact py_lt1 ha n
    · exact Int.lt_trans (ih (by omega)) (py_lt1 ha n)
theorem py_le_iff {a : Int} (ha : 2 ≤ a) (m n : Nat) : py a m ≤ py a n ↔ m ≤ n := by
  constructor
  · intro h
    by_cases e : m ≤ n
    · exact e
    · exact absurd (py_lt ha (show n < m by omega)) (by omega)
  · intro h
    by_cases e : m = n
    · rw [e]; exact Int.le_refl _
    · exact Int.le_of_lt (py_lt ha (by omega))
theorem pxy_sub (a : Int) (s t : Nat) : px a (t + s) * px a s - (a * a - 1) * py a (t + s) * py a s = px a t ∧ py a (t + s) * px a s - px a (t + s) * py a s = py a t := by
  rw [(pxy_add a t s).1, (pxy_add a t s).2]
  have := pell a s
  constructor <;> grind
/-- every two squares one apart are a pair's -/
theorem pell_all {a : Int} (ha : 2 ≤ a) : ∀ (k : Nat) (x y : Int), y.toNat ≤ k → 0 ≤ x → 0 ≤ y → x * x - (a * a - 1) * y * y = 1 → ∃ n, x = px a n ∧ y = py a n := by
  intro k
  induction k with
  | zero =>
    intro x y hk hx hy h
    have e : y = 0 := by omega
    subst e
    refine ⟨0, ?_, rfl⟩
    rw [px0]
    have h2 : x * x = 1 := by grind
    have h3 : x < 2 := by
      by_cases c : x < 2
      · exact c
      · have := Int.mul_le_mul (a := 2) (b := 2) (c := x) (d := x) (by omega) (by omega) (by omega) hx
        omega
    have h4 : x ≠ 0 := by
      intro z
      rw [z] at h2
      exact absurd h2 (by decide)
    omega
  | succ k ih =>
    intro x y hk hx hy h
    by_cases e : y = 0
    · exact ih x y (by omega) hx hy h
    · have y1 : 1 ≤ y := by omega
      have hyy : 1 ≤ y * y := by
        have := Int.mul_le_mul (a := 1) (b := 1) (c := y) (d := y) y1 y1 (by omega) hy
        omega
      have hxy : x ≤ a * y := by
        by_cases c : x ≤ a * y
        · exact c
        · have c2 : a * y + 1 ≤ x := by omega
          have p0 : 0 ≤ a * y := Int.mul_nonneg (by omega) hy
          have := Int.mul_le_mul (a := a * y + 1) (b := a * y + 1) (c := x) (d := x) c2 c2 (by omega) hx
          have e1 : (a * y + 1) * (a * y + 1) = a * a * y * y + 2 * (a * y) + 1 := by grind
          have e2 : x * x = a * a * y * y - y * y + 1 := by grind
          omega
      have hlt : a * y - x < y := by
        by_cases c : a * y - x < y
        · exact c
        · have c2 : x ≤ (a - 1) * y := by
            have : (a - 1) * y = a * y - y := by grind
            omega
          have p0 : 0 ≤ (a - 1) * y := Int.mul_nonneg (by omega) hy
          have := Int.mul_le_mul c2 c2 hx p0
          have e1 : (a - 1) * y * ((a - 1) * y) = a * a * y * y - y * y - 2 * (a - 1) * (y * y) := by grind
          have e2 : x * x = a * a * y * y - y * y + 1 := by grind
          have e3 : 0 ≤ (a - 1) * (y * y) := Int.mul_nonneg (by omega) (by omega)
          have e4 : 2 * (a - 1) * (y * y) = 2 * ((a - 1) * (y * y)) := by grind
          omega
      have hx0 : 0 ≤ a * x - (a * a - 1) * y := by
        by_cases c : 0 ≤ a * x - (a * a - 1) * y
        · exact c
        · have c2 : a * x ≤ (a * a - 1) * y := by omega
          have p1 : 0 ≤ a * x := Int.mul_nonneg (by omega) hx
          have p2 : 2 * a ≤ a * a := Int.mul_le_mul_of_nonneg_right ha (by omega)
          have p0 : 0 ≤ (a * a - 1) * y := Int.mul_nonneg (by omega) hy
          have := Int.mul_le_mul c2 c2 p1 p0
          have e1 : a * x * (a * x) = a * a * (x * x) := by grind
          have e2 : (a * a - 1) * y * ((a * a - 1) * y) = (a * a - 1) * (x * x - 1) := by
            rw [← h]; grind
          have e3 : (a * a - 1) * (x * x - 1) = a * a * (x * x) - x * x - (a * a - 1) := by grind
          have e4 : 0 ≤ x * x := Int.mul_nonneg hx hx
          omega
      obtain ⟨n, e1, e2⟩ := ih (a * x - (a * a - 1) * y) (a * y - x) (by omega) hx0 (by omega) (by grind)
      refine ⟨n + 1, ?_, ?_⟩
      · rw [px1, ← e1, ← e2]; grind
      · rw [py1, ← e1, ← e2]; grind
theorem pell_only {a x y : Int} (ha : 2 ≤ a) (hx : 0 ≤ x) (hy : 0 ≤ y) (h : x * x - (a * a - 1) * y * y = 1) : ∃ n, x = px a n ∧ y = py a n := pell_all ha _ x y (Nat.le_refl _) hx hy h
theorem py_ge {a : Int} (ha : 2 ≤ a) (n : Nat) : (n : Int) ≤ py a n := by
  induction n with
  | zero => rw [py0]; decide
  | succ n ih =>
    have := py_lt1 ha n
    omega
theorem tNoPart_go {σ : L2.St} {H : Hp} {Q : Option Int → Hp → Prop} (q : Q none H) : tNoPart σ H Q := q
end RR

set_option maxHeartbeats 2000000
namespace RR
open PySem PySem.Calls
theorem entry_comb : entryFor table "math.comb" = some Builtin.«math.comb» := entryFor_of_tree (by kernel_rfl)
theorem kind_comb : builtinKind "math.comb" = none := by kernel_rfl
theorem plain_comb : plainId "math.comb" = true := by decide +kernel
theorem args_comb (a b : Value) : argsOk "math.comb" ⟨[a, b], []⟩ := by
  unfold argsOk
  kernel_rfl
theorem run_comb (a b : Int) (t u : Tok) (h0 : ¬ a < 0) (h1 : ¬ b < 0) (h2 : ¬ b > a) (h3 : ¬ min b (a - b) > Builtin.Math.maxSsize) (h4 : ¬ min b (a - b) > Builtin.Math.manyFactors) (h5 : ¬ min b (a - b) > 9000)
    (hsz : (Builtin.Math.fallingProduct a (min b (a - b)).toNat / Builtin.Math.fallingProduct (min b (a - b)) (min b (a - b)).toNat).natAbs.log2 < bitsLine) :
    Gives (Builtin.«math.comb» ⟨[.int a t, .int b u], []⟩) (.int (Builtin.Math.fallingProduct a (min b (a - b)).toNat / Builtin.Math.fallingProduct (min b (a - b)) (min b (a - b)).toNat)) :=
  .of_wp fun M A E s Q h => by
    obtain ⟨hp, g, d, tk, os⟩ := s
    wp_walk
    exact ⟨_, rfl, h⟩
theorem run_comb0 (a b : Int) (t u : Tok) (h0 : ¬ a < 0) (h1 : ¬ b < 0) (h2 : b > a) : Gives (Builtin.«math.comb» ⟨[.int a t, .int b u], []⟩) (.int 0) :=
  .of_wp fun M A E s Q h => by
    obtain ⟨hp, g, d, tk, os⟩ := s
    wp_walk
    exact ⟨_, rfl, h⟩
/-- Pascal's numbers -/
def ch : Nat → Nat → Nat
  | _, 0 => 1
  | 0, _ + 1 => 0
  | n + 1, k + 1 => ch n k + ch n (k + 1)
def fac : Nat → Nat
  | 0 => 1
  | n + 1 => (n + 1) * fac n
def fall (n : Int) : Nat → Int
  | 0 => 1
  | k + 1 => fall n k * (n - k)
theorem fall_eq (n : Int) (k : Nat) : Builtin.Math.fallingProduct n k = fall n k := by
  unfold Builtin.Math.fallingProduct
  induction k with
  | zero => rfl
  | succ k ih =>
    rw [List.range_succ, List.foldl_append, ih]
    rfl
theorem fall_succ (n : Int) (k : Nat) : fall (n + 1) (k + 1) = (n + 1) * fall n k := by
  induction k with
  | zero =>
    show fall (n + 1) 0 * (n + 1 - ((0 : Nat) : Int)) = (n + 1) * fall n 0
    show 1 * (n + 1 - ((0 : Nat) : Int)) = (n + 1) * 1
    omega
  | succ k ih =>
    show fall (n + 1) (k + 1) * (n + 1 - ((k + 1 : Nat) : Int)) = (n + 1) * (fall n k * (n - k))
    rw [ih]
    push_cast
    grind
theorem fall_ch (n : Nat) : ∀ k : Nat, fall n k = (ch n k : Int) * (fac k : Int) := by
  induction n with
  | zero =>
    intro k
    induction k with
    | zero => rfl
    | succ k ih =>
      show fall ((0 : Nat) : Int) k * (((0 : Nat) : Int) - k) = ((0 : Nat) : Int) * _
      match k with
      | 0 => rfl
      | k + 1 =>
        rw [ih]
        show ((0 : Nat) : Int) * _ * _ = _
        grind
  | succ n ih =>
    intro k
    match k with
    | 0 => rfl
    | k + 1 =>
      have e1 := ih k
      have e2 := ih (k + 1)
      have e3 : fall (n : Int) (k + 1) = fall n k * (n - k) := rfl
      have e4 := fall_succ (n : Int) k
      rw [show ((n + 1 : Nat) : Int) = (n : Int) + 1 by omega, e4]
      show _ = ((ch n k + ch n (k + 1) : Nat) : Int) * (((k + 1) * fac k : Nat) : Int)
      rw [e3, e1] at e2
      have e5 : (fac (k + 1) : Int) = ((k : Int) + 1) * (fac k : Int) := by
        show (((k + 1) * fac k : Nat) : Int) = _
        push_cast
        rfl
      rw [e5] at e2
      rw [e1]
      push_cast
      grind
theorem fac_pos (k : Nat) : 0 < fac k := by
  induction k with
  | zero => decide
  | succ k ih => exact Nat.mul_pos (by omega) ih
theorem ch_gt : ∀ (n k : Nat), n < k → ch n k = 0 := by
  intro n
  induction n with
  | zero => intro k h; match k, h with | k + 1, _ => rfl
  | succ n ih =>
    intro k h
    match k, h with
    | k + 1, h =>
      show ch n k + ch n (k + 1) = 0
      rw [ih k (by omega), ih (k + 1) (by omega)]
theorem ch_self : ∀ n : Nat, ch n n = 1 := by
  intro n
  induction n with
  | zero => rfl
  | succ n ih =>
    show ch n n + ch n (n + 1) = 1
    rw [ih, ch_gt n (n + 1) (by omega)]
theorem fall_self (k : Nat) : fall k k = (fac k : Int) := by
  rw [fall_ch, ch_self]
  omega
theorem ch_symm : ∀ (s i j : Nat), i + j = s → ch (i + j) i = ch (i + j) j := by
  intro s
  induction s with
  | zero => intro i j h; have : i = 0 := by omega
            have : j = 0 := by omega
            subst i j; rfl
  | succ s ih =>
    intro i j h
    match i, j, h with
    | 0, j, _ =>
      rw [Nat.zero_add, ch_self]
      unfold ch
      rfl
    | i + 1, 0, _ =>
      rw [Nat.add_zero, ch_self]
      unfold ch
      rfl
    | i + 1, j + 1, h =>
      have h1 := ih i (j + 1) (by omega)
      have h2 := ih (i + 1) j (by omega)
      rw [show i + 1 + (j + 1) = (i + (j + 1)) + 1 by omega]
      show ch (i + (j + 1)) i + ch (i + (j + 1)) (i + 1) = ch (i + (j + 1)) j + ch (i + (j + 1)) (j + 1)
      rw [show i + 1 + j = i + (j + 1) by omega] at h2
      omega
theorem comb_val {n k : Nat} (h : k ≤ n) : fall n (min (k : Int) ((n : Int) - k)).toNat / fall (min (k : Int) ((n : Int) - k)) (min (k : Int) ((n : Int) - k)).toNat = (ch n k : Int) := by
  obtain ⟨m, hm⟩ : ∃ m : Nat, min (k : Int) ((n : Int) - k) = (m : Int) := ⟨min k (n - k), by omega⟩
  rw [hm, Int.toNat_natCast, fall_self, fall_ch, Int.mul_ediv_cancel _ (by have := fac_pos m; omega)]
  by_cases c : m = k
  · rw [c]
  · have e : m = n - k := by omega
    have := ch_symm n k (n - k) (by omega)
    rw [show k + (n - k) = n by omega] at this
    rw [this, e]
theorem ch_le : ∀ n k : Nat, ch n k ≤ 2 ^ n := by
  intro n
  induction n with
  | zero => intro k; match k with | 0 => decide | k + 1 => (show 0 ≤ 1; decide)
  | succ n ih =>
    intro k
    match k with
    | 0 => exact Nat.one_le_two_pow
    | k + 1 =>
      show ch n k + ch n (k + 1) ≤ 2 ^ (n + 1)
      have h1 := ih k
      have h2 := ih (k + 1)
      rw [Nat.pow_succ]
      omega
end RR
namespace RR
open PySem PySem.Spec PyProof.Rows L2
section
variable {X : Cx}
/-- math.comb of two small numbers -/
theorem cr_comb : CallR X (.builtin "math.comb") (fun vs H Q => ∃ n k : Nat, vs = [.int n, .int k] ∧ n ≤ 9000 ∧ Q (.int (ch n k : Int)) H) := by
  intro pins s σ H vs us Q I r h
  obtain ⟨n, k, rfl, hn, q⟩ := h
  obtain ⟨t, u, rfl⟩ := Vals.int2 r
  by_cases hk : k ≤ n
  · have h5 : ¬ min (k : Int) ((n : Int) - k) > 9000 := by omega
    have v := comb_val hk
    rw [← fall_eq, ← fall_eq] at v
    have g := run_comb n k t u (by omega) (by omega) (by omega) (by have : Builtin.Math.maxSsize = 9223372036854775807 := rfl
                                                                    omega) (by have : Builtin.Math.manyFactors = 20000 := rfl
                                                                               omega) h5 (by
      rw [v, Int.natAbs_natCast]
      have h1 := ch_le n k
      have h2 : (ch n k).log2 < 9001 := by
        by_cases h0 : ch n k = 0
        · rw [h0]; decide
        · exact (Nat.log2_lt h0).mpr (Nat.lt_of_le_of_lt h1 (Nat.pow_lt_pow_right (by decide) (by omega)))
      exact Nat.lt_trans h2 (by decide))
    rw [v] at g
    exact call_function_meets kind_comb plain_comb entry_comb (args_comb _ _) g.meets ⟨.int _, H, I.tok _, ⟨_, rfl⟩, q⟩
  · rw [ch_gt n k (by omega)] at q
    have g := run_comb0 n k t u (by omega) (by omega) (by omega)
    exact call_function_meets kind_comb plain_comb entry_comb (args_comb _ _) g.meets ⟨.int _, H, I.tok _, ⟨_, rfl⟩, q⟩
end
end RR

namespace RR
open PySem PySem.Spec PyProof.Rows L2
/-- the pairs of a locked dict whose keys are tuples: each a new tuple of the key's own tuple and the value -/
def ItT (d : Addr) (ob : Obj) (ps : List (List L2.Key × V)) : It where
  go := fun i H => H d = some (.frz ob (.dT ps)) ∧ i < ps.length
  yld := fun i H x H' => ∃ (T q : Addr) (k : List L2.Key) (v : V), ps[i]? = some (k, v) ∧ x = .ref T ∧ H T = none ∧ H q = some (.tup (k.map kV)) ∧ H' = upd H T (.tup [.ref q, v])
  stop := fun i H => H d = some (.frz ob (.dT ps)) ∧ ps.length ≤ i
section
variable {X : Cx} {pins : List (Addr × Obj)} {σ : L2.St} {H : Hp} {s : Shared} {d : Addr} {ob : Obj} {ps : List (List L2.Key × V)}
theorem frz_ent (I : Inv X pins σ H s) (h : H d = some (.frz ob (.dT ps))) : (d == sysModules) = false ∧ ∃ (es : Array DictEntry) (ep : Nat), DT.Raw s.heap d es ep ∧ ob.data = .dict es ep ∧ es.size = ps.length ∧
    ∀ (i : Nat) (k : List L2.Key) (v : V), ps[i]? = some (k, v) → ∃ (q : Addr) (en : DictEntry), es[i]? = some en ∧ en.key = .ref q ∧ RelV v en.val ∧ H q = some (.tup (k.map kV)) := by
  have all := I.hok d _ h
  obtain ⟨here, _, notSys, laid, rel, obj, es, ep, at_, exact_, data, ents, _⟩ := all
  obtain rfl : ob = obj := Option.some.inj (here.symm.trans at_)
  refine ⟨notSys, es, ep, ⟨ob, here, exact_, data⟩, data, ?_, fun i k v hi => ?_⟩
  · have a1 : es.size = laid.length := size_of_entries ents
    have a2 : ps.length = laid.length := Paired.length rel
    omega
  · obtain ⟨z, hz, e1, e2, e3⟩ := L2.paired_get rel hi
    have at2 := entry_at ents i
    rw [hz] at at2
    exact ⟨z.2.1, _, at2, rfl, e3, e2⟩
end
theorem same_data {o : Obj} {es fs : Array DictEntry} {m n : Nat} (h : o.data = .dict es m) (g : o.data = .dict fs n) : fs = es ∧ n = m := by
  have q := h.symm.trans g
  injection q with q1 q2
  exact ⟨q1.symm, q2.symm⟩
theorem turn_itemsT {P : Program} {w : World} {K : PySem.W.Frag} {d it : Addr} {ob : Obj} {es : Array DictEntry} {ep kk : Nat} {ps : List (List L2.Key × V)} {elts : List Expr} {tpos : Pos} (data : ob.data = .dict es ep) :
    Turn P w K (.Tuple elts kk tpos) (ItT d ob ps) [it] it (fun i h => ∃ u v, IsItemIter h it d i es.size ep u v) := by
  refine ⟨by simp, fun i h st b hb => ?_, fun i h h' st k => ?_, ?_, ?_, fun A i s Q E st h => ?_⟩
  · obtain rfl : b = it := by simpa using hb
    obtain ⟨u, v, e⟩ := st
    exact ⟨_, e, fun v z => nomatch z⟩
  · obtain ⟨u, v, e⟩ := st
    exact ⟨u, v, k it (by simp) _ e⟩
  · intro X hP hw hK hc i pins s σ H E I hf st go
    subst hP hw hK
    obtain ⟨lock, lt⟩ := go
    obtain ⟨_, es2, ep2, raw, data2, size, ents⟩ := frz_ent I lock
    obtain ⟨rfl, rfl⟩ := same_data data data2
    have pi : ps[i]? = some (ps[i].1, ps[i].2) := List.getElem?_eq_getElem lt
    obtain ⟨q, en, hen, hkey, hval, hq⟩ := ents i _ _ pi
    obtain ⟨u, v, e⟩ := st
    have there : it < s.heap.objs.size := Heap.lt_size e
    have hi : i < es2.size := by omega
    obtain rfl : es2[i] = en := by
      rw [Array.getElem?_eq_getElem hi] at hen
      exact Option.some.inj hen
    refine DT.nextI e raw hi fun h1 out tup _ keep => ?_
    refine ⟨_, rfl, wpAny_letOwnedTupleGo_items (s := { s with heap := h1 }) out fun h2 back but => ?_⟩
    have tup2 := (but.2 _ (Nat.ne_of_gt there)).trans tup
    have new : ObjOk X.prog X.w (upd H s.heap.objs.size (.tup [.ref q, ps[i].2])) h2 s.heap.objs.size (.tup [.ref q, ps[i].2]) := by
      refine ⟨by show 2 ≤ sizeLine; decide, [es2[i].key, es2[i].val], .cons ?_ (.cons hval .nil), ⟨_, tup2, rfl, _, rfl⟩⟩
      rw [hkey]
      rfl
    have I2 := I.turnedNew (t' := s.toks) (ch := [it]) (h' := h2) (fun b o hb g => (but.2 b (by simpa using hb)).trans (keep b o (by simpa using hb) g)) hf (Nat.le_refl _) new
    refine ⟨.ref s.heap.objs.size, _, I2, rfl, ⟨_, q, ps[i].1, ps[i].2, pi, rfl, I.hok.fresh (Nat.le_refl _), hq, rfl⟩, ⟨_, _, back⟩, fun b hb => ?_⟩
    obtain rfl : b = it := by simpa using hb
    rw [upd_ne (Nat.ne_of_lt there)]
    exact (hf b (by simp)).1
  · intro X hP hw hK hc i pins s σ H E I hf st stop
    subst hP hw hK
    obtain ⟨lock, ge⟩ := stop
    obtain ⟨_, es2, ep2, raw, data2, size, ents⟩ := frz_ent I lock
    obtain ⟨rfl, rfl⟩ := same_data data data2
    obtain ⟨f0, f1, f2, f3, f4, f5⟩ := hf it (by simp)
    obtain ⟨u, v, e⟩ := st
    exact DT.endI (I.ok.hd hc) e raw (by omega) fun h1 ext => ⟨rfl, I.turned (t' := s.toks) (fun b o hb g => ext b o hb g) f0 f1 f3 f4 f5⟩
  · obtain ⟨u, v, e⟩ := st
    exact PySem.W.kcp_self e h
/-- for k, v in d.items(): the dict at d is locked -/
def iItT (td : TE) : TI := fun σ H R => td σ H fun x H1 => ∃ d ob ps, x = .ref d ∧ H1 d = some (.frz ob (.dT ps)) ∧ R (ItT d ob ps) H1
theorem pi_itemsT {X : Cx} {e : Expr} {td : TE} {apos cpos tpos : Pos} {elts : List Expr} {kk : Nat} (he : PE X e td) (hbase : attributeBase e "items" X.env (eval e X.env) = eval e X.env := by rfl) (hline : (apos.endLine == cpos.line) = true := by rfl) :
    PI X (.Tuple elts kk tpos) (.Call (.Attribute e "items" apos) [] [] cpos) (iItT td) := by
  constructor
  intro pins s σ H R I h
  refine wpAny_Call_method (T := "dict") (id := "dict.items") hbase rfl hline F.plainAttrs_dict F.slot_dict_items F.type_dict_items (thn (he.run pins s σ H _ I h) ?_)
  rintro u s1 ⟨x, H1, I1, rx, d, ob, ps, rfl, lock, q⟩
  obtain rfl : u = Value.ref d := rx
  obtain ⟨notSys, es, ep, raw, data, size, _⟩ := frz_ent I1 lock
  obtain ⟨o2, g2, x2, _⟩ := id raw
  refine ⟨raw.typeIs, fun b z => ⟨o2, by cases z; exact g2, x2.2.1⟩, ?_⟩
  have I2 : Inv X pins σ H1 { s1 with heap := s1.heap.push { cls := .type "dict_items", data := .fields #[.ref d] } } := I1.kept (t' := s1.toks) fun b o z => Heap.get?_push_of_some _ z
  have walk : wpAny (model X.prog X.w) X.A (pyIter (.ref s1.heap.objs.size)) (PIE X pins σ (.Tuple elts kk tpos) R) X.xe { s1 with heap := s1.heap.push { cls := .type "dict_items", data := .fields #[.ref d] } } :=
    DT.iterI (d := d) ⟨_, Heap.get?_push_size _ rfl, rfl, rfl⟩ (raw.push _) (pi_one (tk := s1.toks) I2 _ (turn_itemsT data) ⟨.none, .none, Heap.get?_push_size _ rfl⟩ q)
  show wpAny _ _ (callWith cpos (.builtin "dict.items") [.ref d] [] []) _ X.xe s1
  exact method_meetsIn F.slot_dict_items F.entry_dict_items rfl (PySem.evalArgs_none ⟨rfl, raw.typeIs, F.args_dict_items_1 _, _, DT.meetsItems notSys, ⟨raw, walk⟩⟩)
theorem walk_itemsT {d : Addr} {ob : Obj} {ps : List (List L2.Key × V)} : Walk (ItT d ob ps) ps.length (fun H => H d = some (.frz ob (.dT ps)))
    (fun i H x H' => ∃ (T q : Addr) (k : List L2.Key) (v : V), ps[i]? = some (k, v) ∧ x = .ref T ∧ H T = none ∧ H q = some (.tup (k.map kV)) ∧ H' = upd H T (.tup [.ref q, v])) := by
  refine ⟨fun i H lt q => ⟨q, lt⟩, fun H q => ⟨q, Nat.le_refl _⟩, fun i H x H' _ _ y => y⟩
/-- with the lock or without -/
def tLockO (t : TE) : TE := fun σ H Q => t σ H Q ∨ tLockE t σ H Q
def tLockS (t : TS) : TS := fun D σ H => t D σ H ∨ tLock t D σ H
theorem pe_lockO {X : Cx} {e : Expr} {t : TE} (h : PE X e t) : PE X e (tLockO t) := by
  constructor
  rintro pins s σ H Q I (q | q)
  · exact h.run pins s σ H Q I q
  · exact (pe_lock h).run pins s σ H Q I q
theorem ps_lockO {X : Cx} {st : Stmt} {t : TS} (h : PS X st t) : PS X st (tLockS t) := by
  constructor
  rintro pins s σ H D I (q | q)
  · exact h.run pins s σ H D I q
  · exact (ps_lock h).run pins s σ H D I q
end RR

namespace RR
open PySem PySem.Spec PyProof.Rows L2
/-- a store by a comprehension into a dict with tuple keys -/
theorem dictSetT {X : Cx} {pins : List (Addr × Obj)} {σ : L2.St} {H : Hp} {s : Shared} {E : Value → Shared → Prop} {D b : Addr} {ps : List (List L2.Key × V)} {k : List L2.Key} {z : V} {r : Value} {Q : Unit → Shared → Prop} (hu : X.A.units < cLine)
    (I : Inv X pins σ H s) (hD : H D = some (.dT ps)) (hb : H b = some (.tup (k.map kV))) (short : ps.length < sizeLine) (rz : RelV z r) (q : ∀ s', Inv X pins σ (upd H D (.dT (putK ps k z))) s' → Q () s') :
    wpAny (model X.prog X.w) X.A (dictSet D (.ref b) r) Q E s := by
  obtain ⟨len, notSys, laid, rel, dd⟩ := dt_of I.hok hD
  have n1 := Paired.length rel
  refine PySem.wpAny_dictSet_heap (hsz := Nat.le_of_lt (by rw [← n1]; exact short)) hu (key_of I.hok hb) dd fun h2 dd2 but => q _ ?_
  obtain ⟨o2, es, ep, g2, x2, d2, e2, _, nd⟩ := dd2
  have n2 := length_putK ps k z
  refine d_write I (by rw [hD]; trivial) but ⟨o2, g2⟩ ⟨by omega, notSys, _, (rel.put k hb rz).keeps fun c ys hc => ?_, o2, es, ep, g2, x2, d2, e2, nd⟩
  rwa [upd_ne (ne_of hc hD (fun z => nomatch z))]
/-- {k: v for target in iter if ..}, the keys tuples of ints and texts: D the new dict -/
def tDcT (wi : TI) (g : TG) (tt : TT) (tk tv : TE) (vs : List Nat) : TE := fun σ H Q => wi σ H fun J H1 => ∀ D, H1 D = none → ∃ W : Nat → Nat → Hp → Prop, (∃ m, W 0 m (upd H1 D (.dT []))) ∧ ∀ i m H, W i m H →
  (J.stop i H ∧ Q (.ref D) H) ∨ (J.go i H ∧ ∃ Nx : Hp → Prop, (∀ H', Nx H' → ∃ m', m' < m ∧ W (i + 1) m' H') ∧ ∀ x H', J.yld i H x H' → g x (wipe σ vs) H' fun σ2 H2 => wipe σ2 vs = wipe σ vs ∧ tt σ2 H2 fun b H3 =>
    if b = true then tk σ2 H3 fun y H4 => tv σ2 H4 fun z H5 => ∃ ps k b, y = .ref b ∧ H5 b = some (.tup (k.map kV)) ∧ H5 D = some (.dT ps) ∧ ps.length < sizeLine ∧ Nx (upd H5 D (.dT (putK ps k z))) else Nx H3)
variable {X : Cx}
theorem pe_dcT {kx vx tg iter : Expr} {ifs : List Expr} {scope : Scope} {own : List (Str × Nat)} {pos : Pos} {wi : TI} {g : TG} {tt : TT} {tk tv : TE} (hu : X.A.units < cLine) (hc : X.calm = true) (hN : X.N.Nodup) (hi : PI X tg iter wi) (ok : BlkOk X.N X.env.scope scope own)
    (hg : ∀ (s : Shared) (H : Hp) (C : Addr) (cl : List (Str × Addr)) (fp : List Addr), PG (X.blk s H scope (compEnvC scope cl C X.env) fp) tg g)
    (ht : ∀ (s : Shared) (H : Hp) (C : Addr) (cl : List (Str × Addr)) (fp : List Addr), PTs (X.blk s H scope (compEnvC scope cl C X.env) fp) ifs tt)
    (hk : ∀ (s : Shared) (H : Hp) (C : Addr) (cl : List (Str × Addr)) (fp : List Addr), PE (X.blk s H scope (compEnvC scope cl C X.env) fp) kx tk)
    (hv : ∀ (s : Shared) (H : Hp) (C : Addr) (cl : List (Str × Addr)) (fp : List Addr), PE (X.blk s H scope (compEnvC scope cl C X.env) fp) vx tv)
    (hs : ∀ x, foldedSetIterable iter X.env x = pure x := by intro _; rfl) : PE X (.DictComp kx vx [⟨tg, iter, ifs, 0⟩] scope pos) (tDcT wi g tt tk tv (own.map (·.2))) := by
  constructor
  intro pins s0 σ H0 Q I0 reading
  rw [arm_eval_DictComp]
  have cellsThere : ∀ y ∈ scope.names, y.2 = .free → ∃ c, X.env.cells.lookup y.1 = some c := by
    intro y hy e
    rcases ok.free y hy e with k | k
    · exact I0.ok.has _ (.inl k)
    · exact I0.ok.has _ (.inr k)
  refine wpAny_comprehension_free rfl hs (closure_ok cellsThere) ok.kind (fun y hy e => by rw [ok.uniq y hy, e]) (thn (hi.run pins s0 σ H0 _ I0 reading) fun _ s1 walked => thn walked ?_)
  rintro _ s2 ⟨it, fp, tn, J, H2, rfl, I2, T, at0, own2, q⟩
  refine wpAny_newObj_type (newEnv_comp ?_)
  generalize eD : s2.heap.objs.size = D
  have freeD : H2 D = none := I2.hok.fresh (Nat.le_of_eq eD)
  obtain ⟨W, ⟨n0, w0⟩, turn⟩ := q D freeD
  generalize es3 : ({ s2 with heap := s2.heap.push { cls := .type "dict", data := .dict #[] } } : Shared) = s3
  have heap3 : s3.heap = s2.heap.push { cls := .type "dict", data := .dict #[] } := by rw [← es3]
  have grown : ∀ b o, s2.heap.get? b = some o → s3.heap.get? b = some o := fun b o e => by rw [heap3]; exact Heap.get?_push_of_some _ e
  have I3 : Inv X pins σ (upd H2 D (.dT [])) s3 := by
    rw [← es3]
    refine I2.laid (t' := s2.toks) (fun b o e => Heap.get?_push_of_some _ e) (Nat.le_of_eq eD) ?_
    rw [← eD]
    exact dt_empty s2.heap I2.big
  have own3 : ∀ b ∈ fp, FpOk X pins (upd H2 D (.dT [])) b ∧ b < s3.heap.objs.size := by
    intro b hb
    obtain ⟨o, e, _⟩ := T.obj _ _ at0 b hb
    have lt := Heap.lt_size e
    refine ⟨⟨?_, (own2 b hb).2⟩, by rw [heap3, Heap.size_push]; exact Nat.lt_succ_of_lt lt⟩
    rw [upd_ne (by rw [← eD]; exact Nat.ne_of_lt lt)]
    exact (own2 b hb).1
  have at3 := T.keep _ _ _ at0 fun b _ o e => grown b o e
  have I4 := block_start I3 ok hN own3
  have none3 : ∀ b ∈ fp, (upd H2 D (.dT [])) b = none := fun b hb => (own3 b hb).1.1
  generalize eH3 : upd H2 D (.dT []) = H3 at I3 I4 w0 none3 own3
  generalize ece : compEnvC scope (cellsFrom (s3.heap.objs.size + 1) scope.names (cloFrom X.env.cells scope.names [])) s3.heap.objs.size X.env = ce at I4
  have pg : PG (X.blk s3 H3 scope ce fp) tg g := by rw [← ece]; exact hg _ _ _ _ _
  have pt : PTs (X.blk s3 H3 scope ce fp) ifs tt := by rw [← ece]; exact ht _ _ _ _ _
  have pk : PE (X.blk s3 H3 scope ce fp) kx tk := by rw [← ece]; exact hk _ _ _ _ _
  have pv : PE (X.blk s3 H3 scope ce fp) vx tv := by rw [← ece]; exact hv _ _ _ _ _
  have locals : ce.locals = s3.heap.objs.size := by rw [← ece]; rfl
  generalize es4 : ({ s3 with heap := pushCells (s3.heap.push { cls := .type "dict", data := .dict #[] }) scope.names } : Shared) = s4 at I4
  have at4 : tn 0 s4.heap := T.keep _ _ _ at3 fun b _ o e => by rw [← es4]; exact pushCells_keeps _ _ _ _ (Heap.get?_push_of_some _ e)
  have mine : ∀ {σ' : L2.St} {H' : Hp} {s' : Shared}, Inv (X.blk s3 H3 scope ce fp) [] σ' H' s' → (∀ b ∈ fp, H' b = none) → ∀ b ∈ fp, FpOk (X.blk s3 H3 scope ce fp) [] H' b := by
    intro σ' H' s' I' non b hb
    have z := I'.ok.exf b hb
    exact ⟨non b hb, z.1, I'.ok.exfs b hb, .inl hb, fun x c e => z.2 x c e, fun p hp => absurd (show p ∈ ([] : List (Addr × Obj)) ++ [] from hp) (by simp)⟩
  have looped : codeAny (model X.prog X.w) X.A (.compLoop (.DictComp kx vx [⟨tg, iter, ifs, 0⟩] scope pos) 0 (.ref it) (.ref D) ce) (compPost (model X.prog X.w) X.A X.xe none (fun v s' => ∃ x H', Inv X pins σ H' s' ∧ RelV x v ∧ Q x H') (.ref D) s3.heap.objs.size) s4 := by
    refine compLoop_anyD (fun n s' => ∃ i H', Inv (X.blk s3 H3 scope ce fp) [] (wipe σ (own.map (·.2))) H' s' ∧ tn i s'.heap ∧ (∀ b ∈ fp, H' b = none) ∧ W i n H') ?_ n0 ⟨0, H3, I4, at4, none3, w0⟩
    rintro n s5 ⟨i, H5, I5, at5, none5, w5⟩
    rcases turn i n H5 w5 with ⟨stop, fin⟩ | ⟨go, Nx, next, step⟩
    · refine thnF (T.done (X.blk s3 H3 scope ce fp) rfl rfl rfl hc i [] s5 _ H5 (fun _ _ => False) I5 (mine I5 none5) at5 stop) fun r s6 ⟨er, I6⟩ => ?_
      subst er
      have I7 : Inv X pins σ H5 s6 := I3.call' (ch := fp) I6.os I6.base I6.hok I6.bare fun b hb => by
        have z := (own3 b hb).1
        exact ⟨z.2.2.2.1, z.2.1, z.2.2.2.2.1, z.2.2.2.2.2⟩
      have freeC : H5 s3.heap.objs.size = none := by
        rw [← locals]
        exact I6.free
      obtain ⟨m, names, _⟩ := I6.loc
      have names : s6.heap.Ns s3.heap.objs.size m := by
        rw [← locals]
        exact names
      obtain ⟨f0, f1, f2, f3, f4, f5⟩ := I3.fpOk (Nat.le_refl _) freeC
      exact ⟨m, names, fun h2 but => ⟨.ref D, H5, I7.turned (t' := s6.toks) (fun b o hb e => (but.2 b hb).trans e) f0 f1 f3 f4 f5, rfl, fin⟩⟩
    · refine thnF (T.item (X.blk s3 H3 scope ce fp) rfl rfl rfl hc i [] s5 _ H5 (fun _ _ => False) I5 (mine I5 none5) at5 go) fun r s6 ⟨u, er, h6⟩ => ?_
      subst er
      refine thnF h6 fun _ s7 ⟨x, H7, I7, r7, y7, at7, none7⟩ => ?_
      have I7p := I7.pinned (mine I7 none7) (T.obj _ _ at7)
      refine thnF (pg.run _ s7 _ H7 x u _ I7p r7 (step x H7 y7)) fun _ s8 ⟨σ8, H8, I8, wiped, q8⟩ => thnF (pt.run _ s8 σ8 H8 _ I8 q8) fun b s9 ⟨H9, I9, q9⟩ => ?_
      have close : ∀ {s' : Shared} {H' : Hp}, Inv (X.blk s3 H3 scope ce fp) ([] ++ pinsAt fp s7.heap) σ8 H' s' → Nx H' →
          ∃ m, m < n ∧ ∃ i H', Inv (X.blk s3 H3 scope ce fp) [] (wipe σ (own.map (·.2))) H' s' ∧ tn i s'.heap ∧ (∀ b ∈ fp, H' b = none) ∧ W i m H' := by
        intro s' H' I' nx
        obtain ⟨m2, lt, w2⟩ := next H' nx
        have stood : ∀ b ∈ fp, ∀ o, s7.heap.get? b = some o → s'.heap.get? b = some o ∧ H' b = none := fun b hb o e => by
          have z := I'.pin (b, o) (List.mem_append_right _ (List.mem_append_right _ (mem_pinsAt hb e)))
          exact ⟨z.1, z.2.1⟩
        have len : (wipe σ (own.map (·.2))).length = σ8.length := by rw [← wiped, wipe_length]
        refine ⟨m2, lt, i + 1, H', (I'.unpinned (pins := [])).weak len ?_, T.keep _ _ _ at7 fun b hb o e => (stood b hb o e).1, ?_, w2⟩
        · intro j v e
          rw [← wiped] at e
          exact (wipe_some e).1
        · intro b hb
          obtain ⟨o, e, _⟩ := T.obj _ _ at7 b hb
          exact (stood b hb o e).2
      cases b with
      | false =>
        rw [if_neg Bool.false_ne_true] at q9 ⊢
        exact close I9 q9
      | true =>
        rw [if_pos rfl] at q9 ⊢
        refine thnF (pk.run _ s9 σ8 H9 _ I9 q9) fun z s10 ⟨yk, H10, I10, r10, q10⟩ => thnF (pv.run _ s10 σ8 H10 _ I10 q10) ?_
        rintro z2 s11 ⟨yv, H11, I11, r11, ps, k, b, rfl, hb, hD, short, nx⟩
        cases (show z = Value.ref b from r10)
        exact dictSetT (X := X.blk s3 H3 scope ce fp) hu I11 hD hb short r11 fun s12 I12 => close I12 nx
  rw [eD, ← ece] at *
  exact codeAny_compStart_dict looped (T.self X.A 0 _ _ _ at4 looped)
end RR

namespace RR
open PySem PySem.Spec PyProof.Rows L2
/-- stored one after the other -/
def putAll {κ : Type} [DecidableEq κ] (ps more : List (κ × V)) : List (κ × V) := more.foldl (fun acc z => putK acc z.1 z.2) ps
/-- {(..): v, ..}, up to fifteen pairs, the keys tuples -/
def tDispT (trs : List (TE × TE)) : TE := fun σ H Q => ∀ p, H p = none → tPairs trs σ (upd H p (.dT [])) fun vs H2 => H2 p = some (.dT []) ∧ ∃ xs : List (List L2.Key × Addr × V),
  vs = xs.map (fun x => (V.ref x.2.1, x.2.2)) ∧ (∀ x ∈ xs, H2 x.2.1 = some (.tup (x.1.map kV))) ∧ xs.length ≤ 15 ∧ Q (.ref p) (upd H2 p (.dT (putAll [] (xs.map fun x => (x.1, x.2.2)))))
theorem carries_H {P : Program} {w : World} {H : Hp} {h : Heap} (ok : HOk P w H h) : ∀ (xs : List (List L2.Key × Addr × V)) (ws : List (Value × Value)), VV (xs.map fun x => (V.ref x.2.1, x.2.2)) ws → (∀ x ∈ xs, H x.2.1 = some (.tup (x.1.map kV))) →
    ∃ rs : List (List L2.Key × Addr × Value), CarriesH (tupleKind (mixKind P w)) h ws rs ∧ KT H (xs.map fun x => (x.1, x.2.2)) rs
  | [], _, .nil, _ => ⟨[], trivial, .nil⟩
  | x :: xs, (_, r) :: ws, .cons ⟨e, rv⟩ t, hx => by
    obtain ⟨rs, c, k⟩ := carries_H ok xs ws t fun y hy => hx y (List.mem_cons_of_mem _ hy)
    have hb := hx x (List.mem_cons_self ..)
    exact ⟨(x.1, x.2.1, r) :: rs, ⟨e, rfl, key_of ok hb, c⟩, .cons ⟨rfl, hb, rv⟩ k⟩
theorem KT.all {H : Hp} {more : List (List L2.Key × V)} {rs : List (List L2.Key × Addr × Value)} (m : KT H more rs) : ∀ {ps : List (List L2.Key × V)} {xs : List (List L2.Key × Addr × Value)}, KT H ps xs → KT H (putAll ps more) (storedAllH xs rs) := by
  induction m with
  | nil => intro ps xs k; exact k
  | @cons a b as bs r t ih =>
    intro ps xs k
    refine ih (ps := putK ps a.1 a.2) (xs := storedH xs b.1 b.2.1 b.2.2) ?_
    rw [← r.1]
    exact k.put a.1 r.2.1 r.2.2
theorem putAll_len {κ : Type} [DecidableEq κ] : ∀ (more ps : List (κ × V)), (putAll ps more).length ≤ ps.length + more.length
  | [], ps => Nat.le_refl _
  | z :: more, ps => by
    have a := putAll_len more (putK ps z.1 z.2)
    have b := length_putK ps z.1 z.2
    show (putAll (putK ps z.1 z.2) more).length ≤ _
    rw [List.length_cons]
    omega
theorem pe_dispT {X : Cx} {pos : Pos} {keys : List (Option Expr)} {values : List Expr} {trs : List (TE × TE)} (hu : X.A.units < cLine) (h : PPs X pos keys values trs) (hall : keys.all (·.isSome) = true) (hl : keys.length = values.length) (h0 : keys ≠ []) (h15 : keys.length ≤ 15) :
    PE X (.Dict keys values pos) (tDispT trs) := by
  constructor
  intro pins s σ H Q I q
  have free := I.hok.fresh (Nat.le_refl s.heap.objs.size)
  have I1 := I.laid (a := s.heap.objs.size) (o := .dT []) (h' := s.heap.push { cls := .type "dict", data := .dict #[] }) (t' := s.toks) (fun _ _ z => Heap.get?_push_of_some _ z) (Nat.le_refl _) (dt_empty s.heap I.big)
  have n := pairTrees_length keys values X.env pos hall hl
  have some_ : pairTrees keys values X.env pos ≠ [] := fun e => h0 (by rw [e] at n; exact List.length_eq_zero_iff.mp n.symm)
  rw [arm_eval_Dict, zip_pairTrees keys values X.env pos hall hl, dictDisplay_pairs _ some_ (by omega)]
  refine wpAny_bind (wpAny_standAt (wpAny_bind (wpAny_subDictH (knd := tupleKind (mixKind X.prog X.w)) hu (by omega) (thn (h.run pins _ σ _ _ I1 (q _ free)) ?_))))
  rintro ws s2 ⟨vs, H2, I2, rel, hp, xs, rfl, hx, few, q2⟩
  obtain ⟨rs, c, k⟩ := carries_H I2.hok xs ws rel hx
  obtain ⟨_, notSys, xs0, rel0, dd⟩ := dt_of I2.hok hp
  cases rel0
  refine ⟨rs, c, dd, fun h' tk dd' but => wpAny_pure ⟨.ref s.heap.objs.size, _, ?_, rfl, q2⟩⟩
  obtain ⟨o, es, ep, g, x, dt, en, _, nd⟩ := dd'
  have len := putAll_len (xs.map fun x => (x.1, x.2.2)) []
  rw [List.length_map, List.length_nil] at len
  refine d_write I2 (by rw [hp]; trivial) but ⟨o, g⟩ ⟨by rw [sizeLine_eq]; omega, notSys, _, ((KT.all k .nil).keeps fun b ys hb => ?_), o, es, ep, g, x, dt, en, nd⟩
  rwa [upd_ne (ne_of hb hp (fun z => nomatch z))]
end RR

namespace RR
open PySem PySem.Spec PyProof.Rows L2
section
variable {prog : Program} {w : World} {A : Around} {E : Value → Shared → Prop} {s : Shared}
/-- the iterator over the pairs of d, at the i-th; z the tuple that is out, if one is -/
def PairIt (h : Heap) (it d : Addr) (i n ep : Nat) (z : Value) (f : Bool) (u v : Value) : Prop :=
  h.get? it = some { cls := .type "dict_itemiterator", dict := none, data := .fields #[z, .bool f, .ref d, .int i 0, .int n 0, .int ep 0, u, v], slots := #[] }
/-- no tuple is out, or one at another address -/
def Owner (it : Addr) (z : Value) (f : Bool) : Prop := (z = .none ∧ f = false) ∨ ∃ a : Addr, z = rawInt a ∧ a ≠ it
theorem ref_not_none (d : Addr) : ¬ ((Value.ref d == Value.none) = true) := Bool.false_ne_true
theorem alive_any {a : Addr} {Q : Option Obj → Shared → Prop} (q : Q (s.heap.get? a) s) : wpAny (model prog w) A (loadIfAlive a) Q E s := fun _ _ _ => q
open PySem.W PySem.Calls PyProof.V in
theorem owner_free {it d : Addr} {i n ep : Nat} {z u v : Value} {f : Bool} {R : Bool → Shared → Prop} (e : PairIt s.heap it d i n ep z f u v) (hz : Owner it z f) (yes : R true s)
    (no : ∀ h', PairIt h' it d i n ep z true u v → Owner it z true → Heap.SameBut it s.heap h' → R false { s with heap := h' }) : wpAny (model prog w) A (Builtin.Dict_items.ownedTupleIsFree (.ref it)) R E s := by
  unfold Builtin.Dict_items.ownedTupleIsFree
  refine wpAny_bind (wpAny_field e rfl (x := z) rfl ?_)
  rcases hz with ⟨rfl, _⟩ | ⟨a, rfl, ne⟩
  · exact wpAny_pure yes
  · refine wpAny_bind (alive_any ?_)
    cases s.heap.get? (a : Int).toNat with
    | none => exact wpAny_pure yes
    | some o =>
      simp only [Option.isNone_some, Bool.false_eq_true, if_false]
      refine wpAny_bind (wpAny_field e rfl (x := .bool f) rfl ?_)
      cases f with
      | true =>
        rw [if_neg (show ¬ (Value.bool true != .bool true) = true from Bool.false_ne_true)]
        exact wpAny_pure (no s.heap e (.inr ⟨a, rfl, ne⟩) (Heap.SameBut.refl _ _))
      | false =>
        rw [if_pos (show (Value.bool false != .bool true) = true from rfl)]
        exact wpAny_bind (wpAny_setField_rec e (by simp) fun h3 e3 b3 => wpAny_pure (no h3 e3 (.inr ⟨a, rfl, ne⟩) b3))
open PySem.W PySem.Calls PyProof.V in
theorem nextAny {it d : Addr} {i ep : Nat} {es : Array DictEntry} {z u v : Value} {f : Bool} {Q : Option Value → Shared → Prop} (at_ : PairIt s.heap it d i es.size ep z f u v) (hz : Owner it z f) (raw : DT.Raw s.heap d es ep) (lt : i < es.size)
    (q : ∀ h' z' f' u' v', PairIt h' it d (i + 1) es.size ep z' f' u' v' → Owner it z' f' → h'.get? s.heap.objs.size = some { cls := .type "tuple", data := .seq #[es[i].key, es[i].val] } →
      (∀ b o, b ≠ it → s.heap.get? b = some o → h'.get? b = some o) → Q (some (.ref s.heap.objs.size)) { s with heap := h' }) : wpAny (model prog w) A (pyNext (.ref it)) Q E s := by
  obtain ⟨hp, gens, drawn, toks, os⟩ := s
  obtain ⟨obj, atObj, exa, dat⟩ := id raw
  have ty0 : Shared.TypeIs ⟨hp, gens, drawn, toks, os⟩ (.ref it) "dict_itemiterator" := ⟨_, at_, rfl⟩
  have less : it < hp.objs.size := Heap.lt_size at_
  have owns : Builtin.Dict_items.ownsTuple "dict_itemiterator" = true := by decide
  unfold pyNext
  refine wpAny_bind (wpAny_attempt (wpAny_callSpecial?_slot (name := Str.ofString "__next__") ty0 PySem.F.slot_dict_itemiterator_next (wpAny_call_entry PySem.F.slot_dict_itemiterator_next ty0 PySem.F.entry_dict_itemiterator_next ?_ (PySem.F.args_dict_itemiterator_next_1 _))))
  refine wpAny_bind (wpAny_pure (wpAny_bind (wpAny_bind ?_)))
  first | refine wpAny_bind (wpAny_typeNameOfWhole_itemiter ty0 (wpAny_pure ?_)) | refine wpAny_bind (wpAny_typeNameOf_itemiter ty0 (wpAny_pure ?_))
  refine wpAny_bind (wpAny_fieldsOf at_ rfl ?_)
  simp only [owns, if_true]
  show wpAny _ _ (if (Value.ref d == Value.none) = true then _ else _) _ _ _
  rw [if_neg (ref_not_none d)]
  refine wpAny_bind (wpAny_pure (wpAny_bind (wpAny_dictEntries atObj dat ?_)))
  rw [if_neg (by simp)]
  refine wpAny_bind (wpAny_pure (wpAny_bind (wpAny_dictEpoch atObj dat ?_)))
  rw [if_neg (by simp)]
  refine wpAny_pure ?_
  simp only [show ¬ ((i : Int) < 0) by omega, if_false, Int.toNat_natCast, Array.getElem?_eq_getElem lt]
  refine wpAny_bind ?_
  first | refine wpAny_bind (wpAny_typeNameOfWhole_itemiter ty0 (wpAny_pure ?_)) | refine wpAny_bind (wpAny_typeNameOf_itemiter ty0 (wpAny_pure ?_))
  refine wpAny_bind (wpAny_isOneOf_itemiter ty0 ?_)
  show wpAny _ _ (setField (.ref it) 3 (rawInt ((i : Int) + 1)) >>= _) _ _ _
  refine wpAny_bind (wpAny_setField_rec at_ (by simp) fun ha ea (ba : Heap.SameBut it hp ha) => ?_)
  have ea : PairIt ha it d (i + 1) es.size ep z f u v := by
    unfold PairIt
    rw [show ((i + 1 : Nat) : Int) = (i : Int) + 1 from rfl]
    simpa [rawInt] using ea
  have tya : Shared.TypeIs ⟨ha, gens, drawn, toks, os⟩ (.ref it) "dict_itemiterator" := ⟨_, ea, rfl⟩
  refine wpAny_bind (wpAny_holding (wpAny_bind (wpAny_isOneOf_itemiter tya (wpAny_bind (wpAny_isOneOf_itemiter tya ?_)))))
  show wpAny _ _ (Builtin.Dict_items.pairFromOwner (.ref it) 6 es[i].key es[i].val) _ _ _
  unfold Builtin.Dict_items.pairFromOwner
  refine wpAny_bind (wpAny_newTuple ?_)
  have eb : PairIt (ha.push { cls := .type "tuple", data := .seq #[es[i].key, es[i].val] }) it d (i + 1) es.size ep z f u v := Heap.get?_push_of_some _ ea
  generalize hpush : ha.push { cls := .type "tuple", data := .seq #[es[i].key, es[i].val] } = hb at eb
  have sizea : ha.objs.size = hp.objs.size := ba.1
  have tup : hb.get? hp.objs.size = some { cls := .type "tuple", data := .seq #[es[i].key, es[i].val] } := by rw [← hpush, ← sizea]; exact Heap.get?_push_size _ rfl
  have kept : ∀ b o, b ≠ it → hp.get? b = some o → hb.get? b = some o := fun b o ne g => by rw [← hpush]; exact Heap.get?_push_of_some _ (ba.extBut b o ne g)
  show wpAny _ _ (Builtin.Dict_items.ownedTupleIsFree (.ref it) >>= _) _ _ ⟨hb, gens, drawn, toks, os⟩
  rw [sizea]
  clear hpush ea ba tya sizea
  have tne : hp.objs.size ≠ it := Nat.ne_of_gt less
  have ended : ∀ h3 z' f' u' v', PairIt h3 it d (i + 1) es.size ep z' f' u' v' → Owner it z' f' → Heap.SameBut it hb h3 → Q (some (.ref hp.objs.size)) ⟨h3, gens, drawn, toks, os⟩ :=
    fun h3 z' f' u' v' e hz' but => q h3 z' f' u' v' e hz' (but.extBut _ _ tne tup) fun b o ne g => but.extBut b o ne (kept b o ne g)
  refine wpAny_bind (owner_free eb hz ?_ fun h3 e3 o3 b3 => ?_)
  · simp only [if_true]
    refine wpAny_bind (wpAny_field eb rfl (x := u) rfl (wpAny_bind (wpAny_field eb rfl (x := v) rfl ?_)))
    refine wpAny_bind (wpAny_setField_rec eb (by simp) fun h3 e3 b3 => wpAny_bind (wpAny_setField_rec e3 (by simp) fun h4 e4 b4 => wpAny_bind (wpAny_setField_rec e4 (by simp) fun h5 e5 b5 => wpAny_bind (wpAny_setField_rec e5 (by simp) fun h6 e6 b6 => ?_))))
    have but : Heap.SameBut it hb h6 := ((Heap.SameBut.trans (show Heap.SameBut it hb h3 from b3) b4).trans b5).trans b6
    exact wpAny_bind (wpAny_letGo (wpAny_pure (wpAny_pure ⟨_, rfl, wpAny_pure (ended h6 (rawInt hp.objs.size) false es[i].key es[i].val e6 (.inr ⟨_, rfl, tne⟩) but)⟩)))
  · simp only [Bool.false_eq_true, if_false]
    exact wpAny_pure (wpAny_pure ⟨_, rfl, wpAny_pure (ended h3 z true u v e3 o3 b3)⟩)
open PySem.W PySem.Calls PyProof.V in
theorem endAny {it d : Addr} {i ep : Nat} {es : Array DictEntry} {z u v : Value} {f : Bool} {Q : Option Value → Shared → Prop} (hh : A.handled = none) (at_ : PairIt s.heap it d i es.size ep z f u v) (hz : Owner it z f)
    (raw : DT.Raw s.heap d es ep) (ge : es.size ≤ i) (q : ∀ h', Heap.ExtBut it s.heap h' → Q none { s with heap := h' }) : wpAny (model prog w) A (pyNext (.ref it)) Q E s := by
  rcases hz with ⟨rfl, rfl⟩ | ⟨a, rfl, _⟩
  · exact DT.endI hh at_ raw ge q
  · exact DT.endO hh at_ raw ge q
end
/-- the pairs taken whole: for t in d.items(), t a name -/
theorem turn_pairsT {P : Program} {w : World} {K : PySem.W.Frag} {d it : Addr} {ob : Obj} {es : Array DictEntry} {ep : Nat} {ps : List (List L2.Key × V)} {nm : Str} {tpos : Pos} (data : ob.data = .dict es ep) :
    Turn P w K (.Name nm tpos) (ItT d ob ps) [it] it (fun i h => ∃ z f u v, PairIt h it d i es.size ep z f u v ∧ Owner it z f) := by
  refine ⟨by simp, fun i h st b hb => ?_, fun i h h' st k => ?_, ?_, ?_, fun A i s Q E st h => ?_⟩
  · obtain rfl : b = it := by simpa using hb
    obtain ⟨z, f, u, v, e, _⟩ := st
    exact ⟨_, e, fun v z => nomatch z⟩
  · obtain ⟨z, f, u, v, e, o⟩ := st
    exact ⟨z, f, u, v, k it (by simp) _ e, o⟩
  · intro X hP hw hK hc i pins s σ H E I hf st go
    subst hP hw hK
    obtain ⟨lock, lt⟩ := go
    obtain ⟨_, es2, ep2, raw, data2, size, ents⟩ := frz_ent I lock
    obtain ⟨rfl, rfl⟩ := same_data data data2
    have pi : ps[i]? = some (ps[i].1, ps[i].2) := List.getElem?_eq_getElem lt
    obtain ⟨q, en, hen, hkey, hval, hq⟩ := ents i _ _ pi
    obtain ⟨z, f, u, v, e, ow⟩ := st
    have there : it < s.heap.objs.size := Heap.lt_size e
    have hi : i < es2.size := by omega
    obtain rfl : es2[i] = en := by
      rw [Array.getElem?_eq_getElem hi] at hen
      exact Option.some.inj hen
    refine nextAny e ow raw hi fun h1 z1 f1 u1 v1 e1 ow1 tup keep => ⟨_, rfl, wpAny_pure ?_⟩
    have new : ObjOk X.prog X.w (upd H s.heap.objs.size (.tup [.ref q, ps[i].2])) h1 s.heap.objs.size (.tup [.ref q, ps[i].2]) := by
      refine ⟨by show 2 ≤ sizeLine; decide, [es2[i].key, es2[i].val], .cons ?_ (.cons hval .nil), ⟨_, tup, rfl, _, rfl⟩⟩
      rw [hkey]
      rfl
    have I2 := I.turnedNew (t' := s.toks) (ch := [it]) (h' := h1) (fun b o hb g => keep b o (by simpa using hb) g) hf (Nat.le_refl _) new
    refine ⟨.ref s.heap.objs.size, _, I2, rfl, ⟨_, q, ps[i].1, ps[i].2, pi, rfl, I.hok.fresh (Nat.le_refl _), hq, rfl⟩, ⟨_, _, _, _, e1, ow1⟩, fun b hb => ?_⟩
    obtain rfl : b = it := by simpa using hb
    rw [upd_ne (Nat.ne_of_lt there)]
    exact (hf b (by simp)).1
  · intro X hP hw hK hc i pins s σ H E I hf st stop
    subst hP hw hK
    obtain ⟨lock, ge⟩ := stop
    obtain ⟨_, es2, ep2, raw, data2, size, ents⟩ := frz_ent I lock
    obtain ⟨rfl, rfl⟩ := same_data data data2
    obtain ⟨f0, f1, f2, f3, f4, f5⟩ := hf it (by simp)
    obtain ⟨z, f, u, v, e, ow⟩ := st
    exact endAny (I.ok.hd hc) e ow raw (by omega) fun h1 ext => ⟨rfl, I.turned (t' := s.toks) (fun b o hb g => ext b o hb g) f0 f1 f3 f4 f5⟩
  · obtain ⟨z, f, u, v, e, _⟩ := st
    have ty : s.TypeIs (.ref it) "dict_itemiterator" := ⟨_, e, rfl⟩
    refine wpAny_pyIter_slot ty F.slot_dict_itemiterator_iter (wpAny_call_entry F.slot_dict_itemiterator_iter ty PySem.W.kcp_entry ?_ (F.args_dict_itemiterator_iter_1 _))
    show wpAny _ _ (ret (.ref it)) _ _ s
    exact wpAny_pure ⟨_, rfl, "dict_itemiterator", _, ty, F.slot_dict_itemiterator_next.lookup, h⟩
theorem pi_pairsT {X : Cx} {e : Expr} {td : TE} {apos cpos tpos : Pos} {nm : Str} (he : PE X e td) (hbase : attributeBase e "items" X.env (eval e X.env) = eval e X.env := by rfl) (hline : (apos.endLine == cpos.line) = true := by rfl) :
    PI X (.Name nm tpos) (.Call (.Attribute e "items" apos) [] [] cpos) (iItT td) := by
  constructor
  intro pins s σ H R I h
  refine wpAny_Call_method (T := "dict") (id := "dict.items") hbase rfl hline F.plainAttrs_dict F.slot_dict_items F.type_dict_items (thn (he.run pins s σ H _ I h) ?_)
  rintro u s1 ⟨x, H1, I1, rx, d, ob, ps, rfl, lock, q⟩
  obtain rfl : u = Value.ref d := rx
  obtain ⟨notSys, es, ep, raw, data, size, _⟩ := frz_ent I1 lock
  obtain ⟨o2, g2, x2, _⟩ := id raw
  refine ⟨raw.typeIs, fun b z => ⟨o2, by cases z; exact g2, x2.2.1⟩, ?_⟩
  have I2 : Inv X pins σ H1 { s1 with heap := s1.heap.push { cls := .type "dict_items", data := .fields #[.ref d] } } := I1.kept (t' := s1.toks) fun b o z => Heap.get?_push_of_some _ z
  have walk : wpAny (model X.prog X.w) X.A (pyIter (.ref s1.heap.objs.size)) (PIE X pins σ (.Name nm tpos) R) X.xe { s1 with heap := s1.heap.push { cls := .type "dict_items", data := .fields #[.ref d] } } :=
    DT.iterI (d := d) ⟨_, Heap.get?_push_size _ rfl, rfl, rfl⟩ (raw.push _) (pi_one (tk := s1.toks) I2 _ (turn_pairsT data) ⟨.none, false, .none, .none, Heap.get?_push_size _ rfl, .inl ⟨rfl, rfl⟩⟩ q)
  show wpAny _ _ (callWith cpos (.builtin "dict.items") [.ref d] [] []) _ X.xe s1
  exact method_meetsIn F.slot_dict_items F.entry_dict_items rfl (PySem.evalArgs_none ⟨rfl, raw.typeIs, F.args_dict_items_1 _, _, DT.meetsItems notSys, ⟨raw, walk⟩⟩)
end RR

namespace RR
open PySem PySem.Spec PyProof.Rows L2
/-! several dicts locked at once -/
def lkN (t : TE) : Nat → TE
  | 0 => t
  | n + 1 => tLockE (lkN t n)
def tLk (t : TE) : TE := fun σ H Q => ∃ n, lkN t n σ H Q
def lkSN (t : TS) : Nat → TS
  | 0 => t
  | n + 1 => tLock (lkSN t n)
def tLkS (t : TS) : TS := fun D σ H => ∃ n, lkSN t n D σ H
theorem pe_lkN {X : Cx} {e : Expr} {t : TE} (h : PE X e t) : ∀ n, PE X e (lkN t n)
  | 0 => h
  | n + 1 => pe_lock (pe_lkN h n)
theorem pe_lk {X : Cx} {e : Expr} {t : TE} (h : PE X e t) : PE X e (tLk t) := ⟨fun pins s σ H Q I ⟨n, q⟩ => (pe_lkN h n).run pins s σ H Q I q⟩
theorem ps_lkN {X : Cx} {st : Stmt} {t : TS} (h : PS X st t) : ∀ n, PS X st (lkSN t n)
  | 0 => h
  | n + 1 => ps_lock (ps_lkN h n)
theorem ps_lk {X : Cx} {st : Stmt} {t : TS} (h : PS X st t) : PS X st (tLkS t) := ⟨fun pins s σ H D I ⟨n, q⟩ => (ps_lkN h n).run pins s σ H D I q⟩
/-- without its repetitions -/
def once : List Addr → List Addr
  | [] => []
  | d :: r => if d ∈ r then once r else d :: once r
theorem once_mem (b : Addr) : ∀ ds : List Addr, b ∈ once ds ↔ b ∈ ds
  | [] => Iff.rfl
  | d :: r => by
    unfold once
    split
    · rename_i h
      rw [once_mem b r, List.mem_cons]
      constructor
      · exact .inr
      · rintro (rfl | h2)
        · exact h
        · exact h2
    · rw [List.mem_cons, List.mem_cons, once_mem b r]
theorem once_nodup : ∀ ds : List Addr, (once ds).Nodup
  | [] => List.nodup_nil
  | d :: r => by
    unfold once
    split
    · exact once_nodup r
    · rename_i h
      exact List.nodup_cons.mpr ⟨fun z => h ((once_mem d r).mp z), once_nodup r⟩
/-- what stood at ds stands there again -/
def back (ds : List Addr) (H H' : Hp) : Hp := fun b => if b ∈ ds then H b else H' b
/-- at ds stand the same things, locked -/
structure Lkd (ds : List Addr) (H Hl : Hp) : Prop where
  at_ : ∀ d ∈ ds, ∀ u, H d = some u → ∃ ob, Hl d = some (.frz ob u)
  off : ∀ b, b ∉ ds → Hl b = H b
theorem lk_step {d : Addr} {r : List Addr} {H Hl H' : Hp} {od : Obj} {u : HO} (nd : d ∉ r) (hd : H d = some u) (L : Lkd r (upd H d (.frz od u)) Hl) (P : Hp → Prop) :
    ((∀ b ∈ r, H' b = Hl b) ∧ (back r (upd H d (.frz od u)) H') d = some (.frz od u) ∧ P (upd (back r (upd H d (.frz od u)) H') d u)) = ((∀ b ∈ d :: r, H' b = Hl b) ∧ P (back (d :: r) H H')) := by
  have e1 : Hl d = some (.frz od u) := by rw [L.off d nd, upd_same]
  have e2 : (back r (upd H d (.frz od u)) H') d = H' d := if_neg nd
  have e3 : upd (back r (upd H d (.frz od u)) H') d u = back (d :: r) H H' := by
    funext b
    by_cases hb : b = d
    · subst hb
      rw [upd_same]
      exact (show back (b :: r) H H' b = H b from if_pos (List.mem_cons_self ..)).trans hd |>.symm
    · rw [upd_ne hb]
      unfold back
      by_cases hr : b ∈ r
      · rw [if_pos hr, if_pos (List.mem_cons_of_mem _ hr), upd_ne hb]
      · rw [if_neg hr, if_neg (by rw [List.mem_cons]; rintro (z | z) <;> contradiction)]
  rw [e2, e3]
  refine propext ⟨fun ⟨a, b, c⟩ => ⟨fun x hx => ?_, c⟩, fun ⟨a, c⟩ => ⟨fun x hx => a x (List.mem_cons_of_mem _ hx), (a d (List.mem_cons_self ..)).trans e1, c⟩⟩
  rcases List.mem_cons.mp hx with rfl | hx
  · rw [b, e1]
  · exact a x hx
theorem lkd_step {d : Addr} {r : List Addr} {H Hl : Hp} {od : Obj} {u : HO} (nd : d ∉ r) (hd : H d = some u) (L : Lkd r (upd H d (.frz od u)) Hl) : Lkd (d :: r) H Hl := by
  refine ⟨fun x hx v hv => ?_, fun b hb => ?_⟩
  · rcases List.mem_cons.mp hx with rfl | hx
    · rw [hd] at hv
      cases hv
      exact ⟨od, by rw [L.off x nd, upd_same]⟩
    · have ne : x ≠ d := fun z => nd (z ▸ hx)
      exact L.at_ x hx v (by rw [upd_ne ne]; exact hv)
  · rw [List.mem_cons] at hb
    rw [L.off b (fun z => hb (.inr z)), upd_ne (fun z => hb (.inl z))]
theorem lk_nodup {t : TE} {σ : L2.St} : ∀ (ds : List Addr) (H : Hp) (Q : VK), ds.Nodup → (∀ d ∈ ds, ∃ u, H d = some u ∧ Mut (some u)) → (∀ Hl, Lkd ds H Hl → t σ Hl fun v H' => (∀ d ∈ ds, H' d = Hl d) ∧ Q v (back ds H H')) → lkN t ds.length σ H Q
  | [], H, Q, _, _, h => by
    have := h H ⟨fun _ hd => (List.not_mem_nil hd).elim, fun _ _ => rfl⟩
    have e : (fun (v : V) (H' : Hp) => (∀ d ∈ ([] : List Addr), H' d = H d) ∧ Q v (back [] H H')) = Q := by
      funext v H'
      have e2 : back [] H H' = H' := funext fun b => if_neg List.not_mem_nil
      rw [e2]
      exact propext ⟨fun z => z.2, fun z => ⟨fun d hd => (List.not_mem_nil hd).elim, z⟩⟩
    rw [e] at this
    exact this
  | d :: r, H, Q, nd, hd, h => by
    obtain ⟨n1, n2⟩ := List.nodup_cons.mp nd
    obtain ⟨u, e, mu⟩ := hd d (List.mem_cons_self ..)
    refine ⟨d, _, e, mu, fun od => ?_⟩
    refine lk_nodup r _ _ n2 (fun x hx => ?_) fun Hl L => ?_
    · obtain ⟨qs, e2, mu2⟩ := hd x (List.mem_cons_of_mem _ hx)
      exact ⟨qs, by rw [upd_ne (show x ≠ d from fun z => n1 (by rw [← z]; exact hx))]; exact e2, mu2⟩
    · have := h Hl (lkd_step n1 e L)
      have e2 : (fun (v : V) (H' : Hp) => (∀ b ∈ d :: r, H' b = Hl b) ∧ Q v (back (d :: r) H H')) = fun v H' => (∀ b ∈ r, H' b = Hl b) ∧ (back r (upd H d (.frz od u)) H') d = some (.frz od u) ∧ Q v (upd (back r (upd H d (.frz od u)) H') d u) :=
        funext fun v => funext fun H' => (lk_step n1 e L (Q v)).symm
      rw [e2] at this
      exact this
theorem once_lkd {ds : List Addr} {H Hl : Hp} (L : Lkd (once ds) H Hl) : Lkd ds H Hl := ⟨fun d hd => L.at_ d ((once_mem d ds).mpr hd), fun b hb => L.off b fun z => hb ((once_mem b ds).mp z)⟩
theorem once_back (ds : List Addr) (H H' : Hp) : back (once ds) H H' = back ds H H' := by
  funext b
  unfold back
  by_cases hb : b ∈ ds
  · rw [if_pos hb, if_pos ((once_mem b ds).mpr hb)]
  · rw [if_neg hb, if_neg fun z => hb ((once_mem b ds).mp z)]
/-- the dicts at ds are locked while the expression goes -/
theorem lk_all {t : TE} {σ : L2.St} {H : Hp} {Q : VK} (ds : List Addr) (hd : ∀ d ∈ ds, ∃ u, H d = some u ∧ Mut (some u)) (h : ∀ Hl, Lkd ds H Hl → t σ Hl fun v H' => (∀ d ∈ ds, H' d = Hl d) ∧ Q v (back ds H H')) : tLk t σ H Q := by
  refine ⟨_, lk_nodup (once ds) H Q (once_nodup ds) (fun d hx => hd d ((once_mem d ds).mp hx)) fun Hl L => ?_⟩
  have := h Hl (once_lkd L)
  have e : (fun (v : V) (H' : Hp) => (∀ d ∈ ds, H' d = Hl d) ∧ Q v (back ds H H')) = fun v H' => (∀ d ∈ once ds, H' d = Hl d) ∧ Q v (back (once ds) H H') := by
    funext v H'
    rw [once_back]
    exact propext ⟨fun z => ⟨fun d hd => z.1 d ((once_mem d ds).mp hd), z.2⟩, fun z => ⟨fun d hd => z.1 d ((once_mem d ds).mpr hd), z.2⟩⟩
  rw [e] at this
  exact this
def lkEnds (ds : List Addr) (H Hl : Hp) (D : Ends) : Ends :=
  ⟨fun σ' H' => (∀ d ∈ ds, H' d = Hl d) ∧ D.nx σ' (back ds H H'), fun v H' => (∀ d ∈ ds, H' d = Hl d) ∧ D.rt v (back ds H H'), fun σ' H' => (∀ d ∈ ds, H' d = Hl d) ∧ D.bk σ' (back ds H H'), fun σ' H' => (∀ d ∈ ds, H' d = Hl d) ∧ D.ct σ' (back ds H H')⟩
theorem lkS_nodup {t : TS} {σ : L2.St} : ∀ (ds : List Addr) (H : Hp) (D : Ends), ds.Nodup → (∀ d ∈ ds, ∃ u, H d = some u ∧ Mut (some u)) → (∀ Hl, Lkd ds H Hl → t (lkEnds ds H Hl D) σ Hl) → lkSN t ds.length D σ H
  | [], H, D, _, _, h => by
    have := h H ⟨fun _ hd => (List.not_mem_nil hd).elim, fun _ _ => rfl⟩
    have e : lkEnds [] H H D = D := by
      have e2 : ∀ H', back [] H H' = H' := fun H' => funext fun b => if_neg List.not_mem_nil
      have e3 : ∀ (p : Prop) (H' : Hp), ((∀ d ∈ ([] : List Addr), H' d = H d) ∧ p) = p := fun p H' => propext ⟨fun z => z.2, fun z => ⟨fun d hd => (List.not_mem_nil hd).elim, z⟩⟩
      unfold lkEnds
      simp only [e2, e3]
    rw [e] at this
    exact this
  | d :: r, H, D, nd, hd, h => by
    obtain ⟨n1, n2⟩ := List.nodup_cons.mp nd
    obtain ⟨u, e, mu⟩ := hd d (List.mem_cons_self ..)
    refine ⟨d, _, e, mu, fun od => ?_⟩
    refine lkS_nodup r _ _ n2 (fun x hx => ?_) fun Hl L => ?_
    · obtain ⟨qs, e2, mu2⟩ := hd x (List.mem_cons_of_mem _ hx)
      exact ⟨qs, by rw [upd_ne (show x ≠ d from fun z => n1 (by rw [← z]; exact hx))]; exact e2, mu2⟩
    · have := h Hl (lkd_step n1 e L)
      unfold lkEnds at this ⊢
      simp only [lk_step n1 e L]
      exact this
theorem lkS_all {t : TS} {σ : L2.St} {H : Hp} {D : Ends} (ds : List Addr) (hd : ∀ d ∈ ds, ∃ u, H d = some u ∧ Mut (some u)) (h : ∀ Hl, Lkd ds H Hl → t (lkEnds ds H Hl D) σ Hl) : tLkS t D σ H := by
  refine ⟨_, lkS_nodup (once ds) H D (once_nodup ds) (fun d hx => hd d ((once_mem d ds).mp hx)) fun Hl L => ?_⟩
  have := h Hl (once_lkd L)
  have e : lkEnds ds H Hl D = lkEnds (once ds) H Hl D := by
    have e1 : ∀ H' : Hp, (∀ d ∈ ds, H' d = Hl d) = (∀ d ∈ once ds, H' d = Hl d) := fun H' => propext ⟨fun z d hd => z d ((once_mem d ds).mp hd), fun z d hd => z d ((once_mem d ds).mpr hd)⟩
    unfold lkEnds
    simp only [once_back, e1]
  rw [e] at this
  exact this
/-- what was there before stands behind the lock as it stood -/
theorem back_same {ds : List Addr} {H Hl H' : Hp} (L : Lkd ds H Hl) (s : Same Hl H') : Same H (back ds H H') := by
  intro b o e
  unfold back
  split
  · exact e
  · rename_i h
    exact s b o ((L.off b h).trans e)
theorem Lkd.kept {ds : List Addr} {H Hl H1 : Hp} (L : Lkd ds H Hl) (hd : ∀ d ∈ ds, ∃ u, H d = some u ∧ Mut (some u)) (s : Same Hl H1) : ∀ d ∈ ds, H1 d = Hl d := by
  intro d h
  obtain ⟨u, e, _⟩ := hd d h
  obtain ⟨ob, l⟩ := L.at_ d h u e
  rw [l, s _ _ l]
theorem Lkd.fresh {ds : List Addr} {H Hl : Hp} (L : Lkd ds H Hl) (hd : ∀ d ∈ ds, ∃ u, H d = some u ∧ Mut (some u)) {D : Addr} (n : Hl D = none) : H D = none ∧ D ∉ ds := by
  have a : D ∉ ds := fun h => by
    obtain ⟨u, e, _⟩ := hd D h
    obtain ⟨ob, l⟩ := L.at_ D h u e
    rw [l] at n
    cases n
  exact ⟨(L.off D a).symm.trans n, a⟩
theorem back_off {ds : List Addr} {H H1 : Hp} {D : Addr} (h : D ∉ ds) : back ds H H1 D = H1 D := if_neg h
/-- what was tracked ahead of the lock, of another kind than what is locked, stands within -/
theorem Lkd.there {ds : List Addr} {H Hl : Hp} (L : Lkd ds H Hl) {b : Addr} {o : HO} (e : H b = some o) (h : b ∉ ds) : Hl b = some o := (L.off b h).trans e
theorem mut_one {H : Hp} {a : Addr} {u : HO} (e : H a = some u) (m : Mut (some u)) : ∀ d ∈ [a], ∃ u, H d = some u ∧ Mut (some u) := by
  intro d h
  rw [List.mem_singleton] at h
  subst h
  exact ⟨u, e, m⟩
theorem mut_two {H : Hp} {a b : Addr} {u v : HO} (e : H a = some u) (m : Mut (some u)) (e2 : H b = some v) (m2 : Mut (some v)) : ∀ d ∈ [a, b], ∃ u, H d = some u ∧ Mut (some u) := by
  intro d h
  rcases List.mem_cons.mp h with rfl | h
  · exact ⟨u, e, m⟩
  · rw [List.mem_singleton] at h
    subst h
    exact ⟨v, e2, m2⟩
theorem back_new {ds : List Addr} {H Hl H' : Hp} (L : Lkd ds H Hl) {b : Addr} {o : HO} (hn : H b = none) (hd : ∀ d ∈ ds, H d ≠ none) (e : H' b = some o) : back ds H H' b = some o := by
  unfold back
  rw [if_neg fun z => hd b z hn]
  exact e
end RR

namespace RR
open PySem PySem.Spec PyProof.Rows L2
/-! texts in their order -/
def leS (a b : Str) : Bool := decide (a.cps.toList ≤ b.cps.toList)
theorem leS_iff {a b : Str} : leS a b = true ↔ a.cps.toList ≤ b.cps.toList := decide_eq_true_iff
theorem leS_trans (a b c : Str) (h : leS a b = true) (g : leS b c = true) : leS a c = true := leS_iff.mpr (List.le_trans (leS_iff.mp h) (leS_iff.mp g))
theorem leS_total (a b : Str) : (leS a b || leS b a) = true := by
  rw [Bool.or_eq_true, leS_iff, leS_iff]
  exact List.le_total _ _
theorem leS_anti {a b : Str} (h : leS a b = true) (g : leS b a = true) : a = b := by
  have e : a.cps.toList = b.cps.toList := List.le_antisymm (leS_iff.mp h) (leS_iff.mp g)
  cases a; cases b
  exact congrArg Str.mk (Array.toList_inj.mp e)
theorem leS_of {a b : Str} (h : ltCps b.cps.toList a.cps.toList = false) : leS a b = true := by
  rw [ltCps_eq] at h
  exact leS_iff.mpr (of_decide_eq_false h)
/-- sorted(xs) -/
def srt (xs : List Str) : List Str := xs.mergeSort leS
def Srtd (xs : List Str) : Prop := xs.Pairwise fun a b => leS a b = true
theorem srt_srtd (xs : List Str) : Srtd (srt xs) := List.pairwise_mergeSort leS_trans leS_total xs
theorem srt_perm (xs : List Str) : (srt xs).Perm xs := List.mergeSort_perm xs leS
theorem srt_len (xs : List Str) : (srt xs).length = xs.length := (srt_perm xs).length_eq
theorem srtd_eq {xs ys : List Str} (p : xs.Perm ys) (hx : Srtd xs) (hy : Srtd ys) : xs = ys := p.eq_of_pairwise (fun a b _ _ => leS_anti) hx hy
theorem srt_id {xs : List Str} (h : Srtd xs) : srt xs = xs := srtd_eq (srt_perm xs) (srt_srtd xs) h
theorem srt_congr {xs ys : List Str} (p : xs.Perm ys) : srt xs = srt ys := srtd_eq (((srt_perm xs).trans p).trans (srt_perm ys).symm) (srt_srtd xs) (srt_srtd ys)
theorem rising_srtd : ∀ (r : List Str) (x : Str), risingS x r = true → Srtd (x :: r)
  | [], x, _ => List.pairwise_singleton _ _
  | y :: r, x, h => by
    unfold risingS at h
    rw [Bool.and_eq_true] at h
    have q := rising_srtd r y h.2
    have xy : leS x y = true := leS_of (by simpa using h.1)
    refine List.pairwise_cons.mpr ⟨fun z hz => ?_, q⟩
    rcases List.mem_cons.mp hz with rfl | hz
    · exact xy
    · exact leS_trans _ _ _ xy ((List.pairwise_cons.mp q).1 z hz)
theorem srtd_of {xs : List Str} (h : sortedS xs = true) : Srtd xs := match xs, h with
  | [], _ => List.Pairwise.nil
  | x :: r, h => rising_srtd r x h
theorem srt_of {xs ys : List Str} (p : ys.Perm xs) (h : sortedS ys = true) : ys = srt xs := srtd_eq (p.trans (srt_perm xs).symm) (srtd_of h) (srt_srtd xs)
theorem collectT {prog : Program} {w : World} {A : Around} {E : Value → Shared → Prop} {s : Shared} {a : Addr} {o : Obj} {its : List Value} {n : Nat} {Q : List Value → Shared → Prop} (ho : s.heap.get? a = some o) (hc : o.cls = .type "tuple") (hd : o.data = .seq its.toArray n) (big : its.length ≤ sizeLine)
    (q : ∀ h', (∀ b u, s.heap.get? b = some u → h'.get? b = some u) → s.heap.objs.size ≤ h'.objs.size → Q its { s with heap := h' }) : wpAny (model prog w) A (collect (.ref a)) Q E s := by
  have there : (s.heap.push (seqObj "list" #[] 0)).get? a = some o := Heap.get?_push_of_some _ ho
  have fresh : (s.heap.push (seqObj "list" #[] 0)).get? s.heap.objs.size = some (seqObj "list" #[] 0) := Heap.get?_push_size _ rfl
  unfold collect
  refine wpAny_bind (wpAny_runValue (codeAny_builtin entry_proto_collect' ?_))
  show wpAny _ _ (do again (.builtin "list.__iadd__" ⟨[← newList [], .ref a], []⟩)) _ _ s
  refine wpAny_bind (wpAny_newList (wpAny_pure ⟨Code.quiet_builtin _ (by decide +kernel), codeAny_builtin entry_list_iadd' ?_⟩))
  show wpAny _ _ (Builtin.List.listExtendWith (.ref s.heap.objs.size) (.ref a) (.ref s.heap.objs.size)) _ _ { s with heap := s.heap.push (seqObj "list" #[] 0) }
  unfold Builtin.List.listExtendWith
  refine wpAny_bind (wpAny_typeOf (T := "tuple") ⟨o, there, hc⟩ ?_)
  rw [if_pos (by rw [show (Value.type "tuple" == Value.type "tuple") = true from rfl]; simp)]
  refine wpAny_bind (listItems_at there hd (wpAny_bind (listItems_at fresh rfl ?_)))
  rw [if_neg (by simp)]
  have fits : (#[] ++ its.toArray : Array Value).size ≤ sizeLine + 1 := by
    simp only [Array.size_append, List.size_toArray, List.length_nil]
    omega
  refine wpAny_bind (listUpdate_at fresh rfl ?_ (Nat.zero_le _) fits)
  refine wpAny_pure ?_
  show wpAny (model prog w) A (do
      let o ← load s.heap.objs.size
      match o.data with
      | .seq xs _ => pure xs.toList
      | _ => unsupported "internal:collect") Q E { s with heap := (s.heap.push (seqObj "list" #[] 0)).update s.heap.objs.size (Obj.mapSeq (· ++ its.toArray)) }
  refine wpAny_bind (wpAny_load (get?_update_seq fresh _) ?_)
  show wpAny _ _ (pure ((#[] : Array Value) ++ its.toArray).toList) Q E _
  rw [show ((#[] : Array Value) ++ its.toArray).toList = its by simp]
  refine wpAny_pure (q _ (fun b u e => ?_) (by rw [Heap.size_update, size_push']; exact Nat.le_succ _))
  rw [Heap.get?_update_ne _ _ _ _ (Nat.ne_of_lt (Heap.lt_size e))]
  exact Heap.get?_push_of_some _ e
section
variable {X : Cx}
/-- sorted(t), t a tuple of fewer than 64 texts -/
def rSortT (K : PySem.W.Frag) : List V → Hp → VK → Prop := fun vs H Q => ∃ (a : Addr) (xs : List Str), vs = [V.ref a] ∧ SqT K H a (xs.map V.str) ∧ xs.length < 64 ∧ ∀ p, H p = none → Q (.ref p) (upd H p (.lst ((srt xs).map V.str)))
theorem cr_sortT : CallR X (.builtin "sorted") (rSortT X.K) := by
  intro pins s σ H vs us Q I r h
  obtain ⟨a, xs, rfl, hs, h64, q⟩ := h
  obtain ⟨its, rv, tup, _⟩ := I.tuple hs
  rw [Vals.ref1 r]
  have hS := rv.strs
  have len : its.length = xs.length := by rw [← rv.length, List.length_map]
  obtain ⟨o, ho, hc, n, hd⟩ := tup
  refine Calls.call_function_entry kind_sorted plain_sorted entry_sorted (args_sorted1 _) ?_
  unfold Builtin.«sorted»
  refine wpAny_bind (m := checkCount "sorted" 1 1 _) (wpAny_pure ?_)
  have big : its.length ≤ sizeLine := by
    rw [len, sizeLine_eq]
    omega
  refine wpAny_bind (collectT ho hc hd big fun h1 k1 below => wpAny_bind (wpAny_newList ?_ big))
  have at1 : (h1.push { cls := .type "list", data := .seq its.toArray }).get? h1.objs.size = some (seqObj "list" its.toArray 0) := Heap.get?_push_size _ rfl
  refine wpAny_bind (wpAny_holding (wpAny_call_entry slot_list_sort ⟨_, at1, rfl⟩ entry_list_sort (list_sort_treeK strKind_oneLt at1 hS.keysOf (fun v₁ v₂ rest e => keyKind_strs (by rw [← e]; exact hS)) (by rw [len]; exact h64) fun st' hp hs => ⟨_, rfl, ?_⟩) (args_list_sort _)))
  obtain ⟨ys, g1, g2, g3⟩ := sorted_out_str hS hp hs
  obtain rfl := srt_of g2 g3
  obtain ⟨ep, at2⟩ := sortedHeap_at (vs := its) (out := (arrOf st').map (·.2)) at1
  have few : ((srt xs).map V.str).length ≤ sizeLine := by
    rw [List.length_map, srt_len, sizeLine_eq]
    omega
  have old : ∀ b u, s.heap.get? b = some u → b < h1.objs.size := fun b u e => Heap.lt_size (k1 b u e)
  refine wpAny_pure ⟨_, rfl, .ref h1.objs.size, upd H h1.objs.size (.lst ((srt xs).map V.str)), I.laid (t' := s.toks) (fun b u e => ?_) below ⟨few, ((arrOf st').map (·.2)).toList, ep, vals_of_strs g1, by rw [Array.toArray_toList]; exact at2⟩, rfl, q _ (I.hok.fresh below)⟩
  have lt := old b u e
  rw [sortedHeap_old (Nat.ne_of_lt lt) (by rw [size_push']; exact Nat.lt_succ_of_lt lt), Heap.get?_push_ne _ _ _ (Nat.ne_of_lt lt)]
  exact k1 b u e
end
end RR

namespace RR
open PySem PySem.Spec PyProof.Rows L2
/-! polynomials as lists of terms -/
abbrev Mono := List Str
abbrev Poly := List (Mono × Int)
def kI (m : Mono) : List L2.Key := m.map Sum.inr
theorem kI_V (m : Mono) : (kI m).map kV = m.map V.str := by
  unfold kI
  rw [List.map_map]
  rfl
theorem kI_inj {m n : Mono} : kI m = kI n ↔ m = n := by
  constructor
  · intro h
    exact List.map_inj_right (f := (Sum.inr : Str → L2.Key)) (fun a b z => Sum.inr.inj z) |>.mp h
  · rintro rfl
    rfl
def enc (p : Poly) : List (List L2.Key × V) := p.map fun t => (kI t.1, V.int t.2)
theorem enc_len (p : Poly) : (enc p).length = p.length := List.length_map ..
theorem enc_at {p : Poly} {i : Nat} {k : List L2.Key} {v : V} (h : (enc p)[i]? = some (k, v)) : ∃ m c, p[i]? = some (m, c) ∧ k = kI m ∧ v = .int c := by
  unfold enc at h
  rw [List.getElem?_map] at h
  cases e : p[i]? with
  | none => rw [e] at h; cases h
  | some t =>
    rw [e] at h
    cases h
    exact ⟨t.1, t.2, rfl, rfl, rfl⟩
/-- the coefficient that is held -/
def getP (p : Poly) (m : Mono) : Option Int := (p.find? fun t => decide (t.1 = m)).map (·.2)
def cf (p : Poly) (m : Mono) : Int := (getP p m).getD 0
def putP (p : Poly) (m : Mono) (c : Int) : Poly := if (p.any fun t => decide (t.1 = m)) = true then p.map (fun t => if t.1 = m then (t.1, c) else t) else p ++ [(m, c)]
def KN (p : Poly) : Prop := (p.map (·.1)).Nodup
theorem enc_get (p : Poly) (m : Mono) : valV (enc p) (kI m) = (getP p m).map V.int := by
  induction p with
  | nil => rfl
  | cons t p ih =>
    by_cases e : t.1 = m
    · rw [show enc (t :: p) = (kI t.1, V.int t.2) :: enc p from rfl, valV_pos (kI_inj.mpr e)]
      simp [getP, List.find?_cons, e]
    · rw [show enc (t :: p) = (kI t.1, V.int t.2) :: enc p from rfl, valV_neg (fun z => e (kI_inj.mp z)), ih]
      simp [getP, List.find?_cons, e]
theorem enc_put (p : Poly) (m : Mono) (c : Int) : putK (enc p) (kI m) (.int c) = enc (putP p m c) := by
  have a : ((enc p).any fun kv => decide (kv.1 = kI m)) = p.any fun t => decide (t.1 = m) := by
    unfold enc
    rw [List.any_map]
    congr 1
    funext t
    exact decide_eq_decide.mpr kI_inj
  unfold putK putP
  rw [a]
  split
  · unfold enc
    rw [List.map_map, List.map_map]
    refine List.map_congr_left fun t _ => ?_
    by_cases e : t.1 = m
    · simp [e]
    · simp [e, kI_inj]
  · simp [enc]
theorem getP_of {p : Poly} (kn : KN p) {i : Nat} {m : Mono} {c : Int} (h : p[i]? = some (m, c)) : getP p m = some c := by
  induction p generalizing i with
  | nil => simp at h
  | cons t p ih =>
    unfold KN at kn
    rw [List.map_cons, List.nodup_cons] at kn
    cases i with
    | zero =>
      simp at h
      subst h
      simp [getP]
    | succ i =>
      rw [List.getElem?_cons_succ] at h
      have ne : t.1 ≠ m := fun e => kn.1 (by rw [e]; exact List.mem_map.mpr ⟨(m, c), List.mem_of_getElem? h, rfl⟩)
      have := ih kn.2 h
      unfold getP at this ⊢
      rw [List.find?_cons]
      simp [ne, this]
theorem putP_new {p : Poly} {m : Mono} (h : m ∉ p.map (·.1)) (c : Int) : putP p m c = p ++ [(m, c)] := by
  unfold putP
  rw [if_neg]
  intro z
  obtain ⟨t, ht, e⟩ := List.any_eq_true.mp z
  exact h (List.mem_map.mpr ⟨t, ht, of_decide_eq_true e⟩)
theorem putP_keys (p : Poly) (m : Mono) (c : Int) : (putP p m c).map (·.1) = if (p.any fun t => decide (t.1 = m)) = true then p.map (·.1) else p.map (·.1) ++ [m] := by
  unfold putP
  split
  · rw [List.map_map]
    refine List.map_congr_left fun t _ => ?_
    simp only [Function.comp]
    split <;> rfl
  · simp
theorem putP_kn {p : Poly} (kn : KN p) (m : Mono) (c : Int) : KN (putP p m c) := by
  unfold KN
  rw [putP_keys]
  split
  · exact kn
  · rename_i h
    refine List.nodup_append.mpr ⟨kn, by simp, ?_⟩
    rintro a ha b hb rfl
    rw [List.mem_singleton] at hb
    subst hb
    obtain ⟨t, ht, e⟩ := List.mem_map.mp ha
    exact h (List.any_eq_true.mpr ⟨t, ht, decide_eq_true e⟩)
/-- without zeros -/
def nz (p : Poly) : Poly := p.filter fun t => decide (t.2 ≠ 0)
def addP (p : Poly) (t : Mono × Int) : Poly := putP p t.1 (cf p t.1 + t.2)
def sums (ts : Poly) : Poly := ts.foldl addP []
def coll (ts : Poly) : Poly := nz (sums ts)
def mrg (a b : Mono) : Mono := srt (a ++ b)
def prods (p q : Poly) : Poly := p.flatMap fun s => q.map fun t => (mrg s.1 t.1, s.2 * t.2)
def mulP (p q : Poly) : Poly := coll (prods p q)
def plusP (p q : Poly) : Poly := coll (p ++ q)
def sclP (p : Poly) (n : Int) : Poly := nz (p.map fun t => (t.1, t.2 * n))
def minP (p q : Poly) : Poly := plusP p (sclP q (-1))
def conP (n : Int) : Poly := nz [([], n)]
def varP (x : Str) : Poly := [([x], 1)]
theorem nz_kn {p : Poly} (kn : KN p) : KN (nz p) := List.Nodup.sublist (List.Sublist.map _ List.filter_sublist) kn
theorem sums_kn (ts : Poly) : KN (sums ts) := by
  have : ∀ (ts p : Poly), KN p → KN (ts.foldl addP p) := by
    intro ts
    induction ts with
    | nil => exact fun p h => h
    | cons t ts ih => exact fun p h => ih _ (putP_kn h _ _)
  exact this ts [] List.nodup_nil
theorem coll_kn (ts : Poly) : KN (coll ts) := nz_kn (sums_kn ts)
theorem scl_keys (p : Poly) (n : Int) : (p.map fun t => (t.1, t.2 * n)).map (·.1) = p.map (·.1) := by
  rw [List.map_map]
  rfl
theorem scl_kn {p : Poly} (kn : KN p) (n : Int) : KN (sclP p n) := nz_kn (by unfold KN; rw [scl_keys]; exact kn)
theorem con_kn (n : Int) : KN (conP n) := nz_kn (by unfold KN; simp)
theorem var_kn (x : Str) : KN (varP x) := by unfold KN varP; simp
theorem sums_snoc (ts : Poly) (t : Mono × Int) : sums (ts ++ [t]) = addP (sums ts) t := by
  unfold sums
  rw [List.foldl_append]
  rfl
theorem putP_len (p : Poly) (m : Mono) (c : Int) : (putP p m c).length ≤ p.length + 1 := by
  unfold putP
  split
  · rw [List.length_map]; omega
  · rw [List.length_append]; exact Nat.le_refl _
theorem sums_len (ts : Poly) : (sums ts).length ≤ ts.length := by
  have : ∀ (ts p : Poly), (ts.foldl addP p).length ≤ p.length + ts.length := by
    intro ts
    induction ts with
    | nil => exact fun p => Nat.le_refl _
    | cons t ts ih =>
      intro p
      have a := ih (addP p t)
      have b := putP_len p t.1 (cf p t.1 + t.2)
      show ((ts.foldl addP (addP p t))).length ≤ _
      unfold addP at a ⊢
      rw [List.length_cons]
      omega
  have := this ts []
  rw [List.length_nil] at this
  unfold sums
  omega
/-- at a the dict of a polynomial -/
def PD (H : Hp) (a : Addr) (p : Poly) : Prop := H a = some (.dT (enc p))
def MT (H : Hp) (a : Addr) (m : Mono) : Prop := H a = some (.tup (m.map V.str))
/-- at b the pair of a monomial and a number -/
def TP1 (H : Hp) (b : Addr) (t : Mono × Int) : Prop := ∃ q, H b = some (.tup [.ref q, .int t.2]) ∧ MT H q t.1
theorem MT.keep {H H' : Hp} {a : Addr} {m : Mono} (h : MT H a m) (s : Same H H') : MT H' a m := s _ _ h
theorem TP1.keep {H H' : Hp} {b : Addr} {t : Mono × Int} (h : TP1 H b t) (s : Same H H') : TP1 H' b t := let ⟨q, h1, h2⟩ := h; ⟨q, s _ _ h1, s _ _ h2⟩
theorem MT.key {H : Hp} {a : Addr} {m : Mono} (h : MT H a m) : H a = some (.tup ((kI m).map kV)) := by rw [kI_V]; exact h
theorem PD.get {H : Hp} {d b : Addr} {p : Poly} {m : Mono} (hd : Rd H d (.dT (enc p))) (hb : MT H b m) : DGet H d (.ref b) ((getP p m).map V.int) := .inr ⟨_, _, b, hd, rfl, hb.key, (enc_get p m).symm⟩
theorem PD.put {H : Hp} {d b : Addr} {p : Poly} {m : Mono} {c : Int} (hd : PD H d p) (hb : MT H b m) (hl : p.length < sizeLine) : DPut H d (.ref b) (.int c) (upd H d (.dT (enc (putP p m c)))) := by
  rw [← enc_put]
  exact DPut.t hd hb.key (by rw [enc_len]; exact hl)
theorem getD_int (o : Option Int) : ((o.map V.int).getD (.int 0)) = .int (o.getD 0) := by cases o <;> rfl
theorem nz_snoc (p : Poly) (m : Mono) (c : Int) : nz (p ++ [(m, c)]) = if c = 0 then nz p else nz p ++ [(m, c)] := by
  unfold nz
  rw [List.filter_append]
  by_cases h : c = 0 <;> simp [h]
theorem take_snoc {p : Poly} {i : Nat} {t : Mono × Int} (h : p[i]? = some t) : p.take (i + 1) = p.take i ++ [t] := by
  rw [List.take_add_one, h]
  rfl
theorem nz_fresh {p : Poly} (kn : KN p) {i : Nat} {m : Mono} {c : Int} (h : p[i]? = some (m, c)) : m ∉ (nz (p.take i)).map (·.1) := by
  intro z
  obtain ⟨t, ht, rfl⟩ := List.mem_map.mp z
  have ht := (List.mem_filter.mp ht).1
  have kn2 : KN (p.take (i + 1)) := List.Nodup.sublist (List.Sublist.map _ (List.take_sublist _ _)) kn
  unfold KN at kn2
  rw [take_snoc h, List.map_append, List.nodup_append] at kn2
  exact kn2.2.2 t.1 (List.mem_map.mpr ⟨t, ht, rfl⟩) t.1 (by simp) rfl
theorem nz_len (p : Poly) : (nz p).length ≤ p.length := List.length_filter_le ..
theorem sz_lt {n : Nat} (h : n ≤ 100000) : n < sizeLine := Nat.lt_of_le_of_lt h (by decide)
theorem paired_at {α β : Type} {G : α → β → Prop} {l : List α} {m : List β} (h : Paired G l m) {i : Nat} {b : β} (e : m[i]? = some b) : ∃ a, l[i]? = some a ∧ G a b := by
  induction h generalizing i with
  | nil => simp at e
  | cons r t ih =>
    cases i with
    | zero =>
      simp at e
      exact ⟨_, rfl, e ▸ r⟩
    | succ i => exact ih e
theorem ref_at {as : List Addr} {i : Nat} {v : V} (h : (as.map V.ref)[i]? = some v) : ∃ b, as[i]? = some b ∧ v = .ref b := by
  rw [List.getElem?_map] at h
  obtain ⟨b, hb, rfl⟩ := Option.map_eq_some_iff.mp h
  exact ⟨b, hb, rfl⟩
theorem scl_at {p : Poly} {i : Nat} {m : Mono} {c : Int} (h : p[i]? = some (m, c)) (n : Int) : (p.map fun t => (t.1, t.2 * n))[i]? = some (m, c * n) := by
  rw [List.getElem?_map, h]
  rfl
theorem take_fresh {p : Poly} (kn : KN p) {i : Nat} {m : Mono} {c : Int} (h : p[i]? = some (m, c)) : m ∉ (p.take i).map (·.1) := by
  intro z
  obtain ⟨t, ht, rfl⟩ := List.mem_map.mp z
  have kn2 : KN (p.take (i + 1)) := List.Nodup.sublist (List.Sublist.map _ (List.take_sublist _ _)) kn
  unfold KN at kn2
  rw [take_snoc h, List.map_append, List.nodup_append] at kn2
  exact kn2.2.2 t.1 (List.mem_map.mpr ⟨t, ht, rfl⟩) t.1 (by simp) rfl
/-- the value -/
def prv (v : Str → Int) (m : Mono) : Int := m.foldl (fun z x => z * v x) 1
def ev1 (v : Str → Int) (t : Mono × Int) : Int := t.1.foldl (fun z x => z * v x) t.2
def evp (v : Str → Int) (p : Poly) : Int := p.foldl (fun z t => z + ev1 v t) 0
theorem evp_snoc (v : Str → Int) (p : Poly) (t : Mono × Int) : evp v (p ++ [t]) = evp v p + ev1 v t := by
  unfold evp
  rw [List.foldl_append]
  rfl
theorem paired_keep {H H' : Hp} (s : Same H H') {as : List Addr} {ts : Poly} (h : Paired (TP1 H) as ts) : Paired (TP1 H') as ts := Paired.mapP h fun _ _ r => r.keep s
theorem flat_take {α : Type} {ls : List (List α)} {i : Nat} {l : List α} (h : ls[i]? = some l) : (ls.take (i + 1)).flatten = (ls.take i).flatten ++ l := by
  rw [List.take_add_one, h, List.flatten_append]
  simp
theorem flat_le {α : Type} (ls : List (List α)) (i : Nat) : (ls.take i).flatten.length ≤ ls.flatten.length := by
  have e : ls.flatten = (ls.take i).flatten ++ (ls.drop i).flatten := by rw [← List.flatten_append, List.take_append_drop]
  rw [e, List.length_append]
  omega
theorem scl_len (p : Poly) (n : Int) : (sclP p n).length ≤ p.length := by
  have := nz_len (p.map fun t => (t.1, t.2 * n))
  rw [List.length_map] at this
  exact this
theorem sm_one {B : Nat} (h : 1 ≤ B) : Sm B 1 := Nat.lt_of_lt_of_le (by decide) (Nat.pow_le_pow_right (by decide) h)
theorem sm_neg1 {B : Nat} (h : 1 ≤ B) : Sm B (-1) := sm_one h
theorem refs_append (as bs : List Addr) : as.map V.ref ++ bs.map V.ref = (as ++ bs).map V.ref := List.map_append.symm
theorem prods_len (p r : Poly) : (prods p r).length = p.length * r.length := by
  induction p with
  | nil => simp [prods]
  | cons s p ih =>
    unfold prods at ih ⊢
    rw [List.flatMap_cons, List.length_append, ih, List.length_map, List.length_cons, Nat.succ_mul]
    omega
/-! walks -/
theorem dcT_it {J : It} {n : Nat} {G : Hp → Prop} {Y : Nat → Hp → V → Hp → Prop} (w : Walk J n G Y) {g : TG} {tt : TT} {tk tv : TE} {vs : List Nat} {σ : L2.St} {H1 : Hp} {D : Addr} {Qd : Hp → Prop} (Pv : Nat → Hp → Prop) (h0 : Pv 0 (upd H1 D (.dT []))) (hG : ∀ i H, i ≤ n → Pv i H → G H)
    (hs : ∀ i x H H', i < n → Pv i H → Y i H x H' → g x (wipe σ vs) H' fun σ2 H2 => wipe σ2 vs = wipe σ vs ∧ tt σ2 H2 fun b H3 =>
      if b = true then tk σ2 H3 fun y H4 => tv σ2 H4 fun z H5 => ∃ ps k b, y = .ref b ∧ H5 b = some (.tup (k.map kV)) ∧ H5 D = some (.dT ps) ∧ ps.length < sizeLine ∧ Pv (i + 1) (upd H5 D (.dT (putK ps k z))) else Pv (i + 1) H3) (hd : ∀ H, Pv n H → Qd H) :
    ∃ W : Nat → Nat → Hp → Prop, (∃ m, W 0 m (upd H1 D (.dT []))) ∧ ∀ i m H, W i m H →
      (J.stop i H ∧ Qd H) ∨ (J.go i H ∧ ∃ Nx : Hp → Prop, (∀ H', Nx H' → ∃ m', m' < m ∧ W (i + 1) m' H') ∧ ∀ x H', J.yld i H x H' → g x (wipe σ vs) H' fun σ2 H2 => wipe σ2 vs = wipe σ vs ∧ tt σ2 H2 fun b H3 =>
        if b = true then tk σ2 H3 fun y H4 => tv σ2 H4 fun z H5 => ∃ ps k b, y = .ref b ∧ H5 b = some (.tup (k.map kV)) ∧ H5 D = some (.dT ps) ∧ ps.length < sizeLine ∧ Nx (upd H5 D (.dT (putK ps k z))) else Nx H3) := by
  refine ⟨fun i m H => m = n - i ∧ i ≤ n ∧ Pv i H, ⟨n, by simp, Nat.zero_le _, h0⟩, ?_⟩
  rintro i m H ⟨rfl, le, p⟩
  have gd := hG i H le p
  by_cases lt : i < n
  · exact .inr ⟨w.goes i H lt gd, Pv (i + 1), fun H' p' => ⟨n - (i + 1), by omega, rfl, lt, p'⟩, fun x H' y => hs i x H H' lt p (w.yields i H x H' lt gd y)⟩
  · obtain rfl : i = n := by omega
    exact .inl ⟨w.stops H gd, hd H p⟩
end RR

namespace RR
open PySem PySem.Spec PyProof.Rows L2
section
variable {J : It} {n : Nat} {G : Hp → Prop} {Y : Nat → Hp → V → Hp → Prop}
/-- a comprehension with two fors, the outer walk -/
theorem lc2_it (w : Walk J n G Y) {g : TG} {tt : TT} {wi1 : TI} {g1 : TG} {tt1 : TT} {te : TE} {vs vs1 : List Nat} {σ : L2.St} {H1 : Hp} {D : Addr} {Qd : Hp → Prop} (Pv : Nat → Hp → Prop) (h0 : Pv 0 (upd H1 D (.lst []))) (hG : ∀ i H, i ≤ n → Pv i H → G H)
    (hs : ∀ i x H H', i < n → Pv i H → Y i H x H' → g x (wipe σ vs) H' fun σ2 H2 => wipe σ2 vs = wipe σ vs ∧ tt σ2 H2 fun b H3 =>
      if b = true then wi1 σ2 H3 fun J1 H4 => ∃ W1 : Nat → Nat → Hp → Prop, (∃ m, W1 0 m H4) ∧ ∀ j k H, W1 j k H →
        (J1.stop j H ∧ Pv (i + 1) H) ∨ (J1.go j H ∧ ∃ Nx1 : Hp → Prop, (∀ H', Nx1 H' → ∃ k', k' < k ∧ W1 (j + 1) k' H') ∧ ∀ x H', J1.yld j H x H' → g1 x (wipe σ2 vs1) H' fun σ3 H5 => wipe σ3 vs1 = wipe σ2 vs1 ∧ tt1 σ3 H5 fun b H6 =>
          if b = true then te σ3 H6 fun y H7 => ∃ acc, H7 D = some (.lst acc) ∧ acc.length < sizeLine ∧ Nx1 (upd H7 D (.lst (acc ++ [y]))) else Nx1 H6)
      else Pv (i + 1) H3) (hd : ∀ H, Pv n H → Qd H) :
    ∃ W : Nat → Nat → Hp → Prop, (∃ m, W 0 m (upd H1 D (.lst []))) ∧ ∀ i m H, W i m H →
      (J.stop i H ∧ Qd H) ∨ (J.go i H ∧ ∃ Nx : Hp → Prop, (∀ H', Nx H' → ∃ m', m' < m ∧ W (i + 1) m' H') ∧ ∀ x H', J.yld i H x H' → g x (wipe σ vs) H' fun σ2 H2 => wipe σ2 vs = wipe σ vs ∧ tt σ2 H2 fun b H3 =>
        if b = true then wi1 σ2 H3 fun J1 H4 => ∃ W1 : Nat → Nat → Hp → Prop, (∃ m, W1 0 m H4) ∧ ∀ j k H, W1 j k H →
          (J1.stop j H ∧ Nx H) ∨ (J1.go j H ∧ ∃ Nx1 : Hp → Prop, (∀ H', Nx1 H' → ∃ k', k' < k ∧ W1 (j + 1) k' H') ∧ ∀ x H', J1.yld j H x H' → g1 x (wipe σ2 vs1) H' fun σ3 H5 => wipe σ3 vs1 = wipe σ2 vs1 ∧ tt1 σ3 H5 fun b H6 =>
            if b = true then te σ3 H6 fun y H7 => ∃ acc, H7 D = some (.lst acc) ∧ acc.length < sizeLine ∧ Nx1 (upd H7 D (.lst (acc ++ [y]))) else Nx1 H6)
        else Nx H3) := by
  refine ⟨fun i m H => m = n - i ∧ i ≤ n ∧ Pv i H, ⟨n, by simp, Nat.zero_le _, h0⟩, ?_⟩
  rintro i m H ⟨rfl, hi, p⟩
  have q := hG i H hi p
  by_cases hlt : i < n
  · exact .inr ⟨w.goes i H hlt q, Pv (i + 1), fun H' p' => ⟨n - (i + 1), by omega, rfl, hlt, p'⟩, fun x H' y => hs i x H H' hlt p (w.yields i H x H' hlt q y)⟩
  · have e : i = n := by omega
    subst e
    exact .inl ⟨w.stops H q, hd H p⟩
/-- .. and the inner one -/
theorem in_it (w : Walk J n G Y) {g1 : TG} {tt1 : TT} {te : TE} {vs1 : List Nat} {σ2 : L2.St} {H4 : Hp} {D : Addr} {N : Hp → Prop} (Pv : Nat → Hp → Prop) (h0 : Pv 0 H4) (hG : ∀ i H, i ≤ n → Pv i H → G H)
    (hs : ∀ j x H H', j < n → Pv j H → Y j H x H' → g1 x (wipe σ2 vs1) H' fun σ3 H5 => wipe σ3 vs1 = wipe σ2 vs1 ∧ tt1 σ3 H5 fun b H6 =>
      if b = true then te σ3 H6 fun y H7 => ∃ acc, H7 D = some (.lst acc) ∧ acc.length < sizeLine ∧ Pv (j + 1) (upd H7 D (.lst (acc ++ [y]))) else Pv (j + 1) H6) (hd : ∀ H, Pv n H → N H) :
    ∃ W1 : Nat → Nat → Hp → Prop, (∃ m, W1 0 m H4) ∧ ∀ j k H, W1 j k H →
      (J.stop j H ∧ N H) ∨ (J.go j H ∧ ∃ Nx1 : Hp → Prop, (∀ H', Nx1 H' → ∃ k', k' < k ∧ W1 (j + 1) k' H') ∧ ∀ x H', J.yld j H x H' → g1 x (wipe σ2 vs1) H' fun σ3 H5 => wipe σ3 vs1 = wipe σ2 vs1 ∧ tt1 σ3 H5 fun b H6 =>
        if b = true then te σ3 H6 fun y H7 => ∃ acc, H7 D = some (.lst acc) ∧ acc.length < sizeLine ∧ Nx1 (upd H7 D (.lst (acc ++ [y]))) else Nx1 H6) := by
  refine ⟨fun i m H => m = n - i ∧ i ≤ n ∧ Pv i H, ⟨n, by simp, Nat.zero_le _, h0⟩, ?_⟩
  rintro i m H ⟨rfl, hi, p⟩
  have q := hG i H hi p
  by_cases hlt : i < n
  · exact .inr ⟨w.goes i H hlt q, Pv (i + 1), fun H' p' => ⟨n - (i + 1), by omega, rfl, hlt, p'⟩, fun x H' y => hs i x H H' hlt p (w.yields i H x H' hlt q y)⟩
  · have e : i = n := by omega
    subst e
    exact .inl ⟨w.stops H q, hd H p⟩
end
end RR

namespace RR
open PySem PySem.Spec PyProof.Rows L2
/-! values of polynomials -/
def prd (v : Str → Int) : Mono → Int
  | [] => 1
  | x :: m => v x * prd v m
def sumv (v : Str → Int) : Poly → Int
  | [] => 0
  | t :: p => t.2 * prd v t.1 + sumv v p
theorem prd_perm (v : Str → Int) {m n : Mono} (h : m.Perm n) : prd v m = prd v n := by
  induction h with
  | nil => rfl
  | cons x _ ih => simp only [prd, ih]
  | swap x y l => simp only [prd]; exact Int.mul_left_comm ..
  | trans _ _ a b => exact a.trans b
theorem prd_append (v : Str → Int) (m n : Mono) : prd v (m ++ n) = prd v m * prd v n := by
  induction m with
  | nil => simp [prd]
  | cons x m ih => simp only [List.cons_append, prd, ih, Int.mul_assoc]
theorem prd_mrg (v : Str → Int) (m n : Mono) : prd v (mrg m n) = prd v m * prd v n := by rw [← prd_append]; exact prd_perm v (srt_perm _)
theorem ev1_eq (v : Str → Int) (t : Mono × Int) : ev1 v t = t.2 * prd v t.1 := by
  obtain ⟨m, c⟩ := t
  unfold ev1
  show m.foldl _ c = c * prd v m
  induction m generalizing c with
  | nil => simp [prd]
  | cons x m ih => rw [List.foldl_cons, ih, prd, Int.mul_assoc]
theorem sumv_append (v : Str → Int) (p r : Poly) : sumv v (p ++ r) = sumv v p + sumv v r := by
  induction p with
  | nil => simp [sumv]
  | cons t p ih => simp only [List.cons_append, sumv, ih, Int.add_assoc]
theorem evp_eq (v : Str → Int) (p : Poly) : evp v p = sumv v p := by
  have : ∀ (p : Poly) (z : Int), p.foldl (fun z t => z + ev1 v t) z = z + sumv v p := by
    intro p
    induction p with
    | nil => intro z; simp [sumv]
    | cons t p ih => intro z; rw [List.foldl_cons, ih, ev1_eq, sumv, Int.add_assoc]
  unfold evp
  rw [this]
  omega
theorem sumv_nz (v : Str → Int) (p : Poly) : sumv v (nz p) = sumv v p := by
  induction p with
  | nil => rfl
  | cons t p ih =>
    unfold nz at ih ⊢
    by_cases h : t.2 = 0
    · rw [List.filter_cons_of_neg (by simp [h]), ih, sumv, h, Int.zero_mul, Int.zero_add]
    · rw [List.filter_cons_of_pos (by simp [h]), sumv, sumv, ih]
theorem cf_cons (t : Mono × Int) (p : Poly) (m : Mono) : cf (t :: p) m = if t.1 = m then t.2 else cf p m := by
  unfold cf getP
  rw [List.find?_cons]
  by_cases h : t.1 = m <;> simp [h]
theorem putP_cons (t : Mono × Int) (p : Poly) (kn : KN (t :: p)) (m : Mono) (c : Int) : putP (t :: p) m c = if t.1 = m then (m, c) :: p else t :: putP p m c := by
  unfold KN at kn
  rw [List.map_cons, List.nodup_cons] at kn
  by_cases h : t.1 = m
  · rw [if_pos h]
    unfold putP
    rw [if_pos (by simp [h])]
    rw [List.map_cons, if_pos h, h]
    congr 1
    rw [List.map_congr_left (g := id)]
    · simp
    · intro s hs
      rw [if_neg (fun e => kn.1 (by rw [h, ← e]; exact List.mem_map.mpr ⟨s, hs, rfl⟩))]
      rfl
  · rw [if_neg h]
    unfold putP
    rw [List.any_cons, decide_eq_false h, Bool.false_or]
    split
    · rw [List.map_cons, if_neg h]
    · rfl
theorem sumv_add (v : Str → Int) : ∀ (p : Poly), KN p → ∀ t : Mono × Int, sumv v (addP p t) = sumv v p + t.2 * prd v t.1
  | [], _, t => by simp [addP, putP, cf, getP, sumv]
  | s :: p, kn, t => by
    have ih := sumv_add v p (by unfold KN at kn ⊢; rw [List.map_cons, List.nodup_cons] at kn; exact kn.2) t
    unfold addP at ih ⊢
    rw [putP_cons _ _ kn, cf_cons]
    by_cases h : s.1 = t.1
    · rw [if_pos h, if_pos h, sumv, sumv, h]
      simp only []
      rw [Int.add_mul]
      omega
    · rw [if_neg h, if_neg h, sumv, sumv, ih]
      omega
theorem sumv_sums (v : Str → Int) (ts : Poly) : sumv v (sums ts) = sumv v ts := by
  have : ∀ (ts p : Poly), KN p → sumv v (ts.foldl addP p) = sumv v p + sumv v ts := by
    intro ts
    induction ts with
    | nil => intro p _; simp [sumv]
    | cons t ts ih =>
      intro p kn
      rw [List.foldl_cons, ih (addP p t) (putP_kn kn _ _), sumv_add v p kn, sumv, Int.add_assoc]
  have := this ts [] List.nodup_nil
  unfold sums
  rw [this]
  simp [sumv]
theorem sumv_coll (v : Str → Int) (ts : Poly) : sumv v (coll ts) = sumv v ts := by unfold coll; rw [sumv_nz, sumv_sums]
theorem sumv_plus (v : Str → Int) (p r : Poly) : sumv v (plusP p r) = sumv v p + sumv v r := by unfold plusP; rw [sumv_coll, sumv_append]
theorem sumv_scl (v : Str → Int) (p : Poly) (n : Int) : sumv v (sclP p n) = sumv v p * n := by
  unfold sclP
  rw [sumv_nz]
  induction p with
  | nil => simp [sumv]
  | cons t p ih => rw [List.map_cons, sumv, sumv, ih, Int.add_mul]; congr 1; exact Int.mul_right_comm ..
theorem sumv_min (v : Str → Int) (p r : Poly) : sumv v (minP p r) = sumv v p - sumv v r := by unfold minP; rw [sumv_plus, sumv_scl]; omega
theorem sumv_con (v : Str → Int) (n : Int) : sumv v (conP n) = n := by unfold conP; rw [sumv_nz]; simp [sumv, prd]
theorem sumv_var (v : Str → Int) (x : Str) : sumv v (varP x) = v x := by simp [varP, sumv, prd]
theorem sumv_mul (v : Str → Int) (p r : Poly) : sumv v (mulP p r) = sumv v p * sumv v r := by
  unfold mulP
  rw [sumv_coll]
  induction p with
  | nil => simp [prods, sumv]
  | cons s p ih =>
    have e : prods (s :: p) r = (r.map fun t => (mrg s.1 t.1, s.2 * t.2)) ++ prods p r := by simp [prods]
    rw [e, sumv_append, ih, sumv, Int.add_mul]
    congr 1
    clear ih e
    induction r with
    | nil => simp [sumv]
    | cons t r ih =>
      rw [List.map_cons, sumv, sumv, ih, prd_mrg, Int.mul_add]
      congr 1
      grind
/-! how large they are -/
structure Bd (N L M : Nat) (p : Poly) : Prop where
  kn : KN p
  len : p.length ≤ N
  deg : ∀ t ∈ p, t.1.length ≤ L
  cof : ∀ t ∈ p, t.2.natAbs ≤ M
theorem Bd.mono {N L M N' L' M' : Nat} {p : Poly} (h : Bd N L M p) (a : N ≤ N') (b : L ≤ L') (c : M ≤ M') : Bd N' L' M' p := ⟨h.kn, Nat.le_trans h.len a, fun t ht => Nat.le_trans (h.deg t ht) b, fun t ht => Nat.le_trans (h.cof t ht) c⟩
theorem Bd.sm {N L M B : Nat} {p : Poly} (h : Bd N L M p) (hB : M < 2 ^ B) : ∀ t ∈ p, Sm B t.2 := fun t ht => Nat.lt_of_le_of_lt (h.cof t ht) hB
theorem nz_sub {p : Poly} {t : Mono × Int} (h : t ∈ nz p) : t ∈ p := (List.mem_filter.mp h).1
theorem Bd.con (n : Int) : Bd 1 0 n.natAbs (conP n) := by
  refine ⟨con_kn n, nz_len _, fun t ht => ?_, fun t ht => ?_⟩
  all_goals
    have := nz_sub ht
    rw [List.mem_singleton] at this
    subst this
    exact Nat.le_refl _
theorem Bd.var (x : Str) : Bd 1 1 1 (varP x) := by
  refine ⟨var_kn x, Nat.le_refl _, fun t ht => ?_, fun t ht => ?_⟩
  all_goals
    unfold varP at ht
    rw [List.mem_singleton] at ht
    subst ht
    exact Nat.le_refl _
theorem Bd.scl {N L M : Nat} {p : Poly} (h : Bd N L M p) (n : Int) : Bd N L (M * n.natAbs) (sclP p n) := by
  refine ⟨scl_kn h.kn n, Nat.le_trans (scl_len p n) h.len, fun t ht => ?_, fun t ht => ?_⟩
  all_goals
    obtain ⟨s, hs, rfl⟩ := List.mem_map.mp (nz_sub ht)
  · exact h.deg s hs
  · show (s.2 * n).natAbs ≤ _
    rw [Int.natAbs_mul]
    exact Nat.mul_le_mul_right _ (h.cof s hs)
theorem mem_put {p : Poly} {m : Mono} {c : Int} {t : Mono × Int} (h : t ∈ putP p m c) : t = (m, c) ∨ t ∈ p := by
  unfold putP at h
  split at h
  · obtain ⟨s, hs, e⟩ := List.mem_map.mp h
    by_cases z : s.1 = m
    · rw [if_pos z, z] at e
      exact .inl e.symm
    · rw [if_neg z] at e
      exact .inr (e ▸ hs)
  · rcases List.mem_append.mp h with h | h
    · exact .inr h
    · exact .inl (List.mem_singleton.mp h)
theorem cf_le {p : Poly} {K : Nat} (h : ∀ t ∈ p, t.2.natAbs ≤ K) (m : Mono) : (cf p m).natAbs ≤ K := by
  unfold cf getP
  cases e : p.find? fun t => decide (t.1 = m) with
  | none => exact Nat.zero_le _
  | some t => exact h t (List.mem_of_find?_eq_some e)
theorem sums_bd {L M : Nat} : ∀ (ts p : Poly) (K : Nat), (∀ t ∈ ts, t.1.length ≤ L ∧ t.2.natAbs ≤ M) → (∀ t ∈ p, t.1.length ≤ L ∧ t.2.natAbs ≤ K) → ∀ t ∈ ts.foldl addP p, t.1.length ≤ L ∧ t.2.natAbs ≤ K + ts.length * M
  | [], p, K, _, hp, t, ht => by
    have := hp t ht
    simp
    exact this
  | s :: ts, p, K, hs, hp, t, ht => by
    have hs1 := hs s (List.mem_cons_self ..)
    have := sums_bd ts (addP p s) (K + M) (fun t ht => hs t (List.mem_cons_of_mem _ ht)) (fun t ht => ?_) t ht
    · rw [List.length_cons, Nat.succ_mul]
      omega
    · rcases mem_put ht with rfl | ht
      · refine ⟨hs1.1, ?_⟩
        have := cf_le (fun t ht => (hp t ht).2) s.1
        show (cf p s.1 + s.2).natAbs ≤ _
        omega
      · have := hp t ht
        omega
theorem Bd.coll {N L M : Nat} {ts : Poly} (h1 : ts.length ≤ N) (h2 : ∀ t ∈ ts, t.1.length ≤ L ∧ t.2.natAbs ≤ M) : Bd N L (N * M) (coll ts) := by
  have b := sums_bd ts [] 0 h2 (fun t ht => (List.not_mem_nil ht).elim)
  refine ⟨coll_kn ts, Nat.le_trans (nz_len _) (Nat.le_trans (sums_len ts) h1), fun t ht => (b t (nz_sub ht)).1, fun t ht => ?_⟩
  have := (b t (nz_sub ht)).2
  have := Nat.mul_le_mul_right M h1
  omega
theorem Bd.plus {N N' L M : Nat} {p r : Poly} (h : Bd N L M p) (g : Bd N' L M r) : Bd (N + N') L ((N + N') * M) (plusP p r) := by
  refine Bd.coll ?_ fun t ht => ?_
  · rw [List.length_append]
    exact Nat.add_le_add h.len g.len
  · rcases List.mem_append.mp ht with ht | ht
    · exact ⟨h.deg t ht, h.cof t ht⟩
    · exact ⟨g.deg t ht, g.cof t ht⟩
theorem Bd.min {N N' L M : Nat} {p r : Poly} (h : Bd N L M p) (g : Bd N' L M r) : Bd (N + N') L ((N + N') * M) (minP p r) := by
  have := g.scl (-1)
  rw [show (-1 : Int).natAbs = 1 from rfl, Nat.mul_one] at this
  exact h.plus this
theorem Bd.mul {N N' L L' M M' : Nat} {p r : Poly} (h : Bd N L M p) (g : Bd N' L' M' r) : Bd (N * N') (L + L') (N * N' * (M * M')) (mulP p r) := by
  refine Bd.coll ?_ fun t ht => ?_
  · rw [prods_len]
    exact Nat.mul_le_mul h.len g.len
  · unfold prods at ht
    obtain ⟨s, hs, ht⟩ := List.mem_flatMap.mp ht
    obtain ⟨u, hu, rfl⟩ := List.mem_map.mp ht
    refine ⟨?_, ?_⟩
    · show (srt (s.1 ++ u.1)).length ≤ _
      rw [srt_len, List.length_append]
      exact Nat.add_le_add (h.deg s hs) (g.deg u hu)
    · show (s.2 * u.2).natAbs ≤ _
      rw [Int.natAbs_mul]
      exact Nat.mul_le_mul (h.cof s hs) (g.cof u hu)
end RR
namespace RR
open PySem PySem.Spec PyProof.Rows L2
/-! a module's own tuple -/
def TupO (o : Obj) (xs : List V) : Prop := o.cls = .type "tuple" ∧ ∃ (its : Array Value) (n : Nat), o.data = .seq its n ∧ its.size ≤ sizeLine ∧ Vals xs its.toList
theorem TupO.by_ {o : Obj} {xs : List V} {its : Array Value} {n : Nat} (h1 : o.cls = .type "tuple") (h2 : o.data = .seq its n) (h3 : its.size ≤ sizeLine) (h4 : Vals xs its.toList) : TupO o xs := ⟨h1, its, n, h2, h3, h4⟩
def TupK (K : PySem.W.Frag) (a : Addr) (xs : List V) : Prop := ∃ o, K.lookup a = some o ∧ TupO o xs
theorem TupK.of {K : PySem.W.Frag} {a : Addr} {o : Obj} {xs : List V} (h : K.lookup a = some o) (g : TupO o xs) : TupK K a xs := ⟨o, h, g⟩
theorem TupK.sq {K : PySem.W.Frag} {a : Addr} {xs : List V} (h : TupK K a xs) (H : Hp) : SqT K H a xs := by
  obtain ⟨o, h1, h2, its, n, h3, h4, h5⟩ := h
  exact .inr ⟨o, its, n, h1, h2, h3, h4, h5⟩
end RR
namespace RR
open PySem PySem.Spec PyProof.Rows L2
/-- at d the relation that a polynomial is 0 -/
def ZR (H : Hp) (d : Addr) (p : Poly) : Prop := ∃ z, H d = some (.tup [.str (PySem.Str.ofString "zero"), .ref z]) ∧ PD H z p
theorem ZR.keep {H H' : Hp} {d : Addr} {p : Poly} (h : ZR H d p) (s : Same H H') : ZR H' d p := let ⟨z, a, b⟩ := h; ⟨z, s _ _ a, s _ _ b⟩
theorem PD.keep {H H' : Hp} {d : Addr} {p : Poly} (h : PD H d p) (s : Same H H') : PD H' d p := s _ _ h
def oneP (x y a : Poly) : Poly := minP (minP (mulP x x) (mulP (minP (mulP a a) (conP 1)) (mulP y y))) (conP 1)
/-- a polynomial of moderate size -/
abbrev Md (p : Poly) : Prop := Bd 8 8 (2 ^ 100) p
theorem Md.of {N L M : Nat} {p : Poly} (h : Bd N L M p) (a : N ≤ 8) (b : L ≤ 8) (c : M ≤ 2 ^ 100) : Md p := h.mono a b c
theorem Bd.deg2 {N L M N' L' M' : Nat} {p r : Poly} (h : Bd N L M p) (g : Bd N' L' M' r) (k : L + L' < 64) : ∀ s ∈ p, ∀ t ∈ r, s.1.length + t.1.length < 64 := fun s hs t ht => by
  have a := h.deg s hs
  have b := g.deg t ht
  omega
theorem Bd.mulLen {N L M N' L' M' : Nat} {p r : Poly} (h : Bd N L M p) (g : Bd N' L' M' r) (k : N * N' ≤ 100000) : p.length * r.length ≤ 100000 := Nat.le_trans (Nat.mul_le_mul h.len g.len) k
theorem Bd.addLen {N L M N' L' M' : Nat} {p r : Poly} (h : Bd N L M p) (g : Bd N' L' M' r) (k : N + N' ≤ 100000) : p.length + r.length ≤ 100000 := Nat.le_trans (Nat.add_le_add h.len g.len) k
theorem Md.one : Md (conP 1) := (Bd.con 1).mono (by decide) (by decide) (by decide +kernel)
end RR
namespace RR
open PySem PySem.Spec PyProof.Rows L2
abbrev Sd (p : Poly) : Prop := Bd 8 8 (2 ^ 90) p
theorem Sd.md {p : Poly} (h : Sd p) : Md p := h.mono (by decide) (by decide) (by decide +kernel)
def nms : List Str := ["x", "y", "u", "v", "s", "t", "b", "r", "p", "q", "c", "d", "e"]
def eqsP (k a : Poly) (P : Str → Poly) : List Poly :=
  [oneP (P "x") (P "y") a, oneP (P "u") (P "v") a, oneP (P "s") (P "t") (P "b"), minP (P "v") (mulP (plusP (P "r") (conP 1)) (mulP (P "y") (P "y"))), minP (P "b") (plusP (conP 1) (mulP (P "p") (sclP (P "y") 4))),
    minP (P "b") (plusP a (mulP (P "q") (P "u"))), minP (P "s") (plusP (P "x") (mulP (P "c") (P "u"))), minP (P "t") (plusP k (mulP (P "d") (sclP (P "y") 4))), minP (P "y") (plusP k (P "e"))]
end RR
namespace RR
open PySem PySem.Spec PyProof.Rows L2
/-- what stands between two statements -/
theorem seq_cut {t u : TS} {D : Ends} {σ : L2.St} {H : Hp} (R : L2.St → Hp → Prop) (h2 : ∀ σ' H', R σ' H' → u D σ' H') (h1 : ∀ nx : L2.St → Hp → Prop, (∀ σ' H', R σ' H' → nx σ' H') → t { D with nx := nx } σ H) : tSeq t u D σ H := h1 (u D) h2
end RR
namespace RR
open PySem PySem.Spec PyProof.Rows L2
theorem dvi (a b : Int) : decide (V.int a = V.int b) = decide (a = b) := decide_eq_decide.mpr ⟨fun h => by injection h, fun h => by rw [h]⟩
theorem dvb (a b : Bool) : decide (V.bl a = V.bl b) = decide (a = b) := decide_eq_decide.mpr ⟨fun h => by injection h, fun h => by rw [h]⟩
end RR

namespace RR
open PySem PySem.Spec PyProof.Rows L2
section
variable {X : Cx}
/-- name = {k: v for ..}, the keys ints or texts -/
theorem ps_setDc {i : Nat} {y : Str} {py : Pos} {kx vx tg iter : Expr} {ifs : List Expr} {scope : Scope} {own : List (Str × Nat)} {pos spos : Pos} {wi : TI} {g : TG} {tt : TT} {tk tv : TE} (hc : X.calm = true) (hN : X.N.Nodup) (hy : X.N[i]? = some y) (hyl : X.env.scope.names.lookup y = some .local)
    (hsw : swapsWith (.DictComp kx vx [⟨tg, iter, ifs, 0⟩] scope pos) (some (.Name y py)) spos.line X.env = pure true) (hi : PI X tg iter wi) (ok : BlkOk X.N X.env.scope scope own)
    (hg : ∀ (s : Shared) (H : Hp) (C : Addr) (cl : List (Str × Addr)) (fp : List Addr), PG (X.blk s H scope (compEnvC scope cl C X.env) fp) tg g)
    (ht : ∀ (s : Shared) (H : Hp) (C : Addr) (cl : List (Str × Addr)) (fp : List Addr), PTs (X.blk s H scope (compEnvC scope cl C X.env) fp) ifs tt)
    (hk : ∀ (s : Shared) (H : Hp) (C : Addr) (cl : List (Str × Addr)) (fp : List Addr), PE (X.blk s H scope (compEnvC scope cl C X.env) fp) kx tk)
    (hv : ∀ (s : Shared) (H : Hp) (C : Addr) (cl : List (Str × Addr)) (fp : List Addr), PE (X.blk s H scope (compEnvC scope cl C X.env) fp) vx tv)
    (hs : ∀ x, foldedSetIterable iter X.env x = pure x := by intro _; rfl) :
    PS X (.Assign [.Name y py] (.DictComp kx vx [⟨tg, iter, ifs, 0⟩] scope pos) spos) (tAsg (tDc wi g tt tk tv (own.map (·.2))) (gName i)) := by
  constructor
  intro pins s σ H D I reading
  rw [exec_Assign_Name_used _ _ _ _ hsw]
  refine wpAny_bind (wpAny_standAt (wpAny_bind ?_))
  have reading : tDc wi g tt tk tv (own.map (·.2)) σ H (fun x H1 => gName i x σ H1 D.nx) := reading
  show wpAny _ X.A (do let _ ← comprehension (.DictComp kx vx [⟨tg, iter, ifs, 0⟩] scope pos) scope X.env (firstIterPos [⟨tg, iter, ifs, 0⟩] pos) newDict false (eval iter X.env) (some (assign (.Name y py) X.env))) _ _ s
  refine wpAny_bind (thn (dc_core (Qf := fun _ s' => SP X pins D .next s') hc hN I hi ok hg ht hk hv hs reading ?_) fun _ s' q => wpAny_pure (wpAny_pure q))
  intro L C s' m H' I' q names ⟨f0, f1, f2, f3, f4, f5⟩
  show wpAny _ _ (assign (.Name y py) X.env (.ref L)) _ _ _
  refine wpAny_assign_Name (store_ok2 (v := V.ref L) I' hN hy (.inl hyl) rfl (fun s2 I2 ⟨a, but, ha⟩ => ?_) (.inr hyl))
  have apart : C ≠ a := by
    rcases ha with z | z
    · rw [z]
      exact f1
    · exact fun e => f4 y a z e.symm
  exact ⟨m, names.sameBut but apart, fun h3 but3 => ⟨_, H', I2.turned (t' := s2.toks) (fun b o hb e => (but3.2 b hb).trans e) f0 f1 f3 f4 f5, q⟩⟩
theorem sw_dict {kx vx : Expr} {gs : List Comprehension} {scope : Scope} {pos py : Pos} {y : Str} {l : Nat} {env : Env} (hk : env.scope.kind = .function) (hy : env.scope.names.lookup y = some .local) (hl : (py.line == pos.line) = true)
    (ha : (scope.names.any fun (n, k) => n == y && (k == .local || k == .cell)) = false) : swapsWith (.DictComp kx vx gs scope pos) (some (.Name y py)) l env = pure true := by
  have a : env.kindOf y = some .local := hy
  have b : env.blockKind = .function := by
    unfold Env.blockKind
    rw [hk]
    rfl
  unfold swapsWith
  simp only [b, a, ha, Expr.pos, hl]
  rfl
/-- over a walk -/
theorem dc_it {J : It} {n : Nat} {G : Hp → Prop} {Y : Nat → Hp → V → Hp → Prop} (w : Walk J n G Y) {g : TG} {tt : TT} {tk tv : TE} {vs : List Nat} {σ : L2.St} {H1 : Hp} {D : Addr} {Qd : Hp → Prop} (Pv : Nat → Hp → Prop) (h0 : Pv 0 (upd H1 D (.dK []))) (hG : ∀ i H, i ≤ n → Pv i H → G H)
    (hs : ∀ i x H H', i < n → Pv i H → Y i H x H' → g x (wipe σ vs) H' fun σ2 H2 => wipe σ2 vs = wipe σ vs ∧ tt σ2 H2 fun b H3 =>
      if b = true then tk σ2 H3 fun y H4 => tv σ2 H4 fun z H5 => ∃ ks k, y = kV k ∧ H5 D = some (.dK ks) ∧ ks.length < sizeLine ∧ Pv (i + 1) (upd H5 D (.dK (putK ks k z))) else Pv (i + 1) H3) (hd : ∀ H, Pv n H → Qd H) :
    ∃ W : Nat → Nat → Hp → Prop, (∃ m, W 0 m (upd H1 D (.dK []))) ∧ ∀ i m H, W i m H →
      (J.stop i H ∧ Qd H) ∨ (J.go i H ∧ ∃ Nx : Hp → Prop, (∀ H', Nx H' → ∃ m', m' < m ∧ W (i + 1) m' H') ∧ ∀ x H', J.yld i H x H' → g x (wipe σ vs) H' fun σ2 H2 => wipe σ2 vs = wipe σ vs ∧ tt σ2 H2 fun b H3 =>
        if b = true then tk σ2 H3 fun y H4 => tv σ2 H4 fun z H5 => ∃ ks k, y = kV k ∧ H5 D = some (.dK ks) ∧ ks.length < sizeLine ∧ Nx (upd H5 D (.dK (putK ks k z))) else Nx H3) := by
  refine ⟨fun i m H => m = n - i ∧ i ≤ n ∧ Pv i H, ⟨n, by simp, Nat.zero_le _, h0⟩, ?_⟩
  rintro i m H ⟨rfl, le, p⟩
  have gd := hG i H le p
  by_cases lt : i < n
  · exact .inr ⟨w.goes i H lt gd, Pv (i + 1), fun H' p' => ⟨n - (i + 1), by omega, rfl, lt, p'⟩, fun x H' y => hs i x H H' lt p (w.yields i H x H' lt gd y)⟩
  · obtain rfl : i = n := by omega
    exact .inl ⟨w.stops H gd, hd H p⟩
end
end RR
namespace RR
open PySem PySem.Spec PyProof.Rows L2
/-- dict(d), d a dict with keys ints and texts: a copy -/
theorem call_dictK {X : Cx} : CallR X (.type "dict") (fun xs H Q => ∃ (a : Addr) (ks : List (L2.Key × V)), xs = [.ref a] ∧ Rd H a (.dK ks) ∧ ∀ p, H p = none → Q (.ref p) (upd H p (.dK ks))) := by
  intro pins s σ H vs us Q I r h
  obtain ⟨a, ks, rfl, hd, q⟩ := h
  rw [Vals.ref1 r]
  exact d_copyOf I hd fun p s' np I' => ⟨.ref p, _, I', rfl, q p np⟩
end RR

namespace RR
open PySem PySem.Spec PyProof.Rows L2
/-! which names stand in a polynomial -/
def NmP (S : List Str) (p : Poly) : Prop := ∀ t ∈ p, ∀ x ∈ t.1, x ∈ S
theorem NmP.nz {S : List Str} {p : Poly} (h : NmP S p) : NmP S (nz p) := fun t ht => h t (nz_sub ht)
theorem NmP.app {S : List Str} {p r : Poly} (h : NmP S p) (g : NmP S r) : NmP S (p ++ r) := fun t ht => by
  rcases List.mem_append.mp ht with z | z
  · exact h t z
  · exact g t z
theorem NmP.sums {S : List Str} {ts : Poly} (h : NmP S ts) : NmP S (sums ts) := by
  have : ∀ (ts p : Poly), NmP S ts → NmP S p → NmP S (ts.foldl addP p) := by
    intro ts
    induction ts with
    | nil => exact fun p _ h => h
    | cons s ts ih =>
      intro p hs hp
      refine ih _ (fun t ht => hs t (List.mem_cons_of_mem _ ht)) fun t ht => ?_
      rcases mem_put ht with rfl | z
      · exact hs s (List.mem_cons_self ..)
      · exact hp t z
  exact this ts [] h fun t ht => (List.not_mem_nil ht).elim
theorem NmP.coll {S : List Str} {ts : Poly} (h : NmP S ts) : NmP S (coll ts) := h.sums.nz
theorem NmP.plus {S : List Str} {p r : Poly} (h : NmP S p) (g : NmP S r) : NmP S (plusP p r) := (h.app g).coll
theorem NmP.scl {S : List Str} {p : Poly} (h : NmP S p) (n : Int) : NmP S (sclP p n) := NmP.nz fun t ht => by
  obtain ⟨s, hs, rfl⟩ := List.mem_map.mp ht
  exact h s hs
theorem NmP.min {S : List Str} {p r : Poly} (h : NmP S p) (g : NmP S r) : NmP S (minP p r) := h.plus (g.scl _)
theorem NmP.con (S : List Str) (n : Int) : NmP S (conP n) := NmP.nz fun t ht => by
  rw [List.mem_singleton] at ht
  subst ht
  exact fun x hx => (List.not_mem_nil hx).elim
theorem NmP.var {S : List Str} {x : Str} (h : x ∈ S) : NmP S (varP x) := fun t ht y hy => by
  unfold varP at ht
  rw [List.mem_singleton] at ht
  subst ht
  rw [List.mem_singleton] at hy
  subst hy
  exact h
theorem NmP.mul {S : List Str} {p r : Poly} (h : NmP S p) (g : NmP S r) : NmP S (mulP p r) := NmP.coll fun t ht x hx => by
  unfold prods at ht
  obtain ⟨s, hs, ht⟩ := List.mem_flatMap.mp ht
  obtain ⟨u, hu, rfl⟩ := List.mem_map.mp ht
  rcases List.mem_append.mp ((srt_perm _).mem_iff.mp hx) with z | z
  · exact h s hs x z
  · exact g u hu x z
/-- small enough for its value to be worked out -/
structure Wk (S : List Str) (p : Poly) : Prop where
  nm : NmP S p
  bd : ∃ N L M, Bd N L M p ∧ L ≤ 100 ∧ M < 2 ^ 1000
theorem Wk.use {S : List Str} {p : Poly} (h : Wk S p) : ∀ t ∈ p, Sm 100000 t.2 ∧ t.1.length ≤ 100 ∧ ∀ x ∈ t.1, x ∈ S := by
  obtain ⟨nm, N, L, M, b, hL, hM⟩ := h
  exact fun t ht => ⟨(b.sm hM t ht).mono (by decide), Nat.le_trans (b.deg t ht) hL, nm t ht⟩
theorem oneP_wk {S : List Str} {x y a : Poly} (nx : NmP S x) (ny : NmP S y) (na : NmP S a) (bx : Md x) (by_ : Md y) (ba : Md a) : Wk S (oneP x y a) := by
  have b1 : Bd 1 0 1 (conP 1) := Bd.con 1
  have b3 := (ba.mul ba).min (b1.mono (Nat.le_refl _) (Nat.zero_le _) (show 1 ≤ 8 * 8 * (2 ^ 100 * 2 ^ 100) by decide +kernel))
  have b5 := b3.mul (by_.mul by_)
  have b6 := ((bx.mul bx).mono (Nat.le_refl _) (show 8 + 8 ≤ 8 + 8 + (8 + 8) by decide) (show 8 * 8 * (2 ^ 100 * 2 ^ 100) ≤ (8 * 8 + 1) * (8 * 8) * ((8 * 8 + 1) * (8 * 8 * (2 ^ 100 * 2 ^ 100)) * (8 * 8 * (2 ^ 100 * 2 ^ 100))) by decide +kernel)).min b5
  have b7 := b6.min (b1.mono (Nat.le_refl _) (Nat.zero_le _) (show 1 ≤ (8 * 8 + (8 * 8 + 1) * (8 * 8)) * ((8 * 8 + 1) * (8 * 8) * ((8 * 8 + 1) * (8 * 8 * (2 ^ 100 * 2 ^ 100)) * (8 * 8 * (2 ^ 100 * 2 ^ 100)))) by decide +kernel))
  exact ⟨((nx.mul nx).min (((na.mul na).min (NmP.con S 1)).mul (ny.mul ny))).min (NmP.con S 1), _, _, _, b7, by decide, by decide +kernel⟩
/-- a difference of products of two small ones -/
theorem lin_wk {S : List Str} {l p : Poly} {N L M : Nat} (nl : NmP S l) (np : NmP S p) (bl : Md l) (bp : Bd N L M p) (hN : N ≤ 1000) (hL : L ≤ 50) (hM : M ≤ 2 ^ 500) : Wk S (minP l p) := by
  have b := (bl.mono (Nat.le_refl _) (show 8 ≤ 50 by decide) (show 2 ^ 100 ≤ 2 ^ 500 by decide +kernel)).min (bp.mono hN hL hM)
  exact ⟨nl.min np, _, _, _, b, by decide, by decide +kernel⟩
theorem eqsP_wk {S : List Str} {k a : Poly} {P : Str → Poly} (nk : NmP S k) (na : NmP S a) (bk : Sd k) (ba : Sd a) (h : ∀ n ∈ nms, NmP S (P n) ∧ Sd (P n)) : ∀ p ∈ eqsP k a P, Wk S p := by
  have b1 : Bd 1 0 1 (conP 1) := Bd.con 1
  have hx := h "x" (by decide +kernel)
  have hy := h "y" (by decide +kernel)
  have hu := h "u" (by decide +kernel)
  have hv := h "v" (by decide +kernel)
  have hs := h "s" (by decide +kernel)
  have ht := h "t" (by decide +kernel)
  have hb := h "b" (by decide +kernel)
  have hr := h "r" (by decide +kernel)
  have hp := h "p" (by decide +kernel)
  have hq := h "q" (by decide +kernel)
  have hc := h "c" (by decide +kernel)
  have hd := h "d" (by decide +kernel)
  have he := h "e" (by decide +kernel)
  have b4 := hy.2.scl 4
  intro p hm
  unfold eqsP at hm
  simp only [List.mem_cons, List.not_mem_nil, or_false] at hm
  rcases hm with rfl | rfl | rfl | rfl | rfl | rfl | rfl | rfl | rfl
  · exact oneP_wk hx.1 hy.1 na hx.2.md hy.2.md ba.md
  · exact oneP_wk hu.1 hv.1 na hu.2.md hv.2.md ba.md
  · exact oneP_wk hs.1 ht.1 hb.1 hs.2.md ht.2.md hb.2.md
  · exact lin_wk hv.1 ((hr.1.plus (NmP.con S 1)).mul (hy.1.mul hy.1)) hv.2.md ((hr.2.plus (b1.mono (Nat.le_refl _) (Nat.zero_le _) (show 1 ≤ 2 ^ 90 by decide +kernel))).mul (hy.2.mul hy.2)) (by decide) (by decide) (by decide +kernel)
  · exact lin_wk hb.1 ((NmP.con S 1).plus (hp.1.mul (hy.1.scl 4))) hb.2.md ((b1.mono (Nat.le_refl _) (Nat.zero_le _) (show 1 ≤ 8 * 8 * (2 ^ 90 * (2 ^ 90 * (4 : Int).natAbs)) by decide +kernel)).plus (hp.2.mul b4)) (by decide) (by decide) (by decide +kernel)
  · exact lin_wk hb.1 (na.plus (hq.1.mul hu.1)) hb.2.md ((ba.mono (Nat.le_refl _) (show 8 ≤ 8 + 8 by decide) (show 2 ^ 90 ≤ 8 * 8 * (2 ^ 90 * 2 ^ 90) by decide +kernel)).plus (hq.2.mul hu.2)) (by decide) (by decide) (by decide +kernel)
  · exact lin_wk hs.1 (hx.1.plus (hc.1.mul hu.1)) hs.2.md ((hx.2.mono (Nat.le_refl _) (show 8 ≤ 8 + 8 by decide) (show 2 ^ 90 ≤ 8 * 8 * (2 ^ 90 * 2 ^ 90) by decide +kernel)).plus (hc.2.mul hu.2)) (by decide) (by decide) (by decide +kernel)
  · exact lin_wk ht.1 (nk.plus (hd.1.mul (hy.1.scl 4))) ht.2.md ((bk.mono (Nat.le_refl _) (show 8 ≤ 8 + 8 by decide) (show 2 ^ 90 ≤ 8 * 8 * (2 ^ 90 * (2 ^ 90 * (4 : Int).natAbs)) by decide +kernel)).plus (hd.2.mul b4)) (by decide) (by decide) (by decide +kernel)
  · exact lin_wk hy.1 (nk.plus he.1) hy.2.md (bk.plus he.2) (by decide) (by decide) (by decide +kernel)
theorem sd_con {n : Int} (h : Sm 80 n) : Sd (conP n) := (Bd.con n).mono (by decide) (by decide) (Nat.le_of_lt (Nat.lt_of_lt_of_le h (by decide +kernel)))
theorem sd_var (x : Str) : Sd (varP x) := (Bd.var x).mono (by decide) (by decide) (by decide +kernel)
/-- the equations, as equations between numbers -/
def eqI (k a : Int) (f : Str → Int) : Bool :=
  decide (f "x" * f "x" - (a * a - 1) * (f "y" * f "y") - 1 = 0) && (decide (f "u" * f "u" - (a * a - 1) * (f "v" * f "v") - 1 = 0) && (decide (f "s" * f "s" - (f "b" * f "b" - 1) * (f "t" * f "t") - 1 = 0) &&
  (decide (f "v" - (f "r" + 1) * (f "y" * f "y") = 0) && (decide (f "b" - (1 + f "p" * (f "y" * 4)) = 0) && (decide (f "b" - (a + f "q" * f "u") = 0) && (decide (f "s" - (f "x" + f "c" * f "u") = 0) &&
  (decide (f "t" - (k + f "d" * (f "y" * 4)) = 0) && decide (f "y" - (k + f "e") = 0))))))))
theorem eqsP_all (k a : Int) (f : Str → Int) : ((eqsP (conP k) (conP a) varP).all fun p => decide (evp f p = 0)) = eqI k a f := by
  unfold eqsP eqI oneP
  simp only [List.all_cons, List.all_nil, Bool.and_true, evp_eq, sumv_min, sumv_mul, sumv_plus, sumv_scl, sumv_con, sumv_var]
theorem eqsP_len (k a : Poly) (P : Str → Poly) : (eqsP k a P).length = 9 := rfl
/-! dicts with texts as keys -/
theorem putK_new {kz : List (L2.Key × V)} {k : L2.Key} (h : valV kz k = none) (v : V) : putK kz k v = kz ++ [(k, v)] := by
  unfold putK
  rw [if_neg]
  rw [valV_any, h]
  exact Bool.false_ne_true
theorem valV_snoc2 {kz : List (L2.Key × V)} {k j : L2.Key} (h : valV kz k = none) (v : V) : valV (kz ++ [(k, v)]) j = if j = k then some v else valV kz j := valV_snoc k j v kz h
end RR

namespace RR
open PySem PySem.Spec PyProof.Rows L2
/-! the numbers that force the index -/
structure W8 where
  x : Int
  y : Int
  u : Int
  v : Int
  b : Int
  r : Int
  p : Int
  q : Int
def nW (k : Nat) (a : Int) : Nat := 2 * k * (py a k).toNat
def qW (k : Nat) (a : Int) : Int := ((1 - a) * px a (nW k a)) % (4 * py a k)
def bW (k : Nat) (a : Int) : Int := a + qW k a * px a (nW k a)
def w8 (k : Nat) (a : Int) : W8 := ⟨px a k, py a k, px a (nW k a), py a (nW k a), bW k a, py a (nW k a) / (py a k * py a k) - 1, (bW k a - 1) / (4 * py a k), (bW k a - a) / px a (nW k a)⟩
def turnB (m u b : Int) : Int := if b % m = 1 then b else b + u
def iterB (m u : Int) : Nat → Int → Int
  | 0, b => b
  | n + 1, b => turnB m u (iterB m u n b)
def mod8 (st : Nat) (i : Nat) (a : Int) (w : W8) : W8 :=
  if st = 1 then
    let n := 4 * i * w.y.toNat
    let b := iterB (4 * w.y) (px a n) (4 * w.y).toNat a
    ⟨w.x, w.y, px a n, py a n, b, py a n / (w.y * w.y) - 1, (b - 1) / (4 * w.y), (b - a) / px a n⟩
  else if st = 2 then ⟨w.x, w.y, w.u, w.v, w.b + 4 * w.y * w.u, w.r, w.p + w.u, w.q + 4 * w.y⟩ else w
def eqV (k a x y u v s t b r p q c d e : Int) : Bool :=
  decide (x * x - (a * a - 1) * (y * y) - 1 = 0) && (decide (u * u - (a * a - 1) * (v * v) - 1 = 0) && (decide (s * s - (b * b - 1) * (t * t) - 1 = 0) &&
  (decide (v - (r + 1) * (y * y) = 0) && (decide (b - (1 + p * (y * 4)) = 0) && (decide (b - (a + q * u) = 0) && (decide (s - (x + c * u) = 0) &&
  (decide (t - (k + d * (y * 4)) = 0) && decide (y - (k + e) = 0))))))))
theorem eqI_V (k a : Int) (f : Str → Int) : eqI k a f = eqV k a (f "x") (f "y") (f "u") (f "v") (f "s") (f "t") (f "b") (f "r") (f "p") (f "q") (f "c") (f "d") (f "e") := rfl
/-- the law's try of another pair of b -/
def tr (k a : Int) (w : W8) (s t : Int) : Bool :=
  if s < w.x ∨ t < k ∨ w.y < k then false
  else decide (0 ≤ w.b) && (decide (0 ≤ w.r) && (decide (0 ≤ w.p) && (decide (0 ≤ w.q) && (decide (0 ≤ (s - w.x) / w.u) && eqV k a w.x w.y w.u w.v s t w.b w.r w.p w.q ((s - w.x) / w.u) ((t - k) / (4 * w.y)) (w.y - k)))))
def okJ (i a : Int) (w : W8) (j : Nat) (s t : Int) : Bool :=
  (tr i a w s t == (decide ((j : Int) = i) || (tr i a w s t && (decide (((j : Int) - i) % (4 * w.y) = 0) || decide (((j : Int) + i) % (4 * w.y) = 0))))) &&
  (List.range (w.y.toNat + 3)).all fun o => decide ((o : Int) = i) || (decide (o = 0) || !tr o a w s t)
def loopK (i a : Int) (w : W8) : Nat → Nat → Int → Int → Bool
  | 0, _, _, _ => true
  | f + 1, j, s, t => okJ i a w j s t && loopK i a w f (j + 1) (w.b * s + (w.b * w.b - 1) * t) (s + w.b * t)
def lastK (i : Nat) : Nat := [60, 24, 8].getD (i - 1) 0
def modK (i : Nat) : Nat := [4, 4, 2].getD (i - 1) 0
def chk43 : Bool := (List.range 3).all fun i => (List.range (modK (i + 1))).all fun m => (List.range 3).all fun st =>
  let w := mod8 st (i + 1) (m + 2) (w8 (i + 1) (m + 2))
  loopK (i + 1) (m + 2) w (lastK (i + 1)) 1 w.b 1 && tr (i + 1) (m + 2) w (px w.b (i + 1)) (py w.b (i + 1))
end RR
namespace RR
open PySem PySem.Spec PyProof.Rows L2
theorem chk43_ok : chk43 = true := by decide +kernel
theorem loopK_spec {i a : Int} {w : W8} : ∀ (f j : Nat), loopK i a w f j (px w.b j) (py w.b j) = true → ∀ k, j ≤ k → k < j + f → okJ i a w k (px w.b k) (py w.b k) = true
  | 0, j, _, k, h1, h2 => by omega
  | f + 1, j, h, k, h1, h2 => by
    unfold loopK at h
    rw [Bool.and_eq_true] at h
    by_cases e : k = j
    · subst e
      exact h.1
    · exact loopK_spec f (j + 1) (by rw [px1, py1]; exact h.2) k (by omega) (by omega)
theorem chk43_at {i m st : Nat} (hi : i < 3) (hm : m < modK (i + 1)) (hs : st < 3) : let w := mod8 st (i + 1) (m + 2) (w8 (i + 1) (m + 2))
    (∀ j, 1 ≤ j → j ≤ lastK (i + 1) → okJ (i + 1) (m + 2) w j (px w.b j) (py w.b j) = true) ∧ tr (i + 1) (m + 2) w (px w.b (i + 1)) (py w.b (i + 1)) = true := by
  have h := chk43_ok
  unfold chk43 at h
  have h1 := List.all_eq_true.mp h i (List.mem_range.mpr hi)
  have h2 := List.all_eq_true.mp h1 m (List.mem_range.mpr hm)
  have h3 := List.all_eq_true.mp h2 st (List.mem_range.mpr hs)
  rw [Bool.and_eq_true] at h3
  refine ⟨fun j j1 j2 => ?_, h3.2⟩
  refine loopK_spec (lastK (i + 1)) 1 ?_ j j1 (by omega)
  have e1 : px (mod8 st (i + 1) (m + 2) (w8 (i + 1) (m + 2))).b 1 = (mod8 st (i + 1) (m + 2) (w8 (i + 1) (m + 2))).b := by rw [px1, px0, py0]; omega
  have e2 : py (mod8 st (i + 1) (m + 2) (w8 (i + 1) (m + 2))).b 1 = 1 := by rw [py1, px0, py0]; omega
  rw [e1, e2]
  exact h3.1
/-! a dict of thirteen numbers -/
def kzOf (ns : List Str) (vs : List Int) : List (L2.Key × V) := ns.zipWith (fun n v => (Sum.inr n, V.int v)) vs
theorem valV_zip : ∀ {ns : List Str} {vs : List Int} {i : Nat} {n : Str} {v : Int}, ns.Nodup → ns[i]? = some n → vs[i]? = some v → valV (kzOf ns vs) (.inr n) = some (.int v)
  | [], _, _, _, _, _, h, _ => by simp at h
  | m :: ns, [], _, _, _, _, _, h => by simp at h
  | m :: ns, w :: vs, 0, n, v, _, h, g => by
    simp at h g
    subst h g
    exact valV_pos (p := (Sum.inr m, V.int w)) rfl
  | m :: ns, w :: vs, i + 1, n, v, nd, h, g => by
    rw [List.nodup_cons] at nd
    rw [List.getElem?_cons_succ] at h g
    have ne : m ≠ n := fun e => nd.1 (e ▸ List.mem_of_getElem? h)
    exact (valV_neg (p := (Sum.inr m, V.int w)) (fun e => ne (Sum.inr.inj e))).trans (valV_zip nd.2 h g)
theorem valV_none : ∀ {ns : List Str} {vs : List Int} {n : Str}, n ∉ ns → valV (kzOf ns vs) (.inr n) = none
  | [], _, _, _ => by unfold kzOf; rw [List.zipWith_nil_left]; rfl
  | _ :: _, [], _, _ => by unfold kzOf; rw [List.zipWith_nil_right]; rfl
  | m :: ns, w :: vs, n, h => by
    rw [List.mem_cons] at h
    exact (valV_neg (p := (Sum.inr m, V.int w)) (fun e => h (.inl (Sum.inr.inj e).symm))).trans (valV_none fun z => h (.inr z))
theorem map_put : ∀ {ns : List Str} {vs : List Int} {i : Nat} {n : Str} (z : Int), ns.Nodup → ns[i]? = some n → (kzOf ns vs).map (fun kv => if kv.1 = Sum.inr n then (kv.1, V.int z) else kv) = kzOf ns (vs.set i z)
  | [], _, _, _, _, _, h => by simp at h
  | m :: ns, [], _, _, _, _, _ => by simp [kzOf]
  | m :: ns, w :: vs, 0, n, z, nd, h => by
    simp at h
    subst h
    rw [List.nodup_cons] at nd
    unfold kzOf
    rw [List.set_cons_zero, List.zipWith_cons_cons, List.zipWith_cons_cons, List.map_cons, if_pos rfl]
    congr 1
    refine (List.map_congr_left (g := id) fun kv hkv => ?_).trans (List.map_id _)
    obtain ⟨k, hk⟩ := List.mem_iff_getElem?.mp hkv
    rw [List.getElem?_zipWith] at hk
    cases e : ns[k]? with
    | none => rw [e] at hk; simp at hk
    | some x =>
      cases e2 : vs[k]? with
      | none => rw [e, e2] at hk; simp at hk
      | some y =>
        rw [e, e2] at hk
        simp at hk
        subst hk
        exact if_neg fun q => nd.1 (by rw [← Sum.inr.inj q]; exact List.mem_of_getElem? e)
  | m :: ns, w :: vs, i + 1, n, z, nd, h => by
    rw [List.nodup_cons] at nd
    rw [List.getElem?_cons_succ] at h
    have ne : m ≠ n := fun e => nd.1 (e ▸ List.mem_of_getElem? h)
    have ih := map_put (vs := vs) z nd.2 h
    unfold kzOf at ih ⊢
    rw [List.set_cons_succ, List.zipWith_cons_cons, List.zipWith_cons_cons, List.map_cons, ih, if_neg (fun e => ne (Sum.inr.inj e))]
theorem put_zip {ns : List Str} {vs : List Int} {i : Nat} {n : Str} {w : Int} (z : Int) (nd : ns.Nodup) (h : ns[i]? = some n) (g : vs[i]? = some w) : putK (kzOf ns vs) (.inr n) (.int z) = kzOf ns (vs.set i z) := by
  unfold putK
  rw [if_pos (by rw [valV_any, valV_zip nd h g]; rfl), map_put z nd h]
theorem merge_new : ∀ (more ks : List (L2.Key × V)), ((ks ++ more).map (·.1)).Nodup → mergeK ks more = ks ++ more
  | [], ks, _ => (List.append_nil ks).symm
  | z :: more, ks, nd => by
    have e : putK ks z.1 z.2 = ks ++ [z] := by
      refine putK_new ?_ z.2
      cases h : valV ks z.1 with
      | none => rfl
      | some v =>
        exfalso
        unfold valV at h
        obtain ⟨kv, hf, _⟩ := Option.map_eq_some_iff.mp h
        have h1 := List.mem_of_find?_eq_some hf
        have h2 := of_decide_eq_true (List.find?_some (p := fun kv : L2.Key × V => decide (kv.1 = z.1)) hf)
        rw [List.map_append, List.nodup_append] at nd
        exact nd.2.2 kv.1 (List.mem_map.mpr ⟨kv, h1, rfl⟩) z.1 (by simp) h2
    show mergeK (putK ks z.1 z.2) more = _
    rw [e, merge_new more (ks ++ [z]) (by rw [List.append_assoc]; exact nd), List.append_assoc]
    rfl
theorem nms_nd : nms.Nodup := by decide +kernel
theorem kz_keys : ∀ (ns : List Str) (vs : List Int), ns.length = vs.length → (kzOf ns vs).map (·.1) = ns.map Sum.inr
  | [], [], _ => rfl
  | n :: ns, v :: vs, h => by
    unfold kzOf
    rw [List.zipWith_cons_cons, List.map_cons, List.map_cons]
    congr 1
    exact kz_keys ns vs (by simpa using h)
theorem merge_kz {vs : List Int} (h : vs.length = 13) : mergeK [] (kzOf nms vs) = kzOf nms vs := by
  rw [merge_new _ _ (by rw [List.nil_append, kz_keys _ _ (by rw [h]; rfl)]; exact List.pairwise_map.mpr (nms_nd.imp fun h e => h (Sum.inr.inj e))), List.nil_append]
end RR
namespace RR
open PySem PySem.Spec PyProof.Rows L2
theorem cdiv_of {i j : Int} (h : 0 < j) (s : Sm 9000 j) : CDivW i j := ⟨h, (Nat.log2_lt (by omega)).mpr s⟩
end RR
namespace RR
open PySem PySem.Spec PyProof.Rows L2
def smB (n : Nat) (x : Int) : Bool := Nat.blt x.natAbs (2 ^ n)
theorem smB_ok {n : Nat} {x : Int} (h : smB n x = true) : Sm n x := Nat.blt_eq.mp h
def wA (i m st : Nat) : W8 := mod8 st (i + 1) (m + 2) (w8 (i + 1) (m + 2))
def chkF1 (k : Nat) (a : Int) : Bool := smB 9000 (px a k) && (smB 9000 (px a (nW k a)) && (smB 9000 (bW k a) && (smB 9000 (px (bW k a) k) && (decide (2 ≤ bW k a) && (Nat.blt (nW k a) (2 ^ 100) && (smB 4000 (py a k) && (smB 9000 (px a (4 * k * (py a k).toNat)) && (Nat.blt (4 * k * (py a k).toNat) (2 ^ 100) && decide (py a k < 100)))))))))
def chkF2 (w : W8) (l : Nat) : Bool := decide (2 ≤ w.b) && (smB 9000 w.b && (smB 10000 (px w.b l) && (decide (0 < w.u) && (decide (0 < w.y) && (decide (0 ≤ w.x) && (decide (0 ≤ w.v) && (smB 9000 w.u && (smB 4000 w.y && (smB 90000 w.x && (smB 90000 w.v && (smB 90000 w.r && (smB 90000 w.p && smB 90000 w.q))))))))))))
def chkF : Bool := (List.range 3).all fun i => (List.range (modK (i + 1))).all fun m => chkF1 (i + 1) (m + 2) && (List.range 3).all fun st => chkF2 (wA i m st) (lastK (i + 1))
theorem chkF_ok : chkF = true := by decide +kernel
theorem chkF_at {i m : Nat} (hi : i < 3) (hm : m < modK (i + 1)) : chkF1 (i + 1) (m + 2) = true ∧ ∀ st, st < 3 → chkF2 (wA i m st) (lastK (i + 1)) = true := by
  have h := chkF_ok
  unfold chkF at h
  have h1 := List.all_eq_true.mp h i (List.mem_range.mpr hi)
  have h2 := List.all_eq_true.mp h1 m (List.mem_range.mpr hm)
  rw [Bool.and_eq_true] at h2
  exact ⟨h2.1, fun st hs => List.all_eq_true.mp h2.2 st (List.mem_range.mpr hs)⟩
theorem chkF1_of {k : Nat} {a : Int} (h : chkF1 k a = true) : Sm 9000 (px a k) ∧ Sm 9000 (px a (nW k a)) ∧ Sm 9000 (bW k a) ∧ Sm 9000 (px (bW k a) k) ∧ 2 ≤ bW k a ∧ nW k a < 2 ^ 100 ∧ Sm 4000 (py a k) ∧ Sm 9000 (px a (4 * k * (py a k).toNat)) ∧ 4 * k * (py a k).toNat < 2 ^ 100 ∧ py a k < 100 := by
  unfold chkF1 at h
  simp only [Bool.and_eq_true, decide_eq_true_eq] at h
  obtain ⟨h1, h2, h3, h4, h5, h6, h7, h8, h9, h10⟩ := h
  exact ⟨smB_ok h1, smB_ok h2, smB_ok h3, smB_ok h4, h5, Nat.blt_eq.mp h6, smB_ok h7, smB_ok h8, Nat.blt_eq.mp h9, h10⟩
theorem chkF2_of {w : W8} {l : Nat} (h : chkF2 w l = true) : 2 ≤ w.b ∧ Sm 9000 w.b ∧ Sm 10000 (px w.b l) ∧ 0 < w.u ∧ 0 < w.y ∧ 0 ≤ w.x ∧ 0 ≤ w.v ∧ Sm 9000 w.u ∧ Sm 4000 w.y ∧ Sm 90000 w.x ∧ Sm 90000 w.v ∧ Sm 90000 w.r ∧ Sm 90000 w.p ∧ Sm 90000 w.q := by
  unfold chkF2 at h
  simp only [Bool.and_eq_true, decide_eq_true_eq] at h
  obtain ⟨h1, h2, h3, h4, h5, h6, h7, h8, h9, h10, h11, h12, h13, h14⟩ := h
  exact ⟨h1, smB_ok h2, smB_ok h3, h4, h5, h6, h7, smB_ok h8, smB_ok h9, smB_ok h10, smB_ok h11, smB_ok h12, smB_ok h13, smB_ok h14⟩
end RR
namespace RR
open PySem PySem.Spec PyProof.Rows L2
theorem kz_get {H1 : Hp} {D : Addr} {vs : List Int} {n : Str} {v : Int} (i : Nat) (h : H1 D = some (.dK (kzOf nms vs))) (g : nms[i]? = some n) (l : vs[i]? = some v) : DGet H1 D (kV (.inr n)) (some (.int v)) := .inl ⟨_, _, .inl h, rfl, (valV_zip nms_nd g l).symm⟩
theorem kz_put {H1 : Hp} {D : Addr} {vs : List Int} {n : Str} {v : Int} (i : Nat) (z : Int) (h : H1 D = some (.dK (kzOf nms vs))) (g : nms[i]? = some n) (l : vs[i]? = some v) : DPut H1 D (kV (.inr n)) (.int z) (upd H1 D (.dK (kzOf nms (vs.set i z)))) := by
  have := DPut.k (v := .int z) (k := .inr n) h (sz_lt (by unfold kzOf; rw [List.length_zipWith]; exact Nat.le_trans (Nat.min_le_left ..) (by decide)))
  rw [put_zip z nms_nd g l] at this
  exact this
end RR
namespace RR
open PySem PySem.Spec PyProof.Rows L2
def vsW (k : Nat) (a : Int) : List Int := [px a k, py a k, px a (nW k a), py a (nW k a), px (bW k a) k, py (bW k a) k, bW k a, (w8 k a).r, (w8 k a).p, (w8 k a).q, (px (bW k a) k - px a k) / px a (nW k a), (py (bW k a) k - k) / (4 * py a k), py a k - k]
end RR

namespace RR
open PySem PySem.Spec PyProof.Rows L2
/-- bits -/
def bl (n : Nat) : Nat := Builtin.Int.intBits (n : Int)
theorem bl_lt (n : Nat) : n < 2 ^ bl n := by
  have h : Sm (bl n) (n : Int) := sm_bits (Nat.le_refl _)
  unfold Sm at h
  rwa [Int.natAbs_natCast] at h
theorem bl_le {n : Nat} (h : 1 ≤ n) : 2 ^ (bl n - 1) ≤ n := by
  unfold bl Builtin.Int.intBits
  split
  · rename_i e
    have e0 : (n : Int) = 0 := by simpa using e
    omega
  · rw [Nat.add_sub_cancel, Int.natAbs_natCast]
    exact Nat.log2_self_le (by omega)
theorem div_zero {n b p : Nat} (hb : 1 ≤ b) (h : bl n ≤ (bl b - 1) * p) : n / b ^ p = 0 := by
  refine Nat.div_eq_of_lt (Nat.lt_of_lt_of_le (bl_lt n) (Nat.le_trans (Nat.pow_le_pow_right (by omega) h) ?_))
  rw [Nat.pow_mul]
  exact Nat.pow_le_pow_left (bl_le hb) p
theorem half_pow (e L i : Nat) (h : i < L) : e / 2 ^ (L - i) = e / 2 ^ (L - 1 - i) / 2 := by
  rw [Nat.div_div_eq_div_mul, ← Nat.pow_succ]
  congr 2
  omega
theorem ch_rec (b k : Nat) : (ch b (k + 1) : Int) = (ch b k : Int) * ((b : Int) - k) / (k + 1) := by
  have e1 := fall_ch b k
  have e2 := fall_ch b (k + 1)
  have e3 : fall (b : Int) (k + 1) = fall b k * (b - k) := rfl
  have e5 : (fac (k + 1) : Int) = ((k : Int) + 1) * (fac k : Int) := by
    show (((k + 1) * fac k : Nat) : Int) = _
    push_cast
    rfl
  rw [e3, e1, e5] at e2
  have f0 : (fac k : Int) ≠ 0 := by have := fac_pos k; omega
  have e6 : (ch b k : Int) * ((b : Int) - k) = (ch b (k + 1) : Int) * ((k : Int) + 1) := by
    refine Int.eq_of_mul_eq_mul_right f0 ?_
    grind
  rw [e6, Int.mul_ediv_cancel _ (by omega)]
/-- the row by its own rule -/
def pd (b : Nat) : Nat → Nat
  | 0 => 1
  | k + 1 => pd b k * (b - k) / (k + 1)
theorem pd_ch {b : Nat} : ∀ k : Nat, k ≤ b → pd b k = ch b k := by
  intro k
  induction k with
  | zero => intro _; unfold ch pd; rfl
  | succ k ih =>
    intro h
    show pd b k * (b - k) / (k + 1) = _
    rw [ih (by omega)]
    have := ch_rec b k
    have e : (((ch b k * (b - k) / (k + 1) : Nat)) : Int) = (ch b (k + 1) : Int) := by
      rw [this]
      push_cast
      rw [Int.ofNat_sub (by omega)]
    omega
def hp (b u : Nat) : Nat → Nat
  | 0 => 0
  | k + 1 => hp b u k * u + pd b (b - k)
def hz (b u : Nat) : Nat → Nat
  | 0 => 0
  | k + 1 => hz b u k * u + ch b (b - k)
theorem hp_hz (b u : Nat) : ∀ k, hp b u k = hz b u k := by
  intro k
  induction k with
  | zero => rfl
  | succ k ih =>
    show hp b u k * u + pd b (b - k) = hz b u k * u + ch b (b - k)
    rw [ih, pd_ch _ (Nat.sub_le _ _)]
theorem hp_ok : (List.range 25).all (fun b => (List.range 26).all (fun k => decide (hp b (2 ^ (b + 1)) k < 2 ^ 2000)) && hp b (2 ^ (b + 1)) (b + 1) == (2 ^ (b + 1) + 1) ^ b) = true := by decide +kernel
theorem hz_end {b : Nat} (h : b < 25) : hz b (2 ^ (b + 1)) (b + 1) = (2 ^ (b + 1) + 1) ^ b := by
  have := List.all_eq_true.mp hp_ok b (List.mem_range.mpr h)
  rw [Bool.and_eq_true] at this
  rw [← hp_hz]
  exact eq_of_beq this.2
theorem hz_lt {b k : Nat} (h : b < 25) (hk : k < 26) : hz b (2 ^ (b + 1)) k < 2 ^ 2000 := by
  have := List.all_eq_true.mp hp_ok b (List.mem_range.mpr h)
  rw [Bool.and_eq_true] at this
  rw [← hp_hz]
  exact of_decide_eq_true (List.all_eq_true.mp this.1 k (List.mem_range.mpr hk))
/-- the row as the list holds it -/
def rowV (b n : Nat) : List V := (List.range n).map fun k => V.int (ch b k : Int)
theorem rowV_len (b n : Nat) : (rowV b n).length = n := by
  unfold rowV
  rw [List.length_map, List.length_range]
theorem rowV_at {b n k : Nat} (h : k < n) : (rowV b n)[k]? = some (V.int (ch b k : Int)) := by
  unfold rowV
  rw [List.getElem?_map, List.getElem?_range h]
  rfl
theorem rowV_succ (b n : Nat) : rowV b (n + 1) = rowV b n ++ [V.int (ch b n : Int)] := by
  unfold rowV
  rw [List.range_succ, List.map_append]
  rfl
def toV (l : List Nat) : List V := l.map fun (d : Nat) => V.int (d : Int)
theorem toV_len (l : List Nat) : (toV l).length = l.length := by
  unfold toV
  rw [List.length_map]
theorem toV_app (l m : List Nat) : toV (l ++ m) = toV l ++ toV m := by
  unfold toV
  rw [List.map_append]
theorem toV_at {l : List Nat} {j d : Nat} (h : l[j]? = some d) : (toV l)[j]? = some (V.int (d : Int)) := by
  unfold toV
  rw [List.getElem?_map, h]
  rfl
/-- [.. for k in range(n)] -/
theorem lc_rng {n : Nat} {g : TG} {tt : TT} {te : TE} {vs : List Nat} {σ : L2.St} {H1 : Hp} {D : Addr} {Qd : Hp → Prop} (Pv : Nat → Hp → Prop) (h0 : Pv 0 (upd H1 D (.lst [])))
    (hs : ∀ (i : Nat) H, i < n → Pv i H → g (.int (i : Int)) (wipe σ vs) H fun σ2 H2 => wipe σ2 vs = wipe σ vs ∧ tt σ2 H2 fun b H3 =>
      if b = true then te σ2 H3 fun y H4 => ∃ acc, H4 D = some (.lst acc) ∧ acc.length < sizeLine ∧ Pv (i + 1) (upd H4 D (.lst (acc ++ [y]))) else Pv (i + 1) H3) (hd : ∀ H, Pv n H → Qd H) :
    ∃ W : Nat → Nat → Hp → Prop, (∃ m, W 0 m (upd H1 D (.lst []))) ∧ ∀ i m H, W i m H →
      ((Itr 0 n).stop i H ∧ Qd H) ∨ ((Itr 0 n).go i H ∧ ∃ Nx : Hp → Prop, (∀ H', Nx H' → ∃ m', m' < m ∧ W (i + 1) m' H') ∧ ∀ x H', (Itr 0 n).yld i H x H' → g x (wipe σ vs) H' fun σ2 H2 => wipe σ2 vs = wipe σ vs ∧ tt σ2 H2 fun b H3 =>
        if b = true then te σ2 H3 fun y H4 => ∃ acc, H4 D = some (.lst acc) ∧ acc.length < sizeLine ∧ Nx (upd H4 D (.lst (acc ++ [y]))) else Nx H3) :=
  lc_range (lo := 0) (n := n) Pv h0 (fun i H hi p => by rw [Int.zero_add]; exact hs i H hi p) hd
theorem layAll (l : List Nat) : PyData.canLayAll0 (l.map fun (k : Nat) => PyData.int (k : Int)) = true := by
  induction l with
  | nil => rfl
  | cons x l ih => simp only [List.map_cons, PyData.canLayAll0, PyData.canLay0, ih, Bool.and_true]
theorem depthAll (l : List Nat) : PyData.depthAll (l.map fun (k : Nat) => PyData.int (k : Int)) ≤ 1 := by
  induction l with
  | nil => decide
  | cons x l ih =>
    simp only [List.map_cons, PyData.depthAll, PyData.depth]
    omega
theorem ints_shaped (l : List Nat) : SeqAt.shaped (.list (l.map fun (k : Nat) => PyData.int (k : Int))) = true := by
  unfold SeqAt.shaped
  have h1 : PyData.canLay0 (.list (l.map fun (k : Nat) => PyData.int (k : Int))) = true := by
    simp only [PyData.canLay0, layAll]
  have h2 := depthAll l
  rw [h1, Bool.true_and]
  refine decide_eq_true ?_
  simp only [PyData.depth]
  omega
theorem ints_dp {K : PySem.W.Frag} {H : Hp} (l : List Nat) : DpAll K H (toV l) (l.map fun (k : Nat) => PyData.int (k : Int)) := by
  induction l with
  | nil => exact .nil
  | cons x l ih => exact .cons (.int _) ih
/-- a number by its digits -/
def val (b : Nat) : List Nat → Nat
  | [] => 0
  | d :: r => d + b * val b r
theorem val_lt {b : Nat} : ∀ ds : List Nat, (∀ d ∈ ds, d < b) → val b ds < b ^ ds.length := by
  intro ds
  induction ds with
  | nil => intro _; show 0 < 1; omega
  | cons d r ih =>
    intro h
    have h1 := ih fun x hx => h x (List.mem_cons_of_mem _ hx)
    have h2 := h d List.mem_cons_self
    show d + b * val b r < b ^ (r.length + 1)
    rw [Nat.pow_succ]
    have : b * (val b r + 1) ≤ b * b ^ r.length := Nat.mul_le_mul_left b h1
    rw [Nat.mul_add, Nat.mul_one] at this
    rw [Nat.mul_comm (b ^ r.length) b]
    omega
theorem val_drop {b : Nat} {ds : List Nat} {k d : Nat} (h : ds[k]? = some d) : val b (ds.drop k) = d + b * val b (ds.drop (k + 1)) := by
  obtain ⟨hl, e⟩ := List.getElem?_eq_some_iff.mp h
  rw [List.drop_eq_getElem_cons hl, e]
  rfl
theorem val_div {b : Nat} (hb : 0 < b) : ∀ (k : Nat) (ds : List Nat), (∀ d ∈ ds, d < b) → val b ds / b ^ k = val b (ds.drop k) := by
  intro k
  induction k with
  | zero => intro ds _; rw [Nat.pow_zero, Nat.div_one, List.drop_zero]
  | succ k ih =>
    intro ds h
    match ds, h with
    | [], _ => rw [List.drop_nil]; exact Nat.zero_div _
    | d :: r, h =>
      rw [Nat.pow_succ, Nat.mul_comm, ← Nat.div_div_eq_div_mul]
      have h2 := h d List.mem_cons_self
      have e : val b (d :: r) / b = val b r := by
        show (d + b * val b r) / b = _
        rw [Nat.add_mul_div_left _ _ hb, Nat.div_eq_of_lt h2, Nat.zero_add]
      rw [e, ih r fun x hx => h x (List.mem_cons_of_mem _ hx)]
      rfl
theorem val_at {b : Nat} (hb : 0 < b) {ds : List Nat} {k d : Nat} (hd : ∀ x ∈ ds, x < b) (h : ds[k]? = some d) : val b ds / b ^ k % b = d := by
  rw [val_div hb k ds hd, val_drop h, Nat.add_mul_mod_self_left, Nat.mod_eq_of_lt (hd d (List.mem_of_getElem? h))]
theorem val_beyond {b : Nat} (hb : 0 < b) {ds : List Nat} {k : Nat} (hd : ∀ x ∈ ds, x < b) (h : ds.length ≤ k) : val b ds / b ^ k % b = 0 := by
  rw [val_div hb k ds hd, List.drop_eq_nil_of_le h]
  exact Nat.zero_mod _
end RR

namespace RR
open PySem PySem.Spec PyProof.Rows L2
theorem andU_half (x y : Nat) : (x &&& y) / 2 = x / 2 &&& y / 2 := by
  have := Nat.shiftRight_and_distrib (a := x) (b := y) (i := 1)
  simpa [Nat.shiftRight_eq_div_pow] using this
theorem andU_mod (x y : Nat) : (x &&& y) % 2 = x % 2 * (y % 2) := by
  have h : (x &&& y).testBit 0 = (x.testBit 0 && y.testBit 0) := Nat.testBit_and ..
  rw [Nat.testBit_zero, Nat.testBit_zero, Nat.testBit_zero] at h
  rcases Nat.mod_two_eq_zero_or_one x with hx | hx <;> rcases Nat.mod_two_eq_zero_or_one y with hy | hy <;> rcases Nat.mod_two_eq_zero_or_one (x &&& y) with hz | hz <;> simp [hx, hy, hz] at h ⊢
/-- under -/
def ndrU : Nat → Nat → Nat → Bool
  | 0, _, _ => true
  | f + 1, a, b => !(decide (a % 2 > b % 2)) && ndrU f (a / 2) (b / 2)
theorem ndrU_and : ∀ (f a b : Nat), a < 2 ^ f → ndrU f a b = (a &&& b == a) := by
  intro f
  induction f with
  | zero =>
    intro a b h
    have : a = 0 := by omega
    subst this
    simp [ndrU]
  | succ f ih =>
    intro a b h
    have i := ih (a / 2) (b / 2) (by rw [Nat.pow_succ] at h; omega)
    have h1 := andU_half a b
    have h2 := andU_mod a b
    show (!(decide (a % 2 > b % 2)) && ndrU f (a / 2) (b / 2)) = _
    rw [i]
    have key : (a &&& b = a) ↔ ((a &&& b) % 2 = a % 2 ∧ (a &&& b) / 2 = a / 2) := by omega
    rw [Bool.eq_iff_iff]
    simp only [Bool.and_eq_true, Bool.not_eq_true', decide_eq_false_iff_not, beq_iff_eq]
    rw [key, h1, h2]
    rcases Nat.mod_two_eq_zero_or_one a with hx | hx <;> rcases Nat.mod_two_eq_zero_or_one b with hy | hy <;> rw [hx, hy] <;> simp
theorem und_step (x y : Nat) : (x &&& y == x) = (!(decide (x % 2 > y % 2)) && (x / 2 &&& y / 2 == x / 2)) := by
  have h1 : x < 2 ^ (x + 1) := Nat.lt_trans (Nat.lt_succ_self x) Nat.lt_two_pow_self
  have h2 : x / 2 < 2 ^ x := Nat.lt_of_le_of_lt (Nat.div_le_self ..) Nat.lt_two_pow_self
  rw [← ndrU_and (x + 1) x y h1, ← ndrU_and x (x / 2) (y / 2) h2]
  rfl
def undI (a b : Int) : Bool := decide (0 ≤ a) && (decide (0 ≤ b) && (a.toNat &&& b.toNat == a.toNat))
/-! members of a row for any base -/
def ry (a : Int) : Nat → Int
  | 0 => 0
  | 1 => 1
  | n + 2 => 2 * a * ry a (n + 1) - ry a n
theorem ry_py {a : Int} : ∀ n, ry a n = py a n
  | 0 => by rw [py0]; rfl
  | 1 => by rw [py1, px0, py0]; show (1 : Int) = _; omega
  | n + 2 => by
    show 2 * a * ry a (n + 1) - ry a n = _
    rw [ry_py (n + 1), ry_py n, py_rec]
theorem ry_sm {a : Int} (ha : Sm 10 a) : ∀ n, Sm (12 * n + 1) (ry a n) ∧ Sm (12 * (n + 1) + 1) (ry a (n + 1))
  | 0 => ⟨show (0 : Int).natAbs < 2 ^ 1 by decide, show (1 : Int).natAbs < 2 ^ 13 by decide⟩
  | n + 1 => by
    obtain ⟨h1, h2⟩ := ry_sm ha n
    refine ⟨h2, ?_⟩
    show Sm _ (2 * a * ry a (n + 1) - ry a n)
    have h0 : Sm 11 (2 * a) := by
      unfold Sm at ha ⊢
      omega
    have h3 : Sm (11 + (12 * (n + 1) + 1)) (2 * a * ry a (n + 1)) := h0.mul h2
    unfold Sm at h1 h3 ⊢
    rw [Nat.pow_succ] at h1
    rw [show 11 + (12 * (n + 1) + 1) = 12 * n + 24 by omega, Nat.pow_add] at h3
    rw [show 12 * (n + 1 + 1) + 1 = 12 * n + 25 by omega, Nat.pow_add]
    generalize 2 ^ (12 * n) = T at h1 h3 ⊢
    omega
end RR
namespace RR
open PySem PySem.Spec PyProof.Rows L2
/-! a member by doubling: below and at twice the index -/
theorem ry_add (a : Int) (m : Nat) : ∀ n, ry a (m + n + 1) = ry a (m + 1) * ry a (n + 1) - ry a m * ry a n
  | 0 => by
    show ry a (m + 1) = ry a (m + 1) * 1 - ry a m * 0
    omega
  | 1 => by
    show 2 * a * ry a (m + 1) - ry a m = ry a (m + 1) * (2 * a * 1 - 0) - ry a m * 1
    rw [Int.mul_one, Int.mul_one, Int.sub_zero, Int.mul_comm]
  | n + 2 => by
    have h1 := ry_add a m (n + 1)
    have h2 := ry_add a m n
    show 2 * a * ry a (m + n + 2) - ry a (m + n + 1) = ry a (m + 1) * (2 * a * ry a (n + 2) - ry a (n + 1)) - ry a m * (2 * a * ry a (n + 1) - ry a n)
    rw [show m + n + 2 = m + (n + 1) + 1 by omega, h1, h2]
    grind
end RR
namespace RR
open PySem PySem.Spec PyProof.Rows L2
theorem ry_low {a : Int} {m : Nat} (h : 1 ≤ m) : ry a m * ry a m - ry a (m - 1) * ry a (m - 1) = ry a (2 * m - 1) := by
  obtain ⟨t, rfl⟩ : ∃ t, m = t + 1 := ⟨m - 1, by omega⟩
  rw [show 2 * (t + 1) - 1 = t + t + 1 by omega, ry_add, show t + 1 - 1 = t from rfl]
theorem ry_twice {a : Int} {m : Nat} (h : 1 ≤ m) : 2 * ry a m * (a * ry a m - ry a (m - 1)) = ry a (2 * m) := by
  obtain ⟨t, rfl⟩ : ∃ t, m = t + 1 := ⟨m - 1, by omega⟩
  rw [show 2 * (t + 1) = t + (t + 1) + 1 by omega, ry_add, show t + 1 - 1 = t from rfl, show ry a (t + 1 + 1) = 2 * a * ry a (t + 1) - ry a t from rfl]
  grind
theorem ry_next {a : Int} {m : Nat} (h : 1 ≤ m) : 2 * a * ry a (2 * m) - ry a (2 * m - 1) = ry a (2 * m + 1) := by
  obtain ⟨t, ht⟩ : ∃ t, 2 * m = t + 1 := ⟨2 * m - 1, by omega⟩
  rw [ht]
  rfl
end RR
namespace RR
open PySem PySem.Spec PyProof.Rows L2
theorem ry_big {a : Int} {s : Nat} (a2 : 2 ≤ a) (hs : ((2 ^ s : Nat) : Int) ≤ 2 * a - 1) : ∀ n, 0 ≤ ry a n ∧ ry a n ≤ ry a (n + 1) ∧ ((2 ^ (s * n) : Nat) : Int) ≤ ry a (n + 1)
  | 0 => ⟨Int.le_refl 0, show (0 : Int) ≤ 1 by decide, by rw [Nat.mul_zero]; exact Int.le_refl 1⟩
  | n + 1 => by
    obtain ⟨h0, h1, h2⟩ := ry_big a2 hs n
    have e : ry a (n + 2) = (2 * a - 1) * ry a (n + 1) + (ry a (n + 1) - ry a n) := by
      show 2 * a * ry a (n + 1) - ry a n = _
      grind
    have p1 : 1 * ry a (n + 1) ≤ (2 * a - 1) * ry a (n + 1) := Int.mul_le_mul_of_nonneg_right (by omega) (by omega)
    have p2 : ((2 ^ s : Nat) : Int) * ((2 ^ (s * n) : Nat) : Int) ≤ (2 * a - 1) * ry a (n + 1) := Int.mul_le_mul hs h2 (Int.natCast_nonneg _) (by omega)
    have e2 : ((2 ^ (s * (n + 1)) : Nat) : Int) = ((2 ^ s : Nat) : Int) * ((2 ^ (s * n) : Nat) : Int) := by
      rw [Nat.mul_succ, Nat.add_comm, Nat.pow_add]
      push_cast
      rfl
    refine ⟨by omega, ?_, ?_⟩
    · show ry a (n + 1) ≤ ry a (n + 2)
      omega
    · show _ ≤ ry a (n + 2)
      omega
end RR
namespace RR
open PySem PySem.Spec PyProof.Rows L2
theorem ixL_at {K : PySem.W.Frag} {H : Hp} {Q : VK} {p : Addr} {xs : List V} {i : Int} {v : V} (h : H p = some (.lst xs)) (e : atI xs i = some v) (q : Q v H) : rIxL K (.ref p) (.int i) H Q := ⟨p, xs, i, v, rfl, rfl, .inl (.inl h), e, q⟩
end RR

namespace RR
open PySem PySem.Spec PyProof.Rows L2
/-- what stood stands, but at p -/
def Ex (p : Addr) (H H' : Hp) : Prop := ∀ b o, b ≠ p → H b = some o → H' b = some o
theorem Ex.rfl' {p : Addr} {H : Hp} : Ex p H H := fun _ _ _ e => e
theorem Ex.trans {p : Addr} {H H1 H2 : Hp} (a : Ex p H H1) (b : Ex p H1 H2) : Ex p H H2 := fun x o n e => b x o n (a x o n e)
theorem Ex.of {p : Addr} {H H' : Hp} (s : Same H H') : Ex p H H' := fun b o _ e => s b o e
theorem Ex.free {p a : Addr} {H H' : Hp} (s : Ex p H H') (hp : H' p ≠ none) (h : H' a = none) : H a = none := by
  cases e : H a with
  | none => rfl
  | some o =>
    have n : a ≠ p := fun z => hp (by rw [← z]; exact h)
    rw [s a o n e] at h
    cases h
/-- the drawn numbers at l, the place at p -/
structure TK (H : Hp) (l p : Addr) (ns : List Nat) : Prop where
  l_ : H l = some (.lst (toV ns))
  ne : l ≠ p
  len : ns.length ≤ 1000
  at_ : ∃ i : Nat, H p = some (.lst [.int i])
  lt : ∀ n ∈ ns, n < 1000
theorem TK.keep {H H' : Hp} {l p : Addr} {ns : List Nat} (h : TK H l p ns) (s : Same H H') : TK H' l p ns := ⟨s _ _ h.l_, h.ne, h.len, let ⟨i, e⟩ := h.at_; ⟨i, s _ _ e⟩, h.lt⟩
theorem TK.pn {H : Hp} {l p : Addr} {ns : List Nat} (h : TK H l p ns) : H p ≠ none := fun z => by
  obtain ⟨i, e⟩ := h.at_
  rw [z] at e
  cases e
theorem TK.newp {H : Hp} {l p : Addr} {ns : List Nat} (h : TK H l p ns) {a : Addr} (n : H a = none) : a ≠ p := fun z => h.pn (by rw [← z]; exact n)
theorem TK.new {H : Hp} {l p : Addr} {ns : List Nat} (h : TK H l p ns) {a : Addr} {o : HO} (n : H a = none) : TK (upd H a o) l p ns ∧ Ex p H (upd H a o) ∧ (upd H a o) a = some o ∧ a ≠ p := ⟨h.keep (same_upd n), Ex.of (same_upd n), upd_same, h.newp n⟩
/-- an element of a new tuple or list of ints -/
theorem ixT_any {K : PySem.W.Frag} {H : Hp} {Q : VK} {p : Addr} {xs : List V} {i : Int} {zs : List Int} (e : xs = zs.map V.int) (h0 : 0 ≤ i) (h1 : i < zs.length) (hp : H p = some (.tup xs)) (q : ∀ z ∈ zs, Q (.int z) H) : rIxT K (.ref p) (.int i) H Q := by
  obtain ⟨j, rfl⟩ : ∃ j : Nat, i = j := ⟨i.toNat, by omega⟩
  have hj : j < zs.length := by omega
  subst e
  exact ixT_as (sq_of hp) (atI_nat (by rw [List.getElem?_map, List.getElem?_eq_getElem hj]; rfl)) (q _ (List.getElem_mem hj))
theorem ixL_any {K : PySem.W.Frag} {H : Hp} {Q : VK} {p : Addr} {xs : List V} {i : Int} {zs : List Int} (e : xs = zs.map V.int) (h0 : 0 ≤ i) (h1 : i < zs.length) (hp : H p = some (.lst xs)) (q : ∀ z ∈ zs, Q (.int z) H) : rIxL K (.ref p) (.int i) H Q := by
  obtain ⟨j, rfl⟩ : ∃ j : Nat, i = j := ⟨i.toNat, by omega⟩
  have hj : j < zs.length := by omega
  subst e
  exact ixL_as (.inl (.inl hp)) (atI_nat (by rw [List.getElem?_map, List.getElem?_eq_getElem hj]; rfl)) (q _ (List.getElem_mem hj))
end RR
namespace RR
open PySem PySem.Spec PyProof.Rows L2
theorem WK.chain {σ : L2.St} {H : Hp} {Q : VK} {r r' : R2} {ta tb tc : TE} (q : ta σ H fun x H1 => tb σ H1 fun y H2 => r x y H2 fun z H3 => ∃ k, z = .bl k ∧ (if k = true then tc σ H3 fun w' H4 => r' y w' H4 Q else Q (.bl false) H3)) : tChain r r' ta tb tc σ H Q := q
end RR
namespace RR
open PySem PySem.Spec PyProof.Rows L2
theorem Sm.md {x m : Int} (h : 0 < m) (l : m < 2 ^ 64) : Sm 64 (x % m) := by
  unfold Sm
  have h1 := Int.emod_nonneg x (show m ≠ 0 by omega)
  have h2 := Int.emod_lt_of_pos x h
  omega
theorem Sm.ix {k n : Nat} (h : k < n) (l : n ≤ 1000000) : Sm 64 (k : Int) := Sm.le (y := 1000000) (Sm.lit (k := 64)) (by omega) (by omega)
/-- numbers below 1000, as a list at D -/
def NL (H : Hp) (D : Addr) (ds : List Nat) : Prop := H D = some (.lst (toV ds)) ∧ ∀ d ∈ ds, d < 1000
theorem toV_snoc (ds : List Nat) (d : Nat) : toV ds ++ [V.int d] = toV (ds ++ [d]) := by unfold toV; rw [List.map_append]; rfl
theorem NL.push {H : Hp} {D : Addr} {ds : List Nat} {z : Int} (h : NL H D ds) (z0 : 0 ≤ z) (z1 : z < 1000) : NL (upd H D (.lst (toV ds ++ [.int z]))) D (ds ++ [z.toNat]) := by
  obtain ⟨n, rfl⟩ : ∃ n : Nat, z = n := ⟨z.toNat, by omega⟩
  refine ⟨by rw [upd_same, toV_snoc, Int.toNat_natCast], fun d hd => ?_⟩
  rcases List.mem_append.mp hd with hd | hd
  · exact h.2 d hd
  · rw [List.mem_singleton] at hd
    omega
end RR
namespace RR
open PySem PySem.Spec PyProof.Rows L2
theorem TK.off {H H1 : Hp} {l p : Addr} {ns : List Nat} (h : TK H l p ns) (s : Same H H1) {P : Addr} {o : HO} (lP : l ≠ P) (pP : p ≠ P) : TK (upd H1 P o) l p ns :=
  ⟨by rw [upd_ne lP]; exact s _ _ h.l_, h.ne, h.len, let ⟨i, e⟩ := h.at_; ⟨i, by rw [upd_ne pP]; exact s _ _ e⟩, h.lt⟩
theorem ne_at {H : Hp} {a b : Addr} {o : HO} (h : H a = some o) (n : H b = none) : a ≠ b := fun e => by rw [e, n] at h; cases h
end RR
namespace RR
open PySem PySem.Spec PyProof.Rows L2
theorem paired_of {α β : Type} {G : α → β → Prop} : ∀ {l : List α} {m : List β}, l.length = m.length → (∀ (t : Nat) (a : α) (b : β), l[t]? = some a → m[t]? = some b → G a b) → Paired G l m
  | [], [], _, _ => .nil
  | a :: l, b :: m, e, h => .cons (h 0 a b rfl rfl) (paired_of (Nat.succ.inj e) fun t x y ex ey => h (t + 1) x y ex ey)
end RR

namespace RR
open PySem PySem.Spec PyProof.Rows L2
/-- a method, as callers see it -/
structure CalM (P : Program) (w : World) (K : PySem.W.Frag) (mg : Str → Option Value) (base : Heap) (C : Addr) (m : Str) (k : Nat) (ps : List Str) (sp : Sp) : Prop where
  ex : ∃ (f : Addr) (fd : FuncData), FnOk P w K mg base L2.CX0 k f fd ps sp ∧ Meth K C m f ∧ Binds K fd ps []
/-- a class that is called -/
structure CalI (P : Program) (w : World) (K : PySem.W.Frag) (mg : Str → Option Value) (base : Heap) (C : Addr) (x : Str) (k : Nat) (ps : List Str) (sp : Sp) : Prop where
  ex : ∃ (f : Addr) (fd : FuncData), FnOk P w K mg base L2.CX0 k f fd ps sp ∧ Mk K C f ∧ mg x = some (.ref C) ∧ Binds K fd ps []
section
variable {X : Cx}
theorem pe_mth {C : Addr} {m : Str} {k : Nat} {ps : List Str} {sp : Sp} {apos pos : Pos} {o e : Expr} {es : List Expr} {ta : TE} {t : TA} {pl : Sem Bool} (M : CalM X.prog X.w X.K X.mg X.base C m k ps sp) (c : Cls X.K C) (hr : Room k X.A) (he : PE X o ta) (ha : PA X (e :: es) t)
    (hst : starEach (e :: es) X.env = (false, eval e X.env) :: starEach es X.env := by rfl) (hpl : (backTo pos (starEach es X.env)).any (·.1) = false := by rfl)
    (ht : eval (.Call (.Attribute o m apos) (e :: es) [] pos) X.env = (do
      let ov ← eval o X.env
      standAt apos.atName
      let (f, first) ← holding [ov] (getMethod ov m pl)
      callWith pos f first (backTo pos (starEach (e :: es) X.env)) (backToKw pos (keywordEach [] X.env))) := by rfl) :
    PE X (.Call (.Attribute o m apos) (e :: es) [] pos) (tMeth C m sp [] L2.E0 ta t) := by
  obtain ⟨f, fd, F, hm, b⟩ := M.ex
  exact pe_meth he c hm F hr b .nil L2.pass0 ha hst hpl ht
theorem pe_mth0 {C : Addr} {m : Str} {k : Nat} {ps : List Str} {sp : Sp} {apos pos : Pos} {o : Expr} {ta : TE} {pl : Sem Bool} (M : CalM X.prog X.w X.K X.mg X.base C m k ps sp) (c : Cls X.K C) (hr : Room k X.A) (he : PE X o ta)
    (ht : eval (.Call (.Attribute o m apos) [] [] pos) X.env = (do
      let ov ← eval o X.env
      standAt apos.atName
      let (f, first) ← holding [ov] (getMethod ov m pl)
      callWith pos f first (backTo pos (starEach [] X.env)) (backToKw pos (keywordEach [] X.env))) := by rfl) :
    PE X (.Call (.Attribute o m apos) [] [] pos) (tMeth C m sp [] L2.E0 ta tNil) := by
  obtain ⟨f, fd, F, hm, b⟩ := M.ex
  exact pe_meth0 he c hm F hr b .nil L2.pass0 ht
theorem pe_mk {C : Addr} {x : Str} {k : Nat} {ps : List Str} {sp : Sp} {p pos : Pos} {e : Expr} {es : List Expr} {t : TA} (M : CalI X.prog X.w X.K X.mg X.base C x k ps sp) (hr : Room (k + 1) X.A) (hg : Gl X x) (ha : PA X (e :: es) t)
    (hdb : (x == ("__debug__" : Str)) = false := by decide) (he : starEach (e :: es) X.env = (false, eval e X.env) :: starEach es X.env := by rfl) (hpl : (backTo pos (starEach es X.env)).any (·.1) = false := by rfl) :
    PE X (.Call (.Name x p) (e :: es) [] pos) (tMake C sp [] L2.E0 t) := by
  obtain ⟨f, fd, F, M, g, b⟩ := M.ex
  exact pe_make M F hr hg g b .nil L2.pass0 ha hdb he hpl
/-- a statement that is never reached -/
theorem ps_dead {st : Stmt} : PS X st (fun _ _ _ => False) := ⟨fun _ _ _ _ _ _ h => h.elim⟩
theorem pe_dead {e : Expr} : PE X e (fun _ _ _ => False) := ⟨fun _ _ _ _ _ _ h => h.elim⟩
/-- d.get(k), d a dict of the module -/
def RelO (v : V) : Option Value → Prop
  | none => v = .non
  | some u => RelV v u
def tKGet (K : PySem.W.Frag) (w : World) (td ty : TE) : TE := fun σ H Q => td σ H fun x H1 => ∃ (a : Addr) (es : Array DictEntry) (n : Nat), x = .ref a ∧ KDict K w a es n ∧ ty σ H1 fun y H2 => ∃ (z : Str) (r : Option Value) (v : V), y = .str z ∧ PySem.W.nsIn K a z = some r ∧ RelO v r ∧ Q v H2
theorem pe_kget1 {o e : Expr} {apos cpos : Pos} {td ty : TE} (ho : PE X o td) (he : PE X e ty) (m : M1 X o "get" apos e cpos) : PE X (.Call (.Attribute o "get" apos) [e] [] cpos) (tKGet X.K X.w td ty) := by
  refine ⟨fun pins s σ H Q I h => ?_⟩
  refine wpAny_Call_method m.base m.few m.line PySem.F.plainAttrs_dict PySem.F.slot_dict_get PySem.F.type_dict_get (thn (ho.run pins s σ H _ I h) fun u s1 ⟨x, H1, I1, rx, a, es, n, ex, D, q1⟩ => ?_)
  subst ex
  obtain rfl : u = Value.ref a := rx
  have hm := PySem.W.mapOf_K (prog := X.prog) (w := X.w) I1.kIn D.at_ D.lit
  refine ⟨hm.typeIs, fun b q => ?_, ?_⟩
  · cases q
    exact ⟨_, I1.kIn _ _ D.at_, rfl⟩
  rw [m.trees]
  refine Calls.callWith_builtin rfl (Calls.evalArgs_plain (Calls.spliced_cons (thn (he.run pins s1 σ H1 _ I1 q1) fun iv s2 ⟨y, H2, I2, ry, z, r, v, ey, e, rr, q2⟩ => Calls.spliced_nil ?_)))
  subst ey
  obtain ⟨t, rfl⟩ := ry
  have hm2 := PySem.W.mapOf_K (prog := X.prog) (w := X.w) I2.kIn D.at_ D.lit
  refine call_meetsIn PySem.F.slot_dict_get hm2.typeIs PySem.F.entry_dict_get (PySem.F.args_dict_get_2 _ _) (meets_dict_get (strKind X.prog X.w) a (strKind_is X.prog X.w z t) D.low) ⟨_, hm2, ?_⟩
  refine ⟨v, H2, I2.tok _, ?_, q2⟩
  rw [PySem.W.find_K D.at_ e]
  cases r with
  | none =>
    have : v = .non := rr
    subst this
    rfl
  | some u => exact rr
end
end RR
namespace RR
open PySem PySem.Spec PyProof.Rows L2
theorem walk_zipT {K : PySem.W.Frag} {a b : Addr} {xs ys : List V} {n : Nat} (hn : n = min xs.length ys.length) : Walk (RZ.ItzT K a b) n (fun H => SqT K H a xs ∧ SqT K H b ys) (YPair (fun i => xs[i]?) (fun i => ys[i]?)) := by
  subst hn
  refine ⟨fun i _ hi q => ?_, fun _ q => ⟨xs, ys, q.1, q.2, by omega⟩, fun i H v H' _ q y => ?_⟩
  · have h1 : i < xs.length := by omega
    have h2 : i < ys.length := by omega
    exact ⟨xs, ys, xs[i], ys[i], q.1, q.2, by simp [h1], by simp [h2]⟩
  · obtain ⟨T, x, z, h1, h2, h3, h4, h5⟩ := y
    exact ⟨T, x, z, h1, h2, h3, h4 xs q.1, h5 ys q.2⟩
end RR
namespace RR
open PySem PySem.Spec PyProof.Rows L2
theorem isiB {K : PySem.W.Frag} {H : Hp} {Q : VK} {x : V} {t c : String} {b : Bool} (ty : TyOf K H x (.type t)) (e : PySem.W.kitOne K (.type t) (.type c) = some b) (q : Q (.bl b) H) : rIsi K [x, .ty c] H Q := ⟨x, .ty c, .type t, .type c, b, rfl, .ty c, .base ty, e, q⟩
theorem truT {K : PySem.W.Frag} {H : Hp} {Q : Bool → Hp → Prop} {p : Addr} {x : V} {xs : List V} (h : H p = some (.tup (x :: xs))) (q : Q true H) : ∃ k, TruV K (.ref p) H k ∧ Q k H := ⟨true, .inr (.inl ⟨_, sq_of h, rfl⟩), q⟩
theorem truL {K : PySem.W.Frag} {H : Hp} {Q : Bool → Hp → Prop} {p : Addr} {xs : List V} (h : H p = some (.lst xs)) (q : Q (!xs.isEmpty) H) : ∃ k, TruV K (.ref p) H k ∧ Q k H := ⟨_, .inl ⟨_, .inl (.inl h), rfl⟩, q⟩
theorem cut_one (v : V) (xs : List V) : cutV (v :: xs) (some 1) none = xs := by
  unfold cutV
  rw [HT.sIx_none, show (1 : Int) = ((1 : Nat) : Int) from rfl, HT.sIx_nat, List.length_cons, Nat.min_eq_left (by omega)]
  show (xs.take _) = _
  rw [List.take_of_length_le (by omega)]
/-- t[1:] of a tuple -/
theorem sl1 {K : PySem.W.Frag} {H : Hp} {Q : VK} {a : Addr} {v : V} {xs : List V} (h : H a = some (.tup (v :: xs))) (q : ∀ p, H p = none → Q (.ref p) (upd H p (.tup xs))) : rSlA K (.ref a) (some 1) none H Q := by
  refine ⟨a, _, rfl, sq_of h, fun e => ?_, fun _ p np => ?_⟩
  · have e1 := e.1
    rw [show (1 : Int) = ((1 : Nat) : Int) from rfl, HT.sIx_nat, List.length_cons, Nat.min_eq_left (by omega)] at e1
    exact absurd e1 (by decide)
  · rw [cut_one]
    exact q p np
end RR
namespace RR
open PySem PySem.Spec PyProof.Rows L2
theorem at0 {v : V} {xs : List V} : atI (v :: xs) (0 : Int) = some v := show atI _ ((0 : Nat) : Int) = _ from atI_nat (j := 0) rfl
theorem at1 {u v : V} {xs : List V} : atI (u :: v :: xs) (1 : Int) = some v := show atI _ ((1 : Nat) : Int) = _ from atI_nat (j := 1) rfl
end RR
namespace RR
open PySem PySem.Spec PyProof.Rows L2
namespace WK
variable {σ : L2.St} {H : Hp} {Q : VK}
theorem zipA {K : PySem.W.Frag} {ta : TA} {R : It → Hp → Prop} (q : ta σ H fun vs H1 => ∃ a b xs ys, vs = [.ref a, .ref b] ∧ ((SqL K H1 a xs ∧ SqL K H1 b ys ∧ R (Itz K a b) H1) ∨ (SqT K H1 a xs ∧ SqT K H1 b ys ∧ R (RZ.ItzT K a b) H1))) : RZ.iZipA K ta σ H R := q
theorem fld {K : PySem.W.Frag} {ta : TE} {f : Str} (q : ta σ H fun x H1 => ∃ a C dx fs v, x = .ref a ∧ H1 a = some (.ins C dx fs) ∧ Cls K C ∧ NoAttr K C f ∧ fs.lookup f = some v ∧ Q v H1) : tFld K ta f σ H Q := q
theorem mth {C : Addr} {m : Str} {sp : Sp} {ta : TE} {t : TA} (q : ta σ H fun x H1 => ∃ a dx fs, x = .ref a ∧ H1 a = some (.ins C dx fs) ∧ fs.lookup m = none ∧ t σ H1 fun vs H2 => sp (x :: (vs ++ [])) H2 Q L2.E0) : tMeth C m sp [] L2.E0 ta t σ H Q := q
theorem kget {K : PySem.W.Frag} {w : World} {td ty : TE} (q : td σ H fun x H1 => ∃ (a : Addr) (es : Array DictEntry) (n : Nat), x = .ref a ∧ KDict K w a es n ∧ ty σ H1 fun y H2 => ∃ (z : Str) (r : Option Value) (v : V), y = .str z ∧ PySem.W.nsIn K a z = some r ∧ RelO v r ∧ Q v H2) : tKGet K w td ty σ H Q := q
end WK
end RR
namespace RR
open PySem PySem.Spec PyProof.Rows L2
theorem toV_at2 {l : List Nat} {i : Nat} {v : V} (h : (toV l)[i]? = some v) : ∃ n, l[i]? = some n ∧ v = .int (n : Nat) := by
  unfold toV at h
  rw [List.getElem?_map] at h
  obtain ⟨n, hn, rfl⟩ := Option.map_eq_some_iff.mp h
  exact ⟨n, hn, rfl⟩
theorem rep_snoc (i : Nat) (b : Bool) : (List.replicate i b).map V.bl ++ [V.bl b] = (List.replicate (i + 1) b).map V.bl := by
  rw [List.replicate_succ', List.map_append]
  rfl
theorem rep_all (i : Nat) : (List.replicate i true).all id = true := by simp
end RR
namespace RR
open PySem PySem.Spec PyProof.Rows L2
theorem un65 {k : Nat} {A : Around} (r : Room k A) : A.units + 65 < cLine := by have := r.un; omega
theorem WK.sfld {σ : L2.St} {H : Hp} {K : PySem.W.Frag} {ta tv : TE} {f : Str} {D : Ends} (q : tv σ H fun y H1 => ta σ H1 fun x H2 => ∃ a C dx fs, x = .ref a ∧ H2 a = some (.ins C dx fs) ∧ Cls K C ∧ NoAttr K C f ∧ fs.length < 1000 ∧ D.nx σ (upd H2 a (.ins C dx (putF f y fs)))) : sFld K ta tv f D σ H := q
theorem isiT {K : PySem.W.Frag} {H : Hp} {Q : VK} {x : V} {tp : Addr} {t c d : String} {b : Bool} (h : H tp = some (.tup [.ty c, .ty d])) (ty : TyOf K H x (.type t)) (e : PySem.W.kitAny K (.type t) [.type c, .type d] = some b) (q : Q (.bl b) H) : rIsiT K [x, .ref tp] H Q :=
  ⟨x, tp, _, .type t, _, b, rfl, h, .cons (.ty c) (.cons (.ty d) .nil), .base ty, e, q⟩
end RR
namespace RR
open PySem PySem.Spec PyProof.Rows L2
theorem putF_le (f : Str) (y : V) : ∀ fs : List (Str × V), (putF f y fs).length ≤ fs.length + 1
  | [] => Nat.le_refl _
  | (g, z) :: fs => by
    unfold putF
    split
    · exact Nat.le_succ _
    · exact Nat.succ_le_succ (putF_le f y fs)
theorem putF_lt {f : Str} {y : V} {fs : List (Str × V)} {n : Nat} (h : fs.length + 1 < n) : (putF f y fs).length < n := Nat.lt_of_le_of_lt (putF_le f y fs) h
theorem putF_lt2 {f : Str} {y : V} {fs : List (Str × V)} {n : Nat} (h : fs.length + 2 < n) : (putF f y fs).length + 1 < n := Nat.lt_of_le_of_lt (Nat.succ_le_succ (putF_le f y fs)) h
end RR
namespace RR
open PySem PySem.Spec PyProof.Rows L2
theorem WK.enum {σ : L2.St} {H : Hp} {K : PySem.W.Frag} {ta : TA} {R : It → Hp → Prop} (q : ta σ H fun vs H1 => ∃ a xs, vs = [.ref a] ∧ SqL K H1 a xs ∧ R (Ite K a) H1) : iEnum K ta σ H R := q
end RR
namespace RR
open PySem PySem.Spec PyProof.Rows L2
theorem ixN_nat {n r : Nat} (h : r < n) : ixN n (r : Int) = some r := by
  unfold ixN
  rw [if_pos (by omega), if_pos (by omega), Int.toNat_natCast]
end RR
namespace RR
open PySem PySem.Spec PyProof.Rows L2
theorem catT {K : PySem.W.Frag} {H : Hp} {Q : VK} {a b : Addr} {xs ys : List V} (ha : H a = some (.tup xs)) (hb : H b = some (.tup ys)) (hl : xs.length + ys.length ≤ sizeLine) (q : ∀ H' c, Same H H' → H' c = some (.tup (xs ++ ys)) → Q (.ref c) H') : rCatA K (.ref a) (.ref b) H Q := by
  refine ⟨a, b, xs, ys, rfl, rfl, sq_of ha, sq_of hb, hl, fun e => ?_, fun _ e => ?_, fun _ _ p np => q _ p (same_upd np) upd_same⟩
  · subst e
    exact q H b (fun _ _ z => z) hb
  · subst e
    exact q H a (fun _ _ z => z) (by rw [List.append_nil]; exact ha)
theorem slT {K : PySem.W.Frag} {H : Hp} {Q : VK} {a : Addr} {lo hi : Option Int} {xs : List V} (ha : H a = some (.tup xs)) (q : ∀ H' c, Same H H' → H' c = some (.tup (cutV xs lo hi)) → Q (.ref c) H') : rSlA K (.ref a) lo hi H Q := by
  refine ⟨a, xs, rfl, sq_of ha, fun e => ?_, fun _ p np => q _ p (same_upd np) upd_same⟩
  refine q H a (fun _ _ z => z) ?_
  unfold cutV
  rw [e.1, e.2, List.drop_zero, Nat.sub_zero, List.take_length]
  exact ha
theorem cut_from (xs : List V) {n : Nat} (h : n ≤ xs.length) : cutV xs (some (n : Int)) none = xs.drop n := by
  unfold cutV
  rw [HT.sIx_none, HT.sIx_nat, Nat.min_eq_left h]
  show ((xs.drop n).take _) = _
  rw [List.take_of_length_le (by rw [List.length_drop]; exact Nat.le_refl _)]
theorem set_cut {α : Type} (xs : List α) {r : Nat} (h : r < xs.length) (z : α) : xs.take r ++ [z] ++ xs.drop (r + 1) = xs.set r z := by
  rw [List.set_eq_take_append_cons_drop, if_pos h, List.append_assoc]
  rfl
end RR

namespace RR
open PySem PySem.Spec PyProof.Rows L2
section
variable {prog : Program} {w : World} {A : Around} {E : Value → Shared → Prop} {s : Shared} {l : Addr} {xs : Array (Int × Tok)} {its : List Value} {ns : List Int}
theorem min_intTup {Q : Value → Shared → Prop} (hh : A.handled = none) (hl : s.heap.IsTuple l (intItems xs)) (hne : 0 < xs.size)
    (h : ∀ v h' tk, (intItems xs)[argBest (fun i j => decide (numAt xs i < numAt xs j)) (xs.size - 1)]? = some v → (∀ b o, s.heap.get? b = some o → h'.get? b = some o) → Q v { s with heap := h', toks := tk }) :
    wpAny (model prog w) A (call (.builtin "min") [.ref l]) Q E s := by
  have hlt : l < s.heap.objs.size := by obtain ⟨_, e, _⟩ := hl; exact Heap.lt_size e
  refine call_min_walk (wpAny_pyIter_tuple hl ?_)
  refine ⟨_, _, _, _, _, _, _, rfl, Walks.tuple (A := A.in1) hh _ l (Nat.ne_of_lt hlt) (intItems xs), ⟨⟨_, Heap.get?_push_size _ rfl, rfl, rfl⟩, hl.push _⟩, fun b hb => ?_, by simpa [intItems] using hne, CmpOf.ints_lt (numAt xs) (fun _ _ => intItems_at), fun v h' tk hP hk => ?_⟩
  · show b < (s.heap.push _).objs.size
    rw [Heap.size_push]
    rcases List.mem_cons.mp hb with rfl | hb
    · exact Nat.lt_succ_self _
    · rcases List.mem_cons.mp hb with rfl | hb
      · exact Nat.lt_succ_of_lt hlt
      · cases hb
  · refine h v h' tk (by simpa [intItems] using hP) fun b o e => hk b o (fun hm => ?_) (Heap.get?_push_of_some _ e)
    rcases List.mem_cons.mp hm with e1 | hm
    · exact absurd (e1 ▸ Heap.lt_size e) (Nat.lt_irrefl _)
    · cases hm
theorem min_rawT {Q : Value → Shared → Prop} (hh : A.handled = none) (hl : s.heap.IsTuple l its.toArray) (hi : IntsAre its ns) (hne : 0 < ns.length)
    (h : ∀ h' tk M t', (∀ b o, s.heap.get? b = some o → h'.get? b = some o) → M ∈ ns → (∀ a, a ∈ ns → M ≤ a) → Q (.int M t') { s with heap := h', toks := tk }) : wpAny (model prog w) A (call (.builtin "min") [.ref l]) Q E s := by
  obtain ⟨xs, e⟩ := hi.allInts.items
  have hn : numsOf (intItems xs).toList = ns := by rw [← e]; exact hi.numsOf
  rw [nums_intItems] at hn
  subst hn
  rw [e] at hl
  have hsz : 0 < xs.size := by simpa using hne
  refine min_intTup hh hl hsz fun v h' tk hv hk => ?_
  obtain ⟨t, rfl⟩ := intItems_at hv
  obtain ⟨h1, h2⟩ := argBest_lt (numAt xs) (xs.size - 1)
  refine h h' tk _ t hk ?_ fun a ha => ?_
  · rw [numAt_eq]; exact PySem.getD_mem (by rw [List.length_map, Array.length_toList]; omega)
  · obtain ⟨j, hj, rfl⟩ := mem_getD ha
    rw [List.length_map, Array.length_toList] at hj
    rw [← numAt_eq]; exact h2 j (by omega)
end
section
variable {X : Cx}
/-- min(t), t a tuple of ints -/
def rMinT (K : PySem.W.Frag) : List V → Hp → VK → Prop := fun vs H Q => ∃ (a : Addr) (ns : List Int), vs = [V.ref a] ∧ SqT K H a (ns.map V.int) ∧ 0 < ns.length ∧ ∀ m, m ∈ ns → (∀ y, y ∈ ns → m ≤ y) → Q (.int m) H
theorem cr_minT (hc : X.calm = true) : CallR X (.builtin "min") (rMinT X.K) := by
  intro pins s σ H vs us Q I r h
  obtain ⟨a, ns, rfl, hs, hne, q⟩ := h
  obtain ⟨its, rv, hl, _⟩ := I.tuple hs
  rw [Vals.ref1 r]
  exact min_rawT (I.ok.hd hc) (by obtain ⟨o, h1, h2, n, h3⟩ := hl; exact ⟨o, h1, h2, n, h3⟩) rv.ints hne fun h' tk m t' hk h1 h2 => ⟨.int _, H, I.kept hk, ⟨_, rfl⟩, q m h1 h2⟩
end
end RR

namespace RR
open PySem PySem.Spec PyProof.Rows L2
/-! counter machines -/
inductive Ln | stop | inc (r g : Nat) | dec (r g h : Nat)
  deriving DecidableEq
def Ln.enc : Ln → List V
  | .stop => [.str (Str.ofString "stop")]
  | .inc r g => [.str (Str.ofString "inc"), .int r, .int g]
  | .dec r g h => [.str (Str.ofString "dec"), .int r, .int g, .int h]
def Ln.dat : Ln → PyData
  | .stop => .tuple [.str (Str.ofString "stop")]
  | .inc r g => .tuple [.str (Str.ofString "inc"), .int r, .int g]
  | .dec r g h => .tuple [.str (Str.ofString "dec"), .int r, .int g, .int h]
def Ln.Ok (R S : Nat) : Ln → Prop
  | .stop => True
  | .inc r g => r < R ∧ g < S
  | .dec r g h => r < R ∧ g < S ∧ h < S
def LnAt (H : Hp) (a : Addr) (l : Ln) : Prop := H a = some (.tup l.enc)
abbrev LsAt (H : Hp) (as : List Addr) (ls : List Ln) : Prop := Paired (LnAt H) as ls
theorem LsAt.keep {H H' : Hp} {as : List Addr} {ls : List Ln} (h : LsAt H as ls) (s : Same H H') : LsAt H' as ls := Paired.mapP h fun _ _ r => s _ _ r
theorem LsAt.off {H : Hp} {as : List Addr} {ls : List Ln} (h : LsAt H as ls) {P : Addr} {o : HO} (hP : ∀ xs, H P ≠ some (.tup xs)) : LsAt (upd H P o) as ls := Paired.mapP h fun a l r => by
  unfold LnAt at r ⊢
  rw [upd_ne fun e => hP _ (by rw [← e]; exact r)]
  exact r
theorem LsAt.dp {K : PySem.W.Frag} {H : Hp} {a : Addr} {l : Ln} (h : LnAt H a l) : Dp K H (.ref a) l.dat := by
  cases l with
  | stop => exact .tup (sq_of h) (.cons (.str _) .nil)
  | inc r g => exact .tup (sq_of h) (.cons (.str _) (.cons (.int _) (.cons (.int _) .nil)))
  | dec r g h2 => exact .tup (sq_of h) (.cons (.str _) (.cons (.int _) (.cons (.int _) (.cons (.int _) .nil))))
/-- a list of lines at P -/
def LL (H : Hp) (P : Addr) (as : List Addr) (ls : List Ln) : Prop := H P = some (.lst (as.map V.ref)) ∧ LsAt H as ls
theorem LL.keep {H H' : Hp} {P : Addr} {as : List Addr} {ls : List Ln} (h : LL H P as ls) (s : Same H H') : LL H' P as ls := ⟨s _ _ h.1, LsAt.keep h.2 s⟩
theorem LL.ex {H H' : Hp} {P p : Addr} {as : List Addr} {ls : List Ln} (h : LL H P as ls) (s : Ex p H H') (n : P ≠ p) (hp : ∀ xs, H p ≠ some (.tup xs)) : LL H' P as ls := ⟨s _ _ n h.1, Paired.mapP h.2 fun a l r => s _ _ (fun e => hp _ (by rw [← e]; exact r)) r⟩
theorem LL.push {H : Hp} {P : Addr} {as : List Addr} {ls : List Ln} (h : LL H P as ls) {t : Addr} {l : Ln} (nt : H t = none) : LL (upd (upd H t (.tup l.enc)) P (.lst (as.map V.ref ++ [V.ref t]))) P (as ++ [t]) (ls ++ [l]) := by
  refine ⟨by rw [upd_same, List.map_append]; rfl, ?_⟩
  have tP : t ≠ P := (ne_at h.1 nt).symm
  refine LsAt.off (Paired.snoc (LsAt.keep h.2 (same_upd nt)) upd_same) fun xs e => ?_
  rw [upd_ne tP.symm, h.1] at e
  cases e
theorem TK.pl {H : Hp} {l p : Addr} {ns : List Nat} (h : TK H l p ns) : ∀ xs, H p ≠ some (.tup xs) := fun xs e => by
  obtain ⟨i, z⟩ := h.at_
  rw [z] at e
  cases e
structure MOk (R : Nat) (ls : List Ln) : Prop where
  r1 : 1 ≤ R
  r4 : R ≤ 4
  l1 : 1 ≤ ls.length
  l12 : ls.length ≤ 12
  ok : ∀ l ∈ ls, l.Ok R ls.length
  st : Ln.stop ∈ ls
end RR
namespace RR
open PySem PySem.Spec PyProof.Rows L2
/-! data -/
def Lay (n : Nat) (d : PyData) : Prop := d.canLay0 = true ∧ d.depth ≤ n
theorem Lay.shaped {n : Nat} {d : PyData} (h : Lay n d) (hn : n ≤ 64) : SeqAt.shaped d = true := by
  unfold SeqAt.shaped
  rw [h.1, Bool.true_and]
  exact decide_eq_true (Nat.le_trans h.2 hn)
theorem lay_all {n : Nat} : ∀ {ds : List PyData}, (∀ d ∈ ds, Lay n d) → PyData.canLayAll0 ds = true ∧ PyData.depthAll ds ≤ n
  | [], _ => ⟨rfl, Nat.zero_le _⟩
  | d :: ds, h => by
    obtain ⟨h1, h2⟩ := h d (List.mem_cons_self ..)
    obtain ⟨h3, h4⟩ := lay_all fun e he => h e (List.mem_cons_of_mem _ he)
    simp only [PyData.canLayAll0, PyData.depthAll, h1, h3, Bool.and_true, true_and]
    omega
theorem Lay.tup {n : Nat} {ds : List PyData} (h : ∀ d ∈ ds, Lay n d) : Lay (n + 1) (.tuple ds) := by
  obtain ⟨h1, h2⟩ := lay_all h
  exact ⟨by simp only [PyData.canLay0, h1], by simp only [PyData.depth]; omega⟩
theorem Lay.lst {n : Nat} {ds : List PyData} (h : ∀ d ∈ ds, Lay n d) : Lay (n + 1) (.list ds) := by
  obtain ⟨h1, h2⟩ := lay_all h
  exact ⟨by simp only [PyData.canLay0, h1], by simp only [PyData.depth]; omega⟩
theorem Lay.int (i : Int) : Lay 0 (.int i) := ⟨rfl, Nat.le_refl _⟩
theorem Lay.mono {m n : Nat} {d : PyData} (h : Lay m d) (l : m ≤ n) : Lay n d := ⟨h.1, Nat.le_trans h.2 l⟩
def dInts (l : List Int) : List PyData := l.map PyData.int
theorem lay_ints (l : List Int) : Lay 1 (.tuple (dInts l)) := Lay.tup fun d hd => by
  obtain ⟨i, _, rfl⟩ := List.mem_map.mp hd
  exact Lay.int i
theorem lay_ln (l : Ln) : Lay 1 l.dat := by
  have h1 : PyData.canLay0 (.str (Str.ofString "stop")) = true := by decide +kernel
  have h2 : PyData.canLay0 (.str (Str.ofString "inc")) = true := by decide +kernel
  have h3 : PyData.canLay0 (.str (Str.ofString "dec")) = true := by decide +kernel
  cases l
  · exact ⟨by simp only [Ln.dat, PyData.canLay0, PyData.canLayAll0] at h1 ⊢; simp [h1], by simp [Ln.dat, PyData.depth, PyData.depthAll]⟩
  · exact ⟨by simp only [Ln.dat, PyData.canLay0, PyData.canLayAll0] at h2 ⊢; simp [h2], by simp [Ln.dat, PyData.depth, PyData.depthAll]⟩
  · exact ⟨by simp only [Ln.dat, PyData.canLay0, PyData.canLayAll0] at h3 ⊢; simp [h3], by simp [Ln.dat, PyData.depth, PyData.depthAll]⟩
theorem lay_lns (ls : List Ln) : Lay 2 (.list (ls.map Ln.dat)) := Lay.lst fun d hd => by
  obtain ⟨l, _, rfl⟩ := List.mem_map.mp hd
  exact lay_ln l
theorem eqv_stop (l : Ln) : PyData.eqv l.dat Ln.stop.dat = decide (l = .stop) := by
  cases l with
  | stop => decide +kernel
  | inc r g => simp only [Ln.dat, PyData.eqv, PyData.eqvAll]; simp
  | dec r g h => simp only [Ln.dat, PyData.eqv, PyData.eqvAll]; simp
theorem eqv_ints : ∀ (l m : List Int), PyData.eqvAll (dInts l) (dInts m) = decide (l = m)
  | [], [] => rfl
  | [], _ :: _ => by simp [dInts, PyData.eqvAll]
  | _ :: _, [] => by simp [dInts, PyData.eqvAll]
  | i :: l, j :: m => by
    have := eqv_ints l m
    simp only [dInts, List.map_cons, PyData.eqvAll, PyData.eqv] at this ⊢
    rw [this]
    by_cases h1 : i = j <;> by_cases h2 : l = m <;> simp [h1, h2]
theorem ints_all {K : PySem.W.Frag} {H : Hp} : ∀ l : List Int, DpAll K H (l.map V.int) (dInts l)
  | [] => .nil
  | _ :: l => .cons (.int _) (ints_all l)
theorem lns_all {K : PySem.W.Frag} {H : Hp} : ∀ {as : List Addr} {ls : List Ln}, LsAt H as ls → DpAll K H (as.map V.ref) (ls.map Ln.dat)
  | _, _, .nil => .nil
  | _, _, .cons h t => .cons (LsAt.dp h) (lns_all t)
theorem toV_ints (l : List Nat) : toV l = (l.map fun (n : Nat) => (n : Int)).map V.int := by
  unfold toV
  rw [List.map_map]
  rfl
end RR
namespace RR
open PySem PySem.Spec PyProof.Rows L2
/-! the object -/
def fM (R S : Nat) (L : Addr) : List (Str × V) := putF "_lines" (.ref L) (putF "size" (.int S) (putF "registers" (.int R) []))
theorem fM_r (R S : Nat) (L : Addr) : (fM R S L).lookup ("registers" : Str) = some (.int R) := by
  unfold fM
  rw [lookup_putF, if_neg (by decide +kernel), lookup_putF, if_neg (by decide +kernel), lookup_putF, if_pos rfl]
theorem fM_s (R S : Nat) (L : Addr) : (fM R S L).lookup ("size" : Str) = some (.int S) := by
  unfold fM
  rw [lookup_putF, if_neg (by decide +kernel), lookup_putF, if_pos rfl]
theorem fM_l (R S : Nat) (L : Addr) : (fM R S L).lookup ("_lines" : Str) = some (.ref L) := by
  unfold fM
  rw [lookup_putF, if_pos rfl]
theorem fM_no (R S : Nat) (L : Addr) {m : Str} (h1 : ¬ m = "registers") (h2 : ¬ m = "size") (h3 : ¬ m = "_lines") : (fM R S L).lookup m = none := by
  unfold fM
  rw [lookup_putF, if_neg h3, lookup_putF, if_neg h2, lookup_putF, if_neg h1]
  all_goals rfl
def MA (C : Addr) (H : Hp) (p : Addr) (R : Nat) (ls : List Ln) : Prop := ∃ (dx L : Addr) (as : List Addr), H p = some (.ins C dx (fM R ls.length L)) ∧ H L = some (.tup (as.map V.ref)) ∧ LsAt H as ls
theorem MA.keep {C : Addr} {H H' : Hp} {p : Addr} {R : Nat} {ls : List Ln} (h : MA C H p R ls) (s : Same H H') : MA C H' p R ls := let ⟨dx, L, as, h1, h2, h3⟩ := h; ⟨dx, L, as, s _ _ h1, s _ _ h2, LsAt.keep h3 s⟩
theorem MA.ex {C : Addr} {H H' : Hp} {p q : Addr} {R : Nat} {ls : List Ln} (h : MA C H p R ls) (s : Ex q H H') (hq : ∀ xs, H q ≠ some (.tup xs)) (hi : ∀ c d f, H q ≠ some (.ins c d f)) : MA C H' p R ls := by
  obtain ⟨dx, L, as, h1, h2, h3⟩ := h
  exact ⟨dx, L, as, s _ _ (fun e => hi _ _ _ (by rw [← e]; exact h1)) h1, s _ _ (fun e => hq _ (by rw [← e]; exact h2)) h2, Paired.mapP h3 fun a l r => s _ _ (fun e => hq _ (by rw [← e]; exact r)) r⟩
end RR
namespace RR
open PySem PySem.Spec PyProof.Rows L2
abbrev Cfg := Nat × List Int
def CfAt (H : Hp) (c : Addr) (f : Cfg) : Prop := ∃ t, H c = some (.tup [.int f.1, .ref t]) ∧ H t = some (.tup (f.2.map V.int))
theorem CfAt.keep {H H' : Hp} {c : Addr} {f : Cfg} (h : CfAt H c f) (s : Same H H') : CfAt H' c f := let ⟨t, a, b⟩ := h; ⟨t, s _ _ a, s _ _ b⟩
def stepM (ls : List Ln) (f : Cfg) : Option Cfg := match ls[f.1]? with
  | some (.inc r g) => some (g, f.2.set r (f.2.getD r 0 + 1))
  | some (.dec r g h) => if 0 < f.2.getD r 0 then some (g, f.2.set r (f.2.getD r 0 + -1)) else some (h, f.2)
  | _ => none
def CfOk (R : Nat) (ls : List Ln) (f : Cfg) : Prop := f.1 < ls.length ∧ f.2.length = R ∧ ∀ x ∈ f.2, 0 ≤ x
theorem getD_at {rs : List Int} {r : Nat} (h : r < rs.length) : rs[r]? = some (rs.getD r 0) := by
  rw [List.getD_eq_getElem?_getD, List.getElem?_eq_getElem h]
  rfl
theorem ints_at {rs : List Int} {r : Nat} (h : r < rs.length) : (rs.map V.int)[r]? = some (.int (rs.getD r 0)) := by
  rw [List.getElem?_map, getD_at h]
  rfl
theorem set_nn {rs : List Int} (h : ∀ x ∈ rs, 0 ≤ x) {r : Nat} {z : Int} (hz : 0 ≤ z) : ∀ x ∈ rs.set r z, 0 ≤ x := fun x hx => by
  rcases List.mem_or_eq_of_mem_set hx with q | q
  · exact h x q
  · rw [q]; exact hz
theorem getD_nn {rs : List Int} (h : ∀ x ∈ rs, 0 ≤ x) (r : Nat) : 0 ≤ rs.getD r 0 := by
  rw [List.getD_eq_getElem?_getD]
  cases e : rs[r]? with
  | none => exact Int.le_refl 0
  | some x => exact h x (List.mem_of_getElem? e)
theorem step_ok {R : Nat} {ls : List Ln} (M : MOk R ls) {f g : Cfg} (h : CfOk R ls f) (e : stepM ls f = some g) : CfOk R ls g := by
  obtain ⟨h1, h2, h3⟩ := h
  unfold stepM at e
  rw [List.getElem?_eq_getElem h1] at e
  have hl := M.ok _ (List.getElem_mem h1)
  generalize ls[f.1] = l at e hl
  cases l with
  | stop => cases e
  | inc r g => cases e; exact ⟨hl.2, by simp [h2], set_nn h3 (by have := getD_nn h3 r; omega)⟩
  | dec r g k =>
    dsimp only at e
    split at e
    · rename_i c; cases e; exact ⟨hl.2.1, by simp [h2], set_nn h3 (by omega)⟩
    · cases e; exact ⟨hl.2.2, h2, h3⟩
end RR
namespace RR
open PySem PySem.Spec PyProof.Rows L2
def runM (ls : List Ln) : Nat → Cfg → List Cfg
  | 0, f => [f]
  | k + 1, f => f :: (match stepM ls f with | none => [] | some g => runM ls k g)
def restM (ls : List Ln) (most n : Nat) : Option Cfg → List Cfg
  | none => []
  | some g => if n ≤ most then runM ls (most - n) g else []
theorem restM_le (ls : List Ln) {most n : Nat} (h : n ≤ most) (g : Cfg) : restM ls most n (some g) = runM ls (most - n) g := by
  show (if n ≤ most then _ else _) = _
  rw [if_pos h]
theorem restM_gt (ls : List Ln) {most n : Nat} (h : ¬ n ≤ most) (g : Cfg) : restM ls most n (some g) = [] := by
  show (if n ≤ most then _ else _) = _
  rw [if_neg h]
theorem rest_step (ls : List Ln) {most n : Nat} (h : n ≤ most) (g : Cfg) : restM ls most n (some g) = g :: restM ls most (n + 1) (stepM ls g) := by
  rw [restM_le ls h]
  cases e : most - n with
  | zero =>
    show [g] = _
    cases stepM ls g with
    | none => rfl
    | some k => rw [restM_gt ls (by omega)]
  | succ k =>
    show g :: _ = _
    cases stepM ls g with
    | none => rfl
    | some f => rw [restM_le ls (by omega), show most - (n + 1) = k by omega]
def HereAt (R : Nat) (ls : List Ln) (H : Hp) (v : V) : Option Cfg → Prop
  | none => v = .non
  | some g => ∃ c, v = .ref c ∧ CfAt H c g ∧ CfOk R ls g
abbrev CfsAt (H : Hp) (as : List Addr) (fs : List Cfg) : Prop := Paired (CfAt H) as fs
theorem CfsAt.keep {H H' : Hp} {as : List Addr} {fs : List Cfg} (h : CfsAt H as fs) (s : Same H H') : CfsAt H' as fs := Paired.mapP h fun _ _ r => CfAt.keep r s
theorem CfAt.off {H : Hp} {c : Addr} {f : Cfg} (h : CfAt H c f) {P : Addr} {o : HO} (hP : ∀ xs, H P ≠ some (.tup xs)) : CfAt (upd H P o) c f := by
  obtain ⟨t, a, b⟩ := h
  exact ⟨t, by rw [upd_ne fun e => hP _ (by rw [← e]; exact a)]; exact a, by rw [upd_ne fun e => hP _ (by rw [← e]; exact b)]; exact b⟩
theorem lst_ntup {H : Hp} {P : Addr} {xs : List V} (h : H P = some (.lst xs)) : ∀ ys, H P ≠ some (.tup ys) := fun ys e => by rw [h] at e; cases e
end RR
namespace RR
open PySem PySem.Spec PyProof.Rows L2
/-! items of a list that may be no run -/
structure Itm where
  tp : Bool
  num : V
  rt : Bool
  rs : List Int
def seqO (tp : Bool) (xs : List V) : HO := if tp then .tup xs else .lst xs
def ItAt (H : Hp) (a : Addr) (it : Itm) : Prop := ∃ t, H a = some (seqO it.tp [it.num, .ref t]) ∧ H t = some (seqO it.rt (it.rs.map V.int)) ∧ ((∃ i, it.num = .int i) ∨ ∃ b, it.num = .bl b)
theorem ItAt.keep {H H' : Hp} {a : Addr} {it : Itm} (h : ItAt H a it) (s : Same H H') : ItAt H' a it := let ⟨t, x, y, z⟩ := h; ⟨t, s _ _ x, s _ _ y, z⟩
def numOk (S : Nat) : V → Bool
  | .int i => decide (0 ≤ i) && decide (i < S)
  | _ => false
def regOk (R : Nat) (rt : Bool) (rs : List Int) : Bool := rt && (decide (rs.length = R) && rs.all fun x => decide (0 ≤ x))
def Itm.good (R S : Nat) (it : Itm) : Bool := it.tp && (numOk S it.num && regOk R it.rt it.rs)
def Itm.cfg (it : Itm) : Cfg := (match it.num with | .int i => i.toNat | _ => 0, it.rs)
theorem good_of {R : Nat} {ls : List Ln} {it : Itm} (h : it.good R ls.length = true) {H : Hp} {a : Addr} (ha : ItAt H a it) : CfAt H a it.cfg ∧ CfOk R ls it.cfg := by
  obtain ⟨tp, num, rt, rs⟩ := it
  obtain ⟨t, h1, h2, h3⟩ := ha
  unfold Itm.good regOk at h
  simp only [Bool.and_eq_true] at h
  obtain ⟨rfl, hn, rfl, hl, hr⟩ := h
  rcases h3 with ⟨i, hi⟩ | ⟨b, hb⟩
  · have hi : num = .int i := hi
    subst hi
    unfold numOk at hn
    simp only [Bool.and_eq_true, decide_eq_true_eq] at hn
    obtain ⟨h4, h5⟩ := hn
    have e : ((i.toNat : Nat) : Int) = i := Int.toNat_of_nonneg h4
    refine ⟨⟨t, ?_, h2⟩, ?_, of_decide_eq_true hl, fun x hx => of_decide_eq_true (List.all_eq_true.mp hr x hx)⟩
    · show H a = some (.tup [.int ((i.toNat : Nat) : Int), .ref t])
      rw [e]
      exact h1
    · show i.toNat < ls.length
      omega
  · have hb : num = .bl b := hb
    subst hb
    exact absurd (show false = true from hn) (by decide)
def itOf (f : Cfg) : Itm := ⟨true, .int f.1, true, f.2⟩
theorem itOf_at {H : Hp} {a : Addr} {f : Cfg} (h : CfAt H a f) : ItAt H a (itOf f) := let ⟨t, x, y⟩ := h; ⟨t, x, y, .inl ⟨_, rfl⟩⟩
theorem itOf_cfg (f : Cfg) : (itOf f).cfg = f := by
  show ((((f.1 : Nat) : Int)).toNat, f.2) = f
  rw [Int.toNat_natCast]
theorem itOf_good {R : Nat} {ls : List Ln} {f : Cfg} (h : CfOk R ls f) : (itOf f).good R ls.length = true := by
  obtain ⟨h1, h2, h3⟩ := h
  unfold Itm.good regOk itOf numOk
  simp only [Bool.and_eq_true, decide_eq_true_eq, true_and]
  exact ⟨⟨by omega, by omega⟩, h2, List.all_eq_true.mpr fun x hx => decide_eq_true (h3 x hx)⟩
def cDat (f : Cfg) : PyData := .tuple [.int f.1, .tuple (dInts f.2)]
theorem cDat_lay (f : Cfg) : Lay 2 (cDat f) := Lay.tup fun d hd => by
  simp only [List.mem_cons, List.not_mem_nil, or_false] at hd
  rcases hd with rfl | rfl
  · exact (Lay.int _).mono (by decide)
  · exact lay_ints _
theorem cDat_dp {K : PySem.W.Frag} {H : Hp} {c : Addr} {f : Cfg} (h : CfAt H c f) : Dp K H (.ref c) (cDat f) := let ⟨_, a, b⟩ := h; .tup (sq_of a) (.cons (.int _) (.cons (.tup (sq_of b) (ints_all _)) .nil))
theorem cDat_eqv (f g : Cfg) : PyData.eqv (cDat f) (cDat g) = decide (f = g) := by
  obtain ⟨n, rs⟩ := f
  obtain ⟨m, ss⟩ := g
  unfold cDat
  simp only [PyData.eqv, PyData.eqvAll, eqv_ints, Bool.and_true]
  by_cases h1 : n = m
  · by_cases h2 : rs = ss <;> simp [h1, h2]
  · have : ¬ (n : Int) = (m : Int) := by omega
    simp [h1, this]
theorem eqv_none (g : Cfg) : PyData.eqv .none (cDat g) = false := by
  unfold cDat
  simp [PyData.eqv]
def consec (ls : List Ln) : List Cfg → Bool
  | f :: g :: r => decide (stepM ls f = some g) && consec ls (g :: r)
  | _ => true
def lastStop (ls : List Ln) (fs : List Cfg) : Bool := match fs[fs.length - 1]? with
  | some f => decide (ls[f.1]? = some .stop)
  | none => false
def chkM (ls : List Ln) (fs : List Cfg) : Bool := match fs with
  | [] => false
  | f :: _ => decide (f.1 = 0) && (lastStop ls fs && consec ls fs)
def isRunI (R : Nat) (ls : List Ln) (its : List Itm) : Bool := its.all (Itm.good R ls.length) && chkM ls (its.map Itm.cfg)
end RR
namespace RR
open PySem PySem.Spec PyProof.Rows L2
def stepsOk (ls : List Ln) (fs : List Cfg) : List Bool := List.zipWith (fun f g => decide (stepM ls f = some g)) fs (fs.drop 1)
theorem stepsOk_all (ls : List Ln) : ∀ fs : List Cfg, (stepsOk ls fs).all id = consec ls fs
  | [] => rfl
  | [f] => rfl
  | f :: g :: r => by
    have := stepsOk_all ls (g :: r)
    unfold stepsOk at this ⊢
    simp only [List.drop_succ_cons, List.drop_zero, List.zipWith_cons_cons, List.all_cons, id] at this ⊢
    rw [this]
    rfl
theorem stepsOk_take (ls : List Ln) {fs : List Cfg} {i : Nat} {f g : Cfg} (hf : fs[i]? = some f) (hg : fs[i + 1]? = some g) : (stepsOk ls fs).take (i + 1) = (stepsOk ls fs).take i ++ [decide (stepM ls f = some g)] := by
  rw [List.take_add_one]
  congr 1
  unfold stepsOk
  rw [List.getElem?_zipWith, hf, List.getElem?_drop, Nat.add_comm 1 i, hg]
  rfl
theorem stepsOk_len (ls : List Ln) (fs : List Cfg) : (stepsOk ls fs).length = fs.length - 1 := by
  unfold stepsOk
  rw [List.length_zipWith, List.length_drop]
  omega
abbrev ItsAt (H : Hp) (as : List Addr) (its : List Itm) : Prop := Paired (ItAt H) as its
theorem cut_drop (xs : List V) : cutV xs (some 1) none = xs.drop 1 := by
  cases xs with
  | nil => rfl
  | cons v xs => rw [cut_one]; rfl
end RR
namespace RR
theorem set_self {rs : List Int} {r : Nat} (h : r < rs.length) : rs.set r (rs.getD r 0) = rs := by
  rw [List.getD_eq_getElem?_getD, List.getElem?_eq_getElem h]
  exact List.set_getElem_self h
end RR
namespace RR
open PySem PySem.Spec PyProof.Rows L2
theorem runM_ok {R : Nat} {ls : List Ln} (M : MOk R ls) : ∀ {k : Nat} {f : Cfg}, CfOk R ls f → ∀ g ∈ runM ls k f, CfOk R ls g
  | 0, f, h, g, hg => by rw [List.mem_singleton.mp hg]; exact h
  | k + 1, f, h, g, hg => by
    rcases List.mem_cons.mp hg with rfl | hg
    · exact h
    · cases e : stepM ls f with
      | none => rw [e] at hg; exact (List.not_mem_nil hg).elim
      | some f' => rw [e] at hg; exact runM_ok M (step_ok M h e) g hg
theorem runM_len (ls : List Ln) : ∀ (k : Nat) (f : Cfg), 1 ≤ (runM ls k f).length ∧ (runM ls k f).length ≤ k + 1
  | 0, f => ⟨Nat.le_refl _, Nat.le_refl _⟩
  | k + 1, f => by
    show 1 ≤ (_ :: _).length ∧ (_ :: _).length ≤ _
    rw [List.length_cons]
    cases e : stepM ls f with
    | none => exact ⟨by omega, by simp⟩
    | some g => have := runM_len ls k g; exact ⟨by omega, by dsimp only; omega⟩
end RR
namespace RR
theorem pr_app {α β : Type} {G : α → β → Prop} : ∀ {l1 : List α} {m1 : List β} {l2 : List α} {m2 : List β}, PySem.Paired G l1 m1 → PySem.Paired G l2 m2 → PySem.Paired G (l1 ++ l2) (m1 ++ m2)
  | _, _, _, _, .nil, h => h
  | _, _, _, _, .cons a t, h => .cons a (pr_app t h)
theorem pr_take {α β : Type} {G : α → β → Prop} : ∀ (n : Nat) {l : List α} {m : List β}, PySem.Paired G l m → PySem.Paired G (l.take n) (m.take n)
  | 0, _, _, _ => by simp only [List.take_zero]; exact .nil
  | n + 1, _, _, .nil => .nil
  | n + 1, _, _, .cons a t => .cons a (pr_take n t)
theorem pr_drop {α β : Type} {G : α → β → Prop} : ∀ (n : Nat) {l : List α} {m : List β}, PySem.Paired G l m → PySem.Paired G (l.drop n) (m.drop n)
  | 0, _, _, h => h
  | n + 1, _, _, .nil => .nil
  | n + 1, _, _, .cons a t => pr_drop n t
end RR
namespace RR
theorem consec_snoc (ls : List Ln) (f g : Cfg) : ∀ fs : List Cfg, consec ls (fs ++ [f, g]) = (consec ls (fs ++ [f]) && decide (stepM ls f = some g))
  | [] => by simp [consec]
  | [a] => by simp [consec]
  | a :: b :: r => by
    have := consec_snoc ls f g (b :: r)
    simp only [List.cons_append, consec] at this ⊢
    rw [this, Bool.and_assoc]
theorem consec_at (ls : List Ln) : ∀ {fs : List Cfg} {i : Nat} {f g : Cfg}, consec ls fs = true → fs[i]? = some f → fs[i + 1]? = some g → stepM ls f = some g
  | [], i, f, g, _, h, _ => by simp at h
  | [a], i, f, g, _, _, h => by simp at h
  | a :: b :: r, 0, f, g, h, hf, hg => by
    simp only [consec, Bool.and_eq_true, decide_eq_true_eq] at h
    simp at hf hg
    subst hf hg
    exact h.1
  | a :: b :: r, i + 1, f, g, h, hf, hg => by
    simp only [consec, Bool.and_eq_true, decide_eq_true_eq] at h
    exact consec_at ls (fs := b :: r) h.2 (by simpa using hf) (by simpa using hg)
theorem isRunI_not_good {R : Nat} {ls : List Ln} {its : List Itm} {i : Nat} {it : Itm} (h : its[i]? = some it) (e : it.good R ls.length = false) : isRunI R ls its = false := by
  have : its.all (Itm.good R ls.length) = false := by
    refine Bool.eq_false_iff.mpr fun z => ?_
    have := List.all_eq_true.mp z _ (List.mem_of_getElem? h)
    rw [e] at this
    exact absurd this (by decide)
  unfold isRunI
  rw [this]
  rfl
theorem isRunI_not_step {R : Nat} {ls : List Ln} {its : List Itm} {i : Nat} {f g : Itm} (hf : its[i]? = some f) (hg : its[i + 1]? = some g) (e : ¬ stepM ls f.cfg = some g.cfg) : isRunI R ls its = false := by
  unfold isRunI
  have : chkM ls (its.map Itm.cfg) = false := by
    refine Bool.eq_false_iff.mpr fun z => e ?_
    have hc : consec ls (its.map Itm.cfg) = true := by
      cases h : its.map Itm.cfg with
      | nil => rfl
      | cons a r =>
        rw [h] at z
        unfold chkM at z
        simp only [Bool.and_eq_true] at z
        exact z.2.2
    exact consec_at ls hc (by rw [List.getElem?_map, hf]; rfl) (by rw [List.getElem?_map, hg]; rfl)
  rw [this, Bool.and_false]
end RR
namespace RR
open PySem PySem.Spec PyProof.Rows L2
/-- a drawn machine: the tuple, its lines, the object -/
structure MB (C : Addr) (H : Hp) (T L m : Addr) (R : Nat) (as : List Addr) (ls : List Ln) : Prop where
  t : H T = some (.tup [.int R, .ref L])
  l : LL H L as ls
  m : MA C H m R ls
theorem MB.keep {C : Addr} {H H' : Hp} {T L m : Addr} {R : Nat} {as : List Addr} {ls : List Ln} (h : MB C H T L m R as ls) (s : Same H H') : MB C H' T L m R as ls := ⟨s _ _ h.t, h.l.keep s, h.m.keep s⟩
theorem MB.ex {C : Addr} {H H' : Hp} {T L m l p : Addr} {ns : List Nat} {R : Nat} {as : List Addr} {ls : List Ln} (h : MB C H T L m R as ls) (K : TK H l p ns) (s : Ex p H H') (n : L ≠ p) : MB C H' T L m R as ls := by
  refine ⟨s _ _ (fun e => K.pl _ (by rw [← e]; exact h.t)) h.t, h.l.ex s n K.pl, h.m.ex s K.pl fun c d f e => ?_⟩
  obtain ⟨i, z⟩ := K.at_
  rw [z] at e
  cases e
end RR
namespace RR
open PySem PySem.Spec PyProof.Rows L2
theorem MB.off {C : Addr} {H : Hp} {T L m P : Addr} {R : Nat} {as : List Addr} {ls : List Ln} {xs : List V} {o : HO} (h : MB C H T L m R as ls) (hP : H P = some (.lst xs)) (n : L ≠ P) : MB C (upd H P o) T L m R as ls := by
  have ex : Ex P H (upd H P o) := fun b u ne e => by rw [upd_ne ne]; exact e
  refine ⟨ex _ _ (fun e => lst_ntup hP _ (by rw [← e]; exact h.t)) h.t, h.l.ex ex n (lst_ntup hP), h.m.ex ex (lst_ntup hP) fun c d f e => ?_⟩
  rw [hP] at e
  cases e
/-- what the law's loop keeps -/
structure LB (C : Addr) (H : Hp) (l p Dr Mc Ta La ma Tb Lb mb : Addr) (ds : List Nat) (Ra Rb : Nat) (aa ab : List Addr) (la lb : List Ln) : Prop where
  k : TK H l p ds
  d : H Dr = some (.lst (([Ta, Tb] : List Addr).map V.ref))
  c : H Mc = some (.lst (([ma, mb] : List Addr).map V.ref))
  a : MB C H Ta La ma Ra aa la
  b : MB C H Tb Lb mb Rb ab lb
  dp : Dr ≠ p
  cp : Mc ≠ p
  ap : La ≠ p
  bp : Lb ≠ p
theorem LB.keep {C : Addr} {H H' : Hp} {l p Dr Mc Ta La ma Tb Lb mb : Addr} {ds : List Nat} {Ra Rb : Nat} {aa ab : List Addr} {la lb : List Ln} (h : LB C H l p Dr Mc Ta La ma Tb Lb mb ds Ra Rb aa ab la lb) (s : Same H H') : LB C H' l p Dr Mc Ta La ma Tb Lb mb ds Ra Rb aa ab la lb :=
  ⟨h.k.keep s, s _ _ h.d, s _ _ h.c, h.a.keep s, h.b.keep s, h.dp, h.cp, h.ap, h.bp⟩
theorem LB.ex {C : Addr} {H H' : Hp} {l p Dr Mc Ta La ma Tb Lb mb : Addr} {ds : List Nat} {Ra Rb : Nat} {aa ab : List Addr} {la lb : List Ln} (h : LB C H l p Dr Mc Ta La ma Tb Lb mb ds Ra Rb aa ab la lb) (K : TK H' l p ds) (s : Ex p H H') : LB C H' l p Dr Mc Ta La ma Tb Lb mb ds Ra Rb aa ab la lb :=
  ⟨K, s _ _ h.dp h.d, s _ _ h.cp h.c, h.a.ex h.k s h.ap, h.b.ex h.k s h.bp, h.dp, h.cp, h.ap, h.bp⟩
/-- the k-th machine -/
theorem LB.pick {C : Addr} {H : Hp} {l p Dr Mc Ta La ma Tb Lb mb : Addr} {ds : List Nat} {Ra Rb : Nat} {aa ab : List Addr} {la lb : List Ln} (h : LB C H l p Dr Mc Ta La ma Tb Lb mb ds Ra Rb aa ab la lb) (Ma : MOk Ra la) (Mb : MOk Rb lb) {z : Int} (hz : z = 0 ∨ z = 1) :
    ∃ (T L m : Addr) (R : Nat) (as : List Addr) (ls : List Ln), atI (([Ta, Tb] : List Addr).map V.ref) z = some (.ref T) ∧ atI (([ma, mb] : List Addr).map V.ref) z = some (.ref m) ∧ MOk R ls ∧ (∀ {H' : Hp}, LB C H' l p Dr Mc Ta La ma Tb Lb mb ds Ra Rb aa ab la lb → MB C H' T L m R as ls) := by
  rcases hz with rfl | rfl
  · exact ⟨Ta, La, ma, Ra, aa, la, rfl, rfl, Ma, fun h => h.a⟩
  · exact ⟨Tb, Lb, mb, Rb, ab, lb, rfl, rfl, Mb, fun h => h.b⟩
end RR
namespace RR
open PySem PySem.Spec PyProof.Rows L2
theorem runM_head (ls : List Ln) (k : Nat) (f : Cfg) : ∃ r, runM ls k f = f :: r := by
  cases k with
  | zero => exact ⟨[], rfl⟩
  | succ k => exact ⟨_, rfl⟩
theorem consec_runM (ls : List Ln) : ∀ (k : Nat) (f : Cfg), consec ls (runM ls k f) = true
  | 0, _ => rfl
  | k + 1, f => by
    show consec ls (f :: (match stepM ls f with | none => [] | some g => runM ls k g)) = true
    cases e : stepM ls f with
    | none => rfl
    | some g =>
      dsimp only
      obtain ⟨r, hr⟩ := runM_head ls k g
      have := consec_runM ls k g
      rw [hr] at this ⊢
      show (decide (stepM ls f = some g) && consec ls (g :: r)) = true
      rw [this, e]
      simp
theorem isRunI_run {R : Nat} {ls : List Ln} (M : MOk R ls) {k : Nat} {rs : List Int} (h : CfOk R ls (0, rs)) : isRunI R ls ((runM ls k (0, rs)).map itOf) = lastStop ls (runM ls k (0, rs)) := by
  unfold isRunI
  have h1 : ((runM ls k (0, rs)).map itOf).all (Itm.good R ls.length) = true := by
    rw [List.all_map]
    exact List.all_eq_true.mpr fun f hf => itOf_good (runM_ok M h f hf)
  have h2 : ((runM ls k (0, rs)).map itOf).map Itm.cfg = runM ls k (0, rs) := by
    rw [List.map_map]
    have : (Itm.cfg ∘ itOf) = id := funext fun f => itOf_cfg f
    rw [this, List.map_id]
  rw [h1, h2, Bool.true_and]
  have h3 := consec_runM ls k (0, rs)
  obtain ⟨r, hr⟩ := runM_head ls k (0, rs)
  rw [hr] at h3 ⊢
  show (decide ((0, rs).1 = 0) && (lastStop ls _ && consec ls _)) = _
  rw [h3, Bool.and_true]
  rfl
theorem itsOf {H : Hp} {as : List Addr} {fs : List Cfg} (h : CfsAt H as fs) : ItsAt H as (fs.map itOf) := by
  induction h with
  | nil => exact .nil
  | cons a t ih => exact .cons (itOf_at a) ih
theorem lns_eqv (ls : List Ln) : PyData.eqv (.list (ls.map Ln.dat)) (.list (ls.map Ln.dat)) = true := SeqAt.eqv_refl _ (lay_lns ls).1
end RR
namespace RR
open PySem PySem.Spec PyProof.Rows L2
theorem CfsAt.ex {H H' : Hp} {as : List Addr} {fs : List Cfg} {l p : Addr} {ns : List Nat} (h : CfsAt H as fs) (K : TK H l p ns) (s : Ex p H H') : CfsAt H' as fs := Paired.mapP h fun _ _ ⟨t, a, b⟩ => ⟨t, s _ _ (fun e => K.pl _ (by rw [← e]; exact a)) a, s _ _ (fun e => K.pl _ (by rw [← e]; exact b)) b⟩
end RR

namespace RR
open PySem PySem.Spec PyProof.Rows L2
namespace WK
variable {σ : L2.St} {H : Hp} {Q : VK}
theorem tV0 {v : V} {t : L2.St} (q : Q v H) : tVar 0 (some v :: t) H Q := ⟨v, rfl, q⟩
theorem tV1 {a0 : Option V} {v : V} {t : L2.St} (q : Q v H) : tVar 1 (a0 :: some v :: t) H Q := ⟨v, rfl, q⟩
theorem tV2 {a0 a1 : Option V} {v : V} {t : L2.St} (q : Q v H) : tVar 2 (a0 :: a1 :: some v :: t) H Q := ⟨v, rfl, q⟩
theorem tV3 {a0 a1 a2 : Option V} {v : V} {t : L2.St} (q : Q v H) : tVar 3 (a0 :: a1 :: a2 :: some v :: t) H Q := ⟨v, rfl, q⟩
theorem tV4 {a0 a1 a2 a3 : Option V} {v : V} {t : L2.St} (q : Q v H) : tVar 4 (a0 :: a1 :: a2 :: a3 :: some v :: t) H Q := ⟨v, rfl, q⟩
theorem tV5 {a0 a1 a2 a3 a4 : Option V} {v : V} {t : L2.St} (q : Q v H) : tVar 5 (a0 :: a1 :: a2 :: a3 :: a4 :: some v :: t) H Q := ⟨v, rfl, q⟩
theorem tV6 {a0 a1 a2 a3 a4 a5 : Option V} {v : V} {t : L2.St} (q : Q v H) : tVar 6 (a0 :: a1 :: a2 :: a3 :: a4 :: a5 :: some v :: t) H Q := ⟨v, rfl, q⟩
theorem tV7 {a0 a1 a2 a3 a4 a5 a6 : Option V} {v : V} {t : L2.St} (q : Q v H) : tVar 7 (a0 :: a1 :: a2 :: a3 :: a4 :: a5 :: a6 :: some v :: t) H Q := ⟨v, rfl, q⟩
theorem tV8 {a0 a1 a2 a3 a4 a5 a6 a7 : Option V} {v : V} {t : L2.St} (q : Q v H) : tVar 8 (a0 :: a1 :: a2 :: a3 :: a4 :: a5 :: a6 :: a7 :: some v :: t) H Q := ⟨v, rfl, q⟩
theorem tV9 {a0 a1 a2 a3 a4 a5 a6 a7 a8 : Option V} {v : V} {t : L2.St} (q : Q v H) : tVar 9 (a0 :: a1 :: a2 :: a3 :: a4 :: a5 :: a6 :: a7 :: a8 :: some v :: t) H Q := ⟨v, rfl, q⟩
theorem tV10 {a0 a1 a2 a3 a4 a5 a6 a7 a8 a9 : Option V} {v : V} {t : L2.St} (q : Q v H) : tVar 10 (a0 :: a1 :: a2 :: a3 :: a4 :: a5 :: a6 :: a7 :: a8 :: a9 :: some v :: t) H Q := ⟨v, rfl, q⟩
theorem tV11 {a0 a1 a2 a3 a4 a5 a6 a7 a8 a9 a10 : Option V} {v : V} {t : L2.St} (q : Q v H) : tVar 11 (a0 :: a1 :: a2 :: a3 :: a4 :: a5 :: a6 :: a7 :: a8 :: a9 :: a10 :: some v :: t) H Q := ⟨v, rfl, q⟩
theorem tV12 {a0 a1 a2 a3 a4 a5 a6 a7 a8 a9 a10 a11 : Option V} {v : V} {t : L2.St} (q : Q v H) : tVar 12 (a0 :: a1 :: a2 :: a3 :: a4 :: a5 :: a6 :: a7 :: a8 :: a9 :: a10 :: a11 :: some v :: t) H Q := ⟨v, rfl, q⟩
theorem tV13 {a0 a1 a2 a3 a4 a5 a6 a7 a8 a9 a10 a11 a12 : Option V} {v : V} {t : L2.St} (q : Q v H) : tVar 13 (a0 :: a1 :: a2 :: a3 :: a4 :: a5 :: a6 :: a7 :: a8 :: a9 :: a10 :: a11 :: a12 :: some v :: t) H Q := ⟨v, rfl, q⟩
theorem tV14 {a0 a1 a2 a3 a4 a5 a6 a7 a8 a9 a10 a11 a12 a13 : Option V} {v : V} {t : L2.St} (q : Q v H) : tVar 14 (a0 :: a1 :: a2 :: a3 :: a4 :: a5 :: a6 :: a7 :: a8 :: a9 :: a10 :: a11 :: a12 :: a13 :: some v :: t) H Q := ⟨v, rfl, q⟩
theorem tV15 {a0 a1 a2 a3 a4 a5 a6 a7 a8 a9 a10 a11 a12 a13 a14 : Option V} {v : V} {t : L2.St} (q : Q v H) : tVar 15 (a0 :: a1 :: a2 :: a3 :: a4 :: a5 :: a6 :: a7 :: a8 :: a9 :: a10 :: a11 :: a12 :: a13 :: a14 :: some v :: t) H Q := ⟨v, rfl, q⟩
theorem tV16 {a0 a1 a2 a3 a4 a5 a6 a7 a8 a9 a10 a11 a12 a13 a14 a15 : Option V} {v : V} {t : L2.St} (q : Q v H) : tVar 16 (a0 :: a1 :: a2 :: a3 :: a4 :: a5 :: a6 :: a7 :: a8 :: a9 :: a10 :: a11 :: a12 :: a13 :: a14 :: a15 :: some v :: t) H Q := ⟨v, rfl, q⟩
theorem tV17 {a0 a1 a2 a3 a4 a5 a6 a7 a8 a9 a10 a11 a12 a13 a14 a15 a16 : Option V} {v : V} {t : L2.St} (q : Q v H) : tVar 17 (a0 :: a1 :: a2 :: a3 :: a4 :: a5 :: a6 :: a7 :: a8 :: a9 :: a10 :: a11 :: a12 :: a13 :: a14 :: a15 :: a16 :: some v :: t) H Q := ⟨v, rfl, q⟩
theorem tV18 {a0 a1 a2 a3 a4 a5 a6 a7 a8 a9 a10 a11 a12 a13 a14 a15 a16 a17 : Option V} {v : V} {t : L2.St} (q : Q v H) : tVar 18 (a0 :: a1 :: a2 :: a3 :: a4 :: a5 :: a6 :: a7 :: a8 :: a9 :: a10 :: a11 :: a12 :: a13 :: a14 :: a15 :: a16 :: a17 :: some v :: t) H Q := ⟨v, rfl, q⟩
theorem tV19 {a0 a1 a2 a3 a4 a5 a6 a7 a8 a9 a10 a11 a12 a13 a14 a15 a16 a17 a18 : Option V} {v : V} {t : L2.St} (q : Q v H) : tVar 19 (a0 :: a1 :: a2 :: a3 :: a4 :: a5 :: a6 :: a7 :: a8 :: a9 :: a10 :: a11 :: a12 :: a13 :: a14 :: a15 :: a16 :: a17 :: a18 :: some v :: t) H Q := ⟨v, rfl, q⟩
theorem tV20 {a0 a1 a2 a3 a4 a5 a6 a7 a8 a9 a10 a11 a12 a13 a14 a15 a16 a17 a18 a19 : Option V} {v : V} {t : L2.St} (q : Q v H) : tVar 20 (a0 :: a1 :: a2 :: a3 :: a4 :: a5 :: a6 :: a7 :: a8 :: a9 :: a10 :: a11 :: a12 :: a13 :: a14 :: a15 :: a16 :: a17 :: a18 :: a19 :: some v :: t) H Q := ⟨v, rfl, q⟩
theorem tV21 {a0 a1 a2 a3 a4 a5 a6 a7 a8 a9 a10 a11 a12 a13 a14 a15 a16 a17 a18 a19 a20 : Option V} {v : V} {t : L2.St} (q : Q v H) : tVar 21 (a0 :: a1 :: a2 :: a3 :: a4 :: a5 :: a6 :: a7 :: a8 :: a9 :: a10 :: a11 :: a12 :: a13 :: a14 :: a15 :: a16 :: a17 :: a18 :: a19 :: a20 :: some v :: t) H Q := ⟨v, rfl, q⟩
theorem tV22 {a0 a1 a2 a3 a4 a5 a6 a7 a8 a9 a10 a11 a12 a13 a14 a15 a16 a17 a18 a19 a20 a21 : Option V} {v : V} {t : L2.St} (q : Q v H) : tVar 22 (a0 :: a1 :: a2 :: a3 :: a4 :: a5 :: a6 :: a7 :: a8 :: a9 :: a10 :: a11 :: a12 :: a13 :: a14 :: a15 :: a16 :: a17 :: a18 :: a19 :: a20 :: a21 :: some v :: t) H Q := ⟨v, rfl, q⟩
theorem tV23 {a0 a1 a2 a3 a4 a5 a6 a7 a8 a9 a10 a11 a12 a13 a14 a15 a16 a17 a18 a19 a20 a21 a22 : Option V} {v : V} {t : L2.St} (q : Q v H) : tVar 23 (a0 :: a1 :: a2 :: a3 :: a4 :: a5 :: a6 :: a7 :: a8 :: a9 :: a10 :: a11 :: a12 :: a13 :: a14 :: a15 :: a16 :: a17 :: a18 :: a19 :: a20 :: a21 :: a22 :: some v :: t) H Q := ⟨v, rfl, q⟩
theorem tV24 {a0 a1 a2 a3 a4 a5 a6 a7 a8 a9 a10 a11 a12 a13 a14 a15 a16 a17 a18 a19 a20 a21 a22 a23 : Option V} {v : V} {t : L2.St} (q : Q v H) : tVar 24 (a0 :: a1 :: a2 :: a3 :: a4 :: a5 :: a6 :: a7 :: a8 :: a9 :: a10 :: a11 :: a12 :: a13 :: a14 :: a15 :: a16 :: a17 :: a18 :: a19 :: a20 :: a21 :: a22 :: a23 :: some v :: t) H Q := ⟨v, rfl, q⟩
theorem tV25 {a0 a1 a2 a3 a4 a5 a6 a7 a8 a9 a10 a11 a12 a13 a14 a15 a16 a17 a18 a19 a20 a21 a22 a23 a24 : Option V} {v : V} {t : L2.St} (q : Q v H) : tVar 25 (a0 :: a1 :: a2 :: a3 :: a4 :: a5 :: a6 :: a7 :: a8 :: a9 :: a10 :: a11 :: a12 :: a13 :: a14 :: a15 :: a16 :: a17 :: a18 :: a19 :: a20 :: a21 :: a22 :: a23 :: a24 :: some v :: t) H Q := ⟨v, rfl, q⟩
theorem tV26 {a0 a1 a2 a3 a4 a5 a6 a7 a8 a9 a10 a11 a12 a13 a14 a15 a16 a17 a18 a19 a20 a21 a22 a23 a24 a25 : Option V} {v : V} {t : L2.St} (q : Q v H) : tVar 26 (a0 :: a1 :: a2 :: a3 :: a4 :: a5 :: a6 :: a7 :: a8 :: a9 :: a10 :: a11 :: a12 :: a13 :: a14 :: a15 :: a16 :: a17 :: a18 :: a19 :: a20 :: a21 :: a22 :: a23 :: a24 :: a25 :: some v :: t) H Q := ⟨v, rfl, q⟩
theorem tV27 {a0 a1 a2 a3 a4 a5 a6 a7 a8 a9 a10 a11 a12 a13 a14 a15 a16 a17 a18 a19 a20 a21 a22 a23 a24 a25 a26 : Option V} {v : V} {t : L2.St} (q : Q v H) : tVar 27 (a0 :: a1 :: a2 :: a3 :: a4 :: a5 :: a6 :: a7 :: a8 :: a9 :: a10 :: a11 :: a12 :: a13 :: a14 :: a15 :: a16 :: a17 :: a18 :: a19 :: a20 :: a21 :: a22 :: a23 :: a24 :: a25 :: a26 :: some v :: t) H Q := ⟨v, rfl, q⟩
theorem tV28 {a0 a1 a2 a3 a4 a5 a6 a7 a8 a9 a10 a11 a12 a13 a14 a15 a16 a17 a18 a19 a20 a21 a22 a23 a24 a25 a26 a27 : Option V} {v : V} {t : L2.St} (q : Q v H) : tVar 28 (a0 :: a1 :: a2 :: a3 :: a4 :: a5 :: a6 :: a7 :: a8 :: a9 :: a10 :: a11 :: a12 :: a13 :: a14 :: a15 :: a16 :: a17 :: a18 :: a19 :: a20 :: a21 :: a22 :: a23 :: a24 :: a25 :: a26 :: a27 :: some v :: t) H Q := ⟨v, rfl, q⟩
theorem tV29 {a0 a1 a2 a3 a4 a5 a6 a7 a8 a9 a10 a11 a12 a13 a14 a15 a16 a17 a18 a19 a20 a21 a22 a23 a24 a25 a26 a27 a28 : Option V} {v : V} {t : L2.St} (q : Q v H) : tVar 29 (a0 :: a1 :: a2 :: a3 :: a4 :: a5 :: a6 :: a7 :: a8 :: a9 :: a10 :: a11 :: a12 :: a13 :: a14 :: a15 :: a16 :: a17 :: a18 :: a19 :: a20 :: a21 :: a22 :: a23 :: a24 :: a25 :: a26 :: a27 :: a28 :: some v :: t) H Q := ⟨v, rfl, q⟩
theorem gN0 {R : L2.St → Hp → Prop} {v : V} {b : Option V} {t : L2.St} (q : R (some v :: t) H) : gName 0 v (b :: t) H R := q
theorem gN1 {R : L2.St → Hp → Prop} {a0 b : Option V} {v : V} {t : L2.St} (q : R (a0 :: some v :: t) H) : gName 1 v (a0 :: b :: t) H R := q
theorem gN2 {R : L2.St → Hp → Prop} {a0 a1 b : Option V} {v : V} {t : L2.St} (q : R (a0 :: a1 :: some v :: t) H) : gName 2 v (a0 :: a1 :: b :: t) H R := q
theorem gN3 {R : L2.St → Hp → Prop} {a0 a1 a2 b : Option V} {v : V} {t : L2.St} (q : R (a0 :: a1 :: a2 :: some v :: t) H) : gName 3 v (a0 :: a1 :: a2 :: b :: t) H R := q
theorem gN4 {R : L2.St → Hp → Prop} {a0 a1 a2 a3 b : Option V} {v : V} {t : L2.St} (q : R (a0 :: a1 :: a2 :: a3 :: some v :: t) H) : gName 4 v (a0 :: a1 :: a2 :: a3 :: b :: t) H R := q
theorem gN5 {R : L2.St → Hp → Prop} {a0 a1 a2 a3 a4 b : Option V} {v : V} {t : L2.St} (q : R (a0 :: a1 :: a2 :: a3 :: a4 :: some v :: t) H) : gName 5 v (a0 :: a1 :: a2 :: a3 :: a4 :: b :: t) H R := q
theorem gN6 {R : L2.St → Hp → Prop} {a0 a1 a2 a3 a4 a5 b : Option V} {v : V} {t : L2.St} (q : R (a0 :: a1 :: a2 :: a3 :: a4 :: a5 :: some v :: t) H) : gName 6 v (a0 :: a1 :: a2 :: a3 :: a4 :: a5 :: b :: t) H R := q
theorem gN7 {R : L2.St → Hp → Prop} {a0 a1 a2 a3 a4 a5 a6 b : Option V} {v : V} {t : L2.St} (q : R (a0 :: a1 :: a2 :: a3 :: a4 :: a5 :: a6 :: some v :: t) H) : gName 7 v (a0 :: a1 :: a2 :: a3 :: a4 :: a5 :: a6 :: b :: t) H R := q
theorem gN8 {R : L2.St → Hp → Prop} {a0 a1 a2 a3 a4 a5 a6 a7 b : Option V} {v : V} {t : L2.St} (q : R (a0 :: a1 :: a2 :: a3 :: a4 :: a5 :: a6 :: a7 :: some v :: t) H) : gName 8 v (a0 :: a1 :: a2 :: a3 :: a4 :: a5 :: a6 :: a7 :: b :: t) H R := q
theorem gN9 {R : L2.St → Hp → Prop} {a0 a1 a2 a3 a4 a5 a6 a7 a8 b : Option V} {v : V} {t : L2.St} (q : R (a0 :: a1 :: a2 :: a3 :: a4 :: a5 :: a6 :: a7 :: a8 :: some v :: t) H) : gName 9 v (a0 :: a1 :: a2 :: a3 :: a4 :: a5 :: a6 :: a7 :: a8 :: b :: t) H R := q
theorem gN10 {R : L2.St → Hp → Prop} {a0 a1 a2 a3 a4 a5 a6 a7 a8 a9 b : Option V} {v : V} {t : L2.St} (q : R (a0 :: a1 :: a2 :: a3 :: a4 :: a5 :: a6 :: a7 :: a8 :: a9 :: some v :: t) H) : gName 10 v (a0 :: a1 :: a2 :: a3 :: a4 :: a5 :: a6 :: a7 :: a8 :: a9 :: b :: t) H R := q
theorem gN11 {R : L2.St → Hp → Prop} {a0 a1 a2 a3 a4 a5 a6 a7 a8 a9 a10 b : Option V} {v : V} {t : L2.St} (q : R (a0 :: a1 :: a2 :: a3 :: a4 :: a5 :: a6 :: a7 :: a8 :: a9 :: a10 :: some v :: t) H) : gName 11 v (a0 :: a1 :: a2 :: a3 :: a4 :: a5 :: a6 :: a7 :: a8 :: a9 :: a10 :: b :: t) H R := q
theorem gN12 {R : L2.St → Hp → Prop} {a0 a1 a2 a3 a4 a5 a6 a7 a8 a9 a10 a11 b : Option V} {v : V} {t : L2.St} (q : R (a0 :: a1 :: a2 :: a3 :: a4 :: a5 :: a6 :: a7 :: a8 :: a9 :: a10 :: a11 :: some v :: t) H) : gName 12 v (a0 :: a1 :: a2 :: a3 :: a4 :: a5 :: a6 :: a7 :: a8 :: a9 :: a10 :: a11 :: b :: t) H R := q
theorem gN13 {R : L2.St → Hp → Prop} {a0 a1 a2 a3 a4 a5 a6 a7 a8 a9 a10 a11 a12 b : Option V} {v : V} {t : L2.St} (q : R (a0 :: a1 :: a2 :: a3 :: a4 :: a5 :: a6 :: a7 :: a8 :: a9 :: a10 :: a11 :: a12 :: some v :: t) H) : gName 13 v (a0 :: a1 :: a2 :: a3 :: a4 :: a5 :: a6 :: a7 :: a8 :: a9 :: a10 :: a11 :: a12 :: b :: t) H R := q
theorem gN14 {R : L2.St → Hp → Prop} {a0 a1 a2 a3 a4 a5 a6 a7 a8 a9 a10 a11 a12 a13 b : Option V} {v : V} {t : L2.St} (q : R (a0 :: a1 :: a2 :: a3 :: a4 :: a5 :: a6 :: a7 :: a8 :: a9 :: a10 :: a11 :: a12 :: a13 :: some v :: t) H) : gName 14 v (a0 :: a1 :: a2 :: a3 :: a4 :: a5 :: a6 :: a7 :: a8 :: a9 :: a10 :: a11 :: a12 :: a13 :: b :: t) H R := q
theorem gN15 {R : L2.St → Hp → Prop} {a0 a1 a2 a3 a4 a5 a6 a7 a8 a9 a10 a11 a12 a13 a14 b : Option V} {v : V} {t : L2.St} (q : R (a0 :: a1 :: a2 :: a3 :: a4 :: a5 :: a6 :: a7 :: a8 :: a9 :: a10 :: a11 :: a12 :: a13 :: a14 :: some v :: t) H) : gName 15 v (a0 :: a1 :: a2 :: a3 :: a4 :: a5 :: a6 :: a7 :: a8 :: a9 :: a10 :: a11 :: a12 :: a13 :: a14 :: b :: t) H R := q
theorem gN16 {R : L2.St → Hp → Prop} {a0 a1 a2 a3 a4 a5 a6 a7 a8 a9 a10 a11 a12 a13 a14 a15 b : Option V} {v : V} {t : L2.St} (q : R (a0 :: a1 :: a2 :: a3 :: a4 :: a5 :: a6 :: a7 :: a8 :: a9 :: a10 :: a11 :: a12 :: a13 :: a14 :: a15 :: some v :: t) H) : gName 16 v (a0 :: a1 :: a2 :: a3 :: a4 :: a5 :: a6 :: a7 :: a8 :: a9 :: a10 :: a11 :: a12 :: a13 :: a14 :: a15 :: b :: t) H R := q
theorem gN17 {R : L2.St → Hp → Prop} {a0 a1 a2 a3 a4 a5 a6 a7 a8 a9 a10 a11 a12 a13 a14 a15 a16 b : Option V} {v : V} {t : L2.St} (q : R (a0 :: a1 :: a2 :: a3 :: a4 :: a5 :: a6 :: a7 :: a8 :: a9 :: a10 :: a11 :: a12 :: a13 :: a14 :: a15 :: a16 :: some v :: t) H) : gName 17 v (a0 :: a1 :: a2 :: a3 :: a4 :: a5 :: a6 :: a7 :: a8 :: a9 :: a10 :: a11 :: a12 :: a13 :: a14 :: a15 :: a16 :: b :: t) H R := q
theorem gN18 {R : L2.St → Hp → Prop} {a0 a1 a2 a3 a4 a5 a6 a7 a8 a9 a10 a11 a12 a13 a14 a15 a16 a17 b : Option V} {v : V} {t : L2.St} (q : R (a0 :: a1 :: a2 :: a3 :: a4 :: a5 :: a6 :: a7 :: a8 :: a9 :: a10 :: a11 :: a12 :: a13 :: a14 :: a15 :: a16 :: a17 :: some v :: t) H) : gName 18 v (a0 :: a1 :: a2 :: a3 :: a4 :: a5 :: a6 :: a7 :: a8 :: a9 :: a10 :: a11 :: a12 :: a13 :: a14 :: a15 :: a16 :: a17 :: b :: t) H R := q
theorem gN19 {R : L2.St → Hp → Prop} {a0 a1 a2 a3 a4 a5 a6 a7 a8 a9 a10 a11 a12 a13 a14 a15 a16 a17 a18 b : Option V} {v : V} {t : L2.St} (q : R (a0 :: a1 :: a2 :: a3 :: a4 :: a5 :: a6 :: a7 :: a8 :: a9 :: a10 :: a11 :: a12 :: a13 :: a14 :: a15 :: a16 :: a17 :: a18 :: some v :: t) H) : gName 19 v (a0 :: a1 :: a2 :: a3 :: a4 :: a5 :: a6 :: a7 :: a8 :: a9 :: a10 :: a11 :: a12 :: a13 :: a14 :: a15 :: a16 :: a17 :: a18 :: b :: t) H R := q
theorem gN20 {R : L2.St → Hp → Prop} {a0 a1 a2 a3 a4 a5 a6 a7 a8 a9 a10 a11 a12 a13 a14 a15 a16 a17 a18 a19 b : Option V} {v : V} {t : L2.St} (q : R (a0 :: a1 :: a2 :: a3 :: a4 :: a5 :: a6 :: a7 :: a8 :: a9 :: a10 :: a11 :: a12 :: a13 :: a14 :: a15 :: a16 :: a17 :: a18 :: a19 :: some v :: t) H) : gName 20 v (a0 :: a1 :: a2 :: a3 :: a4 :: a5 :: a6 :: a7 :: a8 :: a9 :: a10 :: a11 :: a12 :: a13 :: a14 :: a15 :: a16 :: a17 :: a18 :: a19 :: b :: t) H R := q
theorem gN21 {R : L2.St → Hp → Prop} {a0 a1 a2 a3 a4 a5 a6 a7 a8 a9 a10 a11 a12 a13 a14 a15 a16 a17 a18 a19 a20 b : Option V} {v : V} {t : L2.St} (q : R (a0 :: a1 :: a2 :: a3 :: a4 :: a5 :: a6 :: a7 :: a8 :: a9 :: a10 :: a11 :: a12 :: a13 :: a14 :: a15 :: a16 :: a17 :: a18 :: a19 :: a20 :: some v :: t) H) : gName 21 v (a0 :: a1 :: a2 :: a3 :: a4 :: a5 :: a6 :: a7 :: a8 :: a9 :: a10 :: a11 :: a12 :: a13 :: a14 :: a15 :: a16 :: a17 :: a18 :: a19 :: a20 :: b :: t) H R := q
theorem gN22 {R : L2.St → Hp → Prop} {a0 a1 a2 a3 a4 a5 a6 a7 a8 a9 a10 a11 a12 a13 a14 a15 a16 a17 a18 a19 a20 a21 b : Option V} {v : V} {t : L2.St} (q : R (a0 :: a1 :: a2 :: a3 :: a4 :: a5 :: a6 :: a7 :: a8 :: a9 :: a10 :: a11 :: a12 :: a13 :: a14 :: a15 :: a16 :: a17 :: a18 :: a19 :: a20 :: a21 :: some v :: t) H) : gName 22 v (a0 :: a1 :: a2 :: a3 :: a4 :: a5 :: a6 :: a7 :: a8 :: a9 :: a10 :: a11 :: a12 :: a13 :: a14 :: a15 :: a16 :: a17 :: a18 :: a19 :: a20 :: a21 :: b :: t) H R := q
theorem gN23 {R : L2.St → Hp → Prop} {a0 a1 a2 a3 a4 a5 a6 a7 a8 a9 a10 a11 a12 a13 a14 a15 a16 a17 a18 a19 a20 a21 a22 b : Option V} {v : V} {t : L2.St} (q : R (a0 :: a1 :: a2 :: a3 :: a4 :: a5 :: a6 :: a7 :: a8 :: a9 :: a10 :: a11 :: a12 :: a13 :: a14 :: a15 :: a16 :: a17 :: a18 :: a19 :: a20 :: a21 :: a22 :: some v :: t) H) : gName 23 v (a0 :: a1 :: a2 :: a3 :: a4 :: a5 :: a6 :: a7 :: a8 :: a9 :: a10 :: a11 :: a12 :: a13 :: a14 :: a15 :: a16 :: a17 :: a18 :: a19 :: a20 :: a21 :: a22 :: b :: t) H R := q
theorem gN24 {R : L2.St → Hp → Prop} {a0 a1 a2 a3 a4 a5 a6 a7 a8 a9 a10 a11 a12 a13 a14 a15 a16 a17 a18 a19 a20 a21 a22 a23 b : Option V} {v : V} {t : L2.St} (q : R (a0 :: a1 :: a2 :: a3 :: a4 :: a5 :: a6 :: a7 :: a8 :: a9 :: a10 :: a11 :: a12 :: a13 :: a14 :: a15 :: a16 :: a17 :: a18 :: a19 :: a20 :: a21 :: a22 :: a23 :: some v :: t) H) : gName 24 v (a0 :: a1 :: a2 :: a3 :: a4 :: a5 :: a6 :: a7 :: a8 :: a9 :: a10 :: a11 :: a12 :: a13 :: a14 :: a15 :: a16 :: a17 :: a18 :: a19 :: a20 :: a21 :: a22 :: a23 :: b :: t) H R := q
theorem gN25 {R : L2.St → Hp → Prop} {a0 a1 a2 a3 a4 a5 a6 a7 a8 a9 a10 a11 a12 a13 a14 a15 a16 a17 a18 a19 a20 a21 a22 a23 a24 b : Option V} {v : V} {t : L2.St} (q : R (a0 :: a1 :: a2 :: a3 :: a4 :: a5 :: a6 :: a7 :: a8 :: a9 :: a10 :: a11 :: a12 :: a13 :: a14 :: a15 :: a16 :: a17 :: a18 :: a19 :: a20 :: a21 :: a22 :: a23 :: a24 :: some v :: t) H) : gName 25 v (a0 :: a1 :: a2 :: a3 :: a4 :: a5 :: a6 :: a7 :: a8 :: a9 :: a10 :: a11 :: a12 :: a13 :: a14 :: a15 :: a16 :: a17 :: a18 :: a19 :: a20 :: a21 :: a22 :: a23 :: a24 :: b :: t) H R := q
theorem gN26 {R : L2.St → Hp → Prop} {a0 a1 a2 a3 a4 a5 a6 a7 a8 a9 a10 a11 a12 a13 a14 a15 a16 a17 a18 a19 a20 a21 a22 a23 a24 a25 b : Option V} {v : V} {t : L2.St} (q : R (a0 :: a1 :: a2 :: a3 :: a4 :: a5 :: a6 :: a7 :: a8 :: a9 :: a10 :: a11 :: a12 :: a13 :: a14 :: a15 :: a16 :: a17 :: a18 :: a19 :: a20 :: a21 :: a22 :: a23 :: a24 :: a25 :: some v :: t) H) : gName 26 v (a0 :: a1 :: a2 :: a3 :: a4 :: a5 :: a6 :: a7 :: a8 :: a9 :: a10 :: a11 :: a12 :: a13 :: a14 :: a15 :: a16 :: a17 :: a18 :: a19 :: a20 :: a21 :: a22 :: a23 :: a24 :: a25 :: b :: t) H R := q
theorem gN27 {R : L2.St → Hp → Prop} {a0 a1 a2 a3 a4 a5 a6 a7 a8 a9 a10 a11 a12 a13 a14 a15 a16 a17 a18 a19 a20 a21 a22 a23 a24 a25 a26 b : Option V} {v : V} {t : L2.St} (q : R (a0 :: a1 :: a2 :: a3 :: a4 :: a5 :: a6 :: a7 :: a8 :: a9 :: a10 :: a11 :: a12 :: a13 :: a14 :: a15 :: a16 :: a17 :: a18 :: a19 :: a20 :: a21 :: a22 :: a23 :: a24 :: a25 :: a26 :: some v :: t) H) : gName 27 v (a0 :: a1 :: a2 :: a3 :: a4 :: a5 :: a6 :: a7 :: a8 :: a9 :: a10 :: a11 :: a12 :: a13 :: a14 :: a15 :: a16 :: a17 :: a18 :: a19 :: a20 :: a21 :: a22 :: a23 :: a24 :: a25 :: a26 :: b :: t) H R := q
theorem gN28 {R : L2.St → Hp → Prop} {a0 a1 a2 a3 a4 a5 a6 a7 a8 a9 a10 a11 a12 a13 a14 a15 a16 a17 a18 a19 a20 a21 a22 a23 a24 a25 a26 a27 b : Option V} {v : V} {t : L2.St} (q : R (a0 :: a1 :: a2 :: a3 :: a4 :: a5 :: a6 :: a7 :: a8 :: a9 :: a10 :: a11 :: a12 :: a13 :: a14 :: a15 :: a16 :: a17 :: a18 :: a19 :: a20 :: a21 :: a22 :: a23 :: a24 :: a25 :: a26 :: a27 :: some v :: t) H) : gName 28 v (a0 :: a1 :: a2 :: a3 :: a4 :: a5 :: a6 :: a7 :: a8 :: a9 :: a10 :: a11 :: a12 :: a13 :: a14 :: a15 :: a16 :: a17 :: a18 :: a19 :: a20 :: a21 :: a22 :: a23 :: a24 :: a25 :: a26 :: a27 :: b :: t) H R := q
theorem gN29 {R : L2.St → Hp → Prop} {a0 a1 a2 a3 a4 a5 a6 a7 a8 a9 a10 a11 a12 a13 a14 a15 a16 a17 a18 a19 a20 a21 a22 a23 a24 a25 a26 a27 a28 b : Option V} {v : V} {t : L2.St} (q : R (a0 :: a1 :: a2 :: a3 :: a4 :: a5 :: a6 :: a7 :: a8 :: a9 :: a10 :: a11 :: a12 :: a13 :: a14 :: a15 :: a16 :: a17 :: a18 :: a19 :: a20 :: a21 :: a22 :: a23 :: a24 :: a25 :: a26 :: a27 :: a28 :: some v :: t) H) : gName 29 v (a0 :: a1 :: a2 :: a3 :: a4 :: a5 :: a6 :: a7 :: a8 :: a9 :: a10 :: a11 :: a12 :: a13 :: a14 :: a15 :: a16 :: a17 :: a18 :: a19 :: a20 :: a21 :: a22 :: a23 :: a24 :: a25 :: a26 :: a27 :: a28 :: b :: t) H R := q
theorem op {r : R2} {ta tb : TE} (q : ta σ H fun x H1 => tb σ H1 fun y H2 => r x y H2 Q) : tOp r ta tb σ H Q := q
theorem un {r : V → Hp → VK → Prop} {ta : TE} (q : ta σ H fun x H1 => r x H1 Q) : tUn r ta σ H Q := q
theorem rU_ {g : Int → V} {i : Int} (q : Q (g i) H) : rU g (.int i) H Q := ⟨i, rfl, q⟩
theorem i0 {g : Int → Int → V} {i j : Int} (q : Q (g i j) H) : rI0 g (.int i) (.int j) H Q := ⟨i, j, rfl, rfl, q⟩
theorem nil {Q : List V → Hp → Prop} (q : Q [] H) : tNil σ H Q := q
theorem cons {ta : TE} {tr : TA} {Q : List V → Hp → Prop} (q : ta σ H fun x H1 => tr σ H1 fun xs H2 => Q (x :: xs) H2) : tCons ta tr σ H Q := q
theorem cst {v : V} (q : Q v H) : tC v σ H Q := q
theorem nopart {Q : Option Int → Hp → Prop} (q : Q none H) : tNoPart σ H Q := q
theorem part {t : TE} {Q : Option Int → Hp → Prop} (q : t σ H fun x H1 => ∃ i, x = .int i ∧ Q (some i) H1) : tPart t σ H Q := q
theorem part2 {i : Int} {Q : Option Int → Hp → Prop} (q : Q (some i) H) : ∃ j, V.int i = .int j ∧ Q (some j) H := ⟨i, rfl, q⟩
theorem nxt {D : Ends} (q : D.nx σ H) : tNext D σ H := q
theorem seq {D : Ends} {t u : TS} (q : t { D with nx := u D } σ H) : tSeq t u D σ H := q
theorem drop {D : Ends} {te : TE} (q : te σ H fun _ H1 => D.nx σ H1) : tDrop te D σ H := q
theorem ret {D : Ends} {te : TE} (q : te σ H D.rt) : tRet te D σ H := q
theorem retN {D : Ends} (q : D.rt .non H) : tRetN D σ H := q
theorem brk {D : Ends} (q : D.bk σ H) : tBreak D σ H := q
theorem cnt {D : Ends} (q : D.ct σ H) : tCont D σ H := q
theorem ifs {D : Ends} {c : TT} {t u : TS} (q : c σ H fun b H1 => if b = true then t D σ H1 else u D σ H1) : tIfS c t u D σ H := q
theorem asg {D : Ends} {te : TE} {g : TG} (q : te σ H fun x H1 => g x σ H1 D.nx) : tAsg te g D σ H := q
theorem test {t : TE} {Q : Bool → Hp → Prop} (q : t σ H fun x H1 => ∃ k, x = .bl k ∧ Q k H1) : tTest t σ H Q := q
theorem tb {t : TE} {Q : Bool → Hp → Prop} (q : t σ H fun x H1 => ∃ k, x = .bl k ∧ Q k H1) : tB t σ H Q := q
theorem bl {k : Bool} {Q : Bool → Hp → Prop} (q : Q k H) : ∃ c, V.bl k = .bl c ∧ Q c H := ⟨k, rfl, q⟩
theorem blif {k : Bool} {Q R : Prop} (q : if k = true then Q else R) : ∃ c, V.bl k = .bl c ∧ if c = true then Q else R := ⟨k, rfl, q⟩
theorem ift {Q R : Prop} (q : Q) : if true = true then Q else R := q
theorem iff {Q R : Prop} (q : R) : if false = true then Q else R := q
theorem and_ {t u : TT} {Q : Bool → Hp → Prop} (q : t σ H fun c H1 => if c = true then u σ H1 Q else Q false H1) : tAnd t u σ H Q := q
theorem or_ {t u : TT} {Q : Bool → Hp → Prop} (q : t σ H fun c H1 => if c = true then Q true H1 else u σ H1 Q) : tOr t u σ H Q := q
theorem not_ {t : TT} {Q : Bool → Hp → Prop} (q : t σ H fun c H1 => Q (!c) H1) : tNot t σ H Q := q
theorem andv {ta tb : TE} (q : ta σ H fun x H1 => ∃ c, x = .bl c ∧ if c = true then tb σ H1 Q else Q (.bl false) H1) : tAndV ta tb σ H Q := q
theorem orv {ta tb : TE} (q : ta σ H fun x H1 => ∃ c, x = .bl c ∧ if c = true then Q (.bl true) H1 else tb σ H1 Q) : tOrV ta tb σ H Q := q
theorem notv {ta : TE} (q : ta σ H fun x H1 => ∃ c, x = .bl c ∧ Q (.bl (!c)) H1) : tNotV ta σ H Q := q
theorem notv2 {k : Bool} (q : Q (.bl (!k)) H) : ∃ c, V.bl k = .bl c ∧ Q (.bl (!c)) H := ⟨k, rfl, q⟩
theorem if_ {t : TT} {ta tb : TE} (q : t σ H fun c H1 => if c = true then ta σ H1 Q else tb σ H1 Q) : tIf t ta tb σ H Q := q
theorem yes {Q : Bool → Hp → Prop} (q : Q true H) : tYes σ H Q := q
theorem bm0 {K : PySem.W.Frag} {T : String} {r : V → List V → Hp → VK → Prop} {to : TE} (q : to σ H fun x H1 => tyV K T x H1 ∧ r x [] H1 Q) : tBM0 K T r to σ H Q := q
theorem bm {K : PySem.W.Frag} {T : String} {r : V → List V → Hp → VK → Prop} {to : TE} {t : TA} (q : to σ H fun x H1 => tyV K T x H1 ∧ t σ H1 fun xs H2 => r x xs H2 Q) : tBM K T r to t σ H Q := q
theorem sl {r : V → Option Int → Option Int → Hp → VK → Prop} {te : TE} {tl th : TO} (q : te σ H fun x H1 => tl σ H1 fun l H2 => th σ H2 fun u H3 => r x l u H3 Q) : tSl r te tl th σ H Q := q
theorem cal {sp : Sp} {t : TA} (q : t σ H fun vs H1 => sp vs H1 Q L2.E0) : tCal sp t σ H Q := q
theorem cb {r : List V → Hp → VK → Prop} {t : TA} (q : t σ H fun vs H1 => r vs H1 Q) : tCB r t σ H Q := q
theorem gnil {R : L2.St → Hp → Prop} (q : R σ H) : gNil [] σ H R := ⟨rfl, q⟩
theorem gcons {t : TG} {u : TGs} {v : V} {r : List V} {R : L2.St → Hp → Prop} (q : t v σ H fun σ2 H2 => u r σ2 H2 R) : gCons t u (v :: r) σ H R := ⟨v, r, rfl, q⟩
theorem gsub {to ti : TE} {t : TSet} {v : V} {R : L2.St → Hp → Prop} (q : to σ H fun o H1 => ti σ H1 fun i H2 => t o i v H2 fun H3 => R σ H3) : gSub to ti t v σ H R := q
theorem rng1 {ta : TA} {R : It → Hp → Prop} (q : ta σ H fun vs H1 => ∃ j : Int, vs = [.int j] ∧ -(2 ^ 62) ≤ j ∧ j < 2 ^ 62 ∧ R (Itr 0 j.toNat) H1) : iRng1 ta σ H R := q
theorem rng1b {j : Int} {R : It → Hp → Prop} (q : -(2 ^ 62) ≤ j ∧ j < 2 ^ 62 ∧ R (Itr 0 j.toNat) H) : ∃ i : Int, [V.int j] = [.int i] ∧ -(2 ^ 62) ≤ i ∧ i < 2 ^ 62 ∧ R (Itr 0 i.toNat) H := ⟨j, rfl, q⟩
theorem zip_ {K : PySem.W.Frag} {ta : TA} {R : It → Hp → Prop} (q : ta σ H fun vs H1 => ∃ a b xs ys, vs = [.ref a, .ref b] ∧ SqL K H1 a xs ∧ SqL K H1 b ys ∧ R (Itz K a b) H1) : iZip K ta σ H R := q
theorem ilist {K : PySem.W.Frag} {tl : TE} {R : It → Hp → Prop} (q : tl σ H fun x H1 => ∃ a, x = .ref a ∧ (∃ xs, SqL K H1 a xs) ∧ R (Itl K a) H1) : iList K tl σ H R := q
theorem itup {K : PySem.W.Frag} {tl : TE} {R : It → Hp → Prop} (q : tl σ H fun x H1 => ∃ a, x = .ref a ∧ (∃ xs, SqT K H1 a xs) ∧ R (Itt K a) H1) : iTup K tl σ H R := q
theorem lc {wi : TI} {g : TG} {tt : TT} {te : TE} {vs : List Nat} (q : wi σ H fun J H1 => ∀ D, H1 D = none → ∃ W : Nat → Nat → Hp → Prop, (∃ m, W 0 m (upd H1 D (.lst []))) ∧ ∀ i m H, W i m H → (J.stop i H ∧ Q (.ref D) H) ∨ (J.go i H ∧ ∃ Nx : Hp → Prop, (∀ H', Nx H' → ∃ m', m' < m ∧ W (i + 1) m' H') ∧ ∀ x H', J.yld i H x H' → g x (wipe σ vs) H' fun σ2 H2 => wipe σ2 vs = wipe σ vs ∧ tt σ2 H2 fun b H3 => if b = true then te σ2 H3 fun y H4 => ∃ acc, H4 D = some (.lst acc) ∧ acc.length < sizeLine ∧ Nx (upd H4 D (.lst (acc ++ [y]))) else Nx H3)) : tLc wi g tt te vs σ H Q := q
theorem eq_i {i j : Int} (q : Q (.bl (decide (V.int i = V.int j))) H) : rEq (.int i) (.int j) H Q := ⟨rfl, q⟩
theorem ne_i {i j : Int} (q : Q (.bl (!decide (V.int i = V.int j))) H) : rNe (.int i) (.int j) H Q := ⟨rfl, q⟩
theorem i1 {C : Int → Int → Prop} {g : Int → Int → V} {i j : Int} (hc : C i j) (q : Q (g i j) H) : rI C g (.int i) (.int j) H Q := ⟨i, j, rfl, rfl, hc, q⟩
theorem tup {t : TA} (q : t σ H fun xs H1 => xs.length ≤ sizeLine ∧ ∀ p, H1 p = none → Q (.ref p) (upd H1 p (.tup xs))) : tTup t σ H Q := q
theorem lst {t : TA} (q : t σ H fun xs H1 => xs.length ≤ sizeLine ∧ ∀ p, H1 p = none → Q (.ref p) (upd H1 p (.lst xs))) : tLst t σ H Q := q
theorem par {D : Ends} {i j : Nat} {ta : TA} (q : ta σ H fun vs H1 => ∃ v w, vs = [v, w] ∧ gName i v σ H1 fun σ1 H2 => gName j w σ1 H2 D.nx) : tPar i j ta D σ H := q
theorem ex1 {i : Int} {R : Int → Prop} (q : R i) : ∃ j, [V.int i] = [V.int j] ∧ R j := ⟨i, rfl, q⟩
theorem exI {i : Int} {R : Int → Prop} (q : R i) : ∃ j, V.int i = V.int j ∧ R j := ⟨i, rfl, q⟩
theorem exB {k : Bool} {R : Bool → Prop} (q : R k) : ∃ c, V.bl k = V.bl c ∧ R c := ⟨k, rfl, q⟩
theorem par2 {v w : V} {R : V → V → Prop} (q : R v w) : ∃ v2 w2, [v, w] = [v2, w2] ∧ R v2 w2 := ⟨v, w, rfl, q⟩
theorem aug {D : Ends} {i : Nat} {te : TE} {ti : TIp} (q : ∃ x, σ[i]? = some (some x) ∧ te σ H fun y H1 => ti x y H1 fun z H2 => gName i z σ H2 D.nx) : tAug i te ti D σ H := q
theorem for_ {D : Ends} {wi : TI} {g : TG} {tb : TS} (q : wi σ H fun J H1 => ∃ W : Nat → Nat → L2.St → Hp → Prop, (∃ m, W 0 m σ H1) ∧ ∀ i m σ H, W i m σ H →   (J.stop i H ∧ D.nx σ H) ∨ (J.go i H ∧ ∃ N : L2.St → Hp → Prop, (∀ σ' H', N σ' H' → ∃ m', m' < m ∧ W (i + 1) m' σ' H') ∧ ∀ x H', J.yld i H x H' → g x σ H' fun σ2 H2 => tb { D with nx := N, ct := N, bk := D.nx } σ2 H2)) : tFor wi g tb D σ H := q
theorem nift {Q R : Prop} (q : R) : if (!true) = true then Q else R := q
theorem niff {Q R : Prop} (q : Q) : if (!false) = true then Q else R := q
end WK
end RR

namespace RR
open PySem PySem.Spec PyProof.Rows L2
structure Tx_Machine (K : PySem.W.Frag) (C : Addr) : Prop where
  cl : Cls K C
  n_registers : NoAttr K C "registers"
  n_size : NoAttr K C "size"
  n__lines : NoAttr K C "_lines"
def topS (i : Nat) : Stmt := PySem.Challenge.pw_runroots_k06_machines_run.main.body.getD i (.Pass ⟨0, 0, 0, 0⟩)
abbrev s__law_numbers : Stmt := topS 20
theorem st__law_numbers {v0 v1 : V} : L2.start ["script", "many", "numbers", "k", "cell", "j", "mixed"] [v0, v1] = [some v0, some v1, none, none, none, none, none] := rfl
theorem sc__law_numbers : FnScope ["script", "many", "numbers", "k", "cell", "j", "mixed"] ["script", "many"] (defScope s__law_numbers) := ⟨rfl, rfl, rfl, by decide +kernel, rfl, by decide +kernel, by decide +kernel⟩
abbrev s__law_take : Stmt := topS 21
theorem st__law_take {v0 v1 : V} : L2.start ["numbers", "place"] [v0, v1] = [some v0, some v1] := rfl
theorem sc__law_take : FnScope ["numbers", "place"] ["numbers", "place"] (defScope s__law_take) := ⟨rfl, rfl, rfl, by decide +kernel, rfl, by decide +kernel, by decide +kernel⟩
abbrev s__law_machine : Stmt := topS 22
theorem st__law_machine {v0 v1 : V} : L2.start ["numbers", "place", "registers", "size", "stop", "lines", "k", "number", "goals"] [v0, v1] = [some v0, some v1, none, none, none, none, none, none, none] := rfl
theorem sc__law_machine : FnScope ["numbers", "place", "registers", "size", "stop", "lines", "k", "number", "goals"] ["numbers", "place"] (defScope s__law_machine) := ⟨rfl, rfl, rfl, by decide +kernel, rfl, by decide +kernel, by decide +kernel⟩
abbrev s_is_number : Stmt := topS 4
theorem st_is_number {v0 : V} : L2.start ["value"] [v0] = [some v0] := rfl
theorem sc_is_number : FnScope ["value"] ["value"] (defScope s_is_number) := ⟨rfl, rfl, rfl, by decide +kernel, rfl, by decide +kernel, by decide +kernel⟩
abbrev s_is_natural : Stmt := topS 5
theorem st_is_natural {v0 : V} : L2.start ["value"] [v0] = [some v0] := rfl
theorem sc_is_natural : FnScope ["value"] ["value"] (defScope s_is_natural) := ⟨rfl, rfl, rfl, by decide +kernel, rfl, by decide +kernel, by decide +kernel⟩
abbrev s_is_line : Stmt := topS 13
theorem st_is_line {v0 v1 v2 : V} : L2.start ["value", "registers", "size", "limits", "number", "limit"] [v0, v1, v2] = [some v0, some v1, some v2, none, none, none] := rfl
theorem sc_is_line : FnScope ["value", "registers", "size", "limits", "number", "limit"] ["value", "registers", "size"] (defScope s_is_line) := ⟨rfl, rfl, rfl, by decide +kernel, rfl, by decide +kernel, by decide +kernel⟩
abbrev s__demand_machine : Stmt := topS 12
theorem st__demand_machine {v0 v1 : V} : L2.start ["registers", "lines", "number", "line"] [v0, v1] = [some v0, some v1, none, none] := rfl
theorem sc__demand_machine : FnScope ["registers", "lines", "number", "line"] ["registers", "lines"] (defScope s__demand_machine) := ⟨rfl, rfl, rfl, by decide +kernel, rfl, by decide +kernel, by decide +kernel⟩
abbrev s_Machine___init__ : Stmt := inClass (topS 11) 0
theorem st_Machine___init__ {v0 v1 v2 : V} : L2.start ["self", "registers", "lines"] [v0, v1, v2] = [some v0, some v1, some v2] := rfl
theorem sc_Machine___init__ : FnScope ["self", "registers", "lines"] ["self", "registers", "lines"] (defScope s_Machine___init__) := ⟨rfl, rfl, rfl, by decide +kernel, rfl, by decide +kernel, by decide +kernel⟩
abbrev s_Machine_table : Stmt := inClass (topS 11) 2
theorem st_Machine_table {v0 : V} : L2.start ["self"] [v0] = [some v0] := rfl
theorem sc_Machine_table : FnScope ["self"] ["self"] (defScope s_Machine_table) := ⟨rfl, rfl, rfl, by decide +kernel, rfl, by decide +kernel, by decide +kernel⟩
abbrev s__law_inputs : Stmt := topS 25
theorem st__law_inputs {v0 v1 v2 : V} : L2.start ["numbers", "place", "registers", "k"] [v0, v1, v2] = [some v0, some v1, some v2, none] := rfl
theorem sc__law_inputs : FnScope ["numbers", "place", "registers", "k"] ["numbers", "place", "registers"] (defScope s__law_inputs) := ⟨rfl, rfl, rfl, by decide +kernel, rfl, by decide +kernel, by decide +kernel⟩
abbrev s__law_step : Stmt := topS 23
theorem st__law_step {v0 v1 : V} : L2.start ["lines", "spot", "line", "at", "change", "goal"] [v0, v1] = [some v0, some v1, none, none, none, none] := rfl
theorem sc__law_step : FnScope ["lines", "spot", "line", "at", "change", "goal"] ["lines", "spot"] (defScope s__law_step) := ⟨rfl, rfl, rfl, by decide +kernel, rfl, by decide +kernel, by decide +kernel⟩
abbrev s__law_run : Stmt := topS 24
theorem st__law_run {v0 v1 v2 : V} : L2.start ["lines", "inputs", "most", "found", "k", "after"] [v0, v1, v2] = [some v0, some v1, some v2, none, none, none] := rfl
theorem sc__law_run : FnScope ["lines", "inputs", "most", "found", "k", "after"] ["lines", "inputs", "most"] (defScope s__law_run) := ⟨rfl, rfl, rfl, by decide +kernel, rfl, by decide +kernel, by decide +kernel⟩
abbrev s_Machine_line : Stmt := inClass (topS 11) 1
theorem st_Machine_line {v0 v1 : V} : L2.start ["self", "number"] [v0, v1] = [some v0, some v1] := rfl
theorem sc_Machine_line : FnScope ["self", "number"] ["self", "number"] (defScope s_Machine_line) := ⟨rfl, rfl, rfl, by decide +kernel, rfl, by decide +kernel, by decide +kernel⟩
abbrev s__changed : Stmt := topS 14
theorem st__changed {v0 v1 v2 : V} : L2.start ["registers", "place", "difference", "numbers"] [v0, v1, v2] = [some v0, some v1, some v2, none] := rfl
theorem sc__changed : FnScope ["registers", "place", "difference", "numbers"] ["registers", "place", "difference"] (defScope s__changed) := ⟨rfl, rfl, rfl, by decide +kernel, rfl, by decide +kernel, by decide +kernel⟩
abbrev s_Machine_step : Stmt := inClass (topS 11) 3
theorem st_Machine_step {v0 v1 : V} : L2.start ["self", "configuration", "number", "registers", "line"] [v0, v1] = [some v0, some v1, none, none, none] := rfl
theorem sc_Machine_step : FnScope ["self", "configuration", "number", "registers", "line"] ["self", "configuration"] (defScope s_Machine_step) := ⟨rfl, rfl, rfl, by decide +kernel, rfl, by decide +kernel, by decide +kernel⟩
abbrev s_Machine_run : Stmt := inClass (topS 11) 4
theorem st_Machine_run {v0 v1 v2 : V} : L2.start ["self", "inputs", "most", "configurations", "here"] [v0, v1, v2] = [some v0, some v1, some v2, none, none] := rfl
theorem sc_Machine_run : FnScope ["self", "inputs", "most", "configurations", "here"] ["self", "inputs", "most"] (defScope s_Machine_run) := ⟨rfl, rfl, rfl, by decide +kernel, rfl, by decide +kernel, by decide +kernel⟩
abbrev s__law_nearly : Stmt := topS 27
theorem st__law_nearly {v0 v1 : V} : L2.start ["run", "number", "at", "spot", "changed"] [v0, v1] = [some v0, some v1, none, none, none] := rfl
theorem sc__law_nearly : FnScope ["run", "number", "at", "spot", "changed"] ["run", "number"] (defScope s__law_nearly) := ⟨rfl, rfl, rfl, by decide +kernel, rfl, by decide +kernel, by decide +kernel⟩
abbrev s__law_same : Stmt := topS 26
theorem st__law_same {v0 v1 : V} : L2.start ["actual", "expected", "k"] [v0, v1] = [some v0, some v1, none] := rfl
theorem sc__law_same : FnScope ["actual", "expected", "k"] ["actual", "expected"] (defScope s__law_same) := ⟨rfl, rfl, rfl, by decide +kernel, rfl, by decide +kernel, by decide +kernel⟩
abbrev s_stops : Stmt := topS 15
theorem st_stops {v0 v1 : V} : L2.start ["machine", "run"] [v0, v1] = [some v0, some v1] := rfl
theorem sc_stops : FnScope ["machine", "run"] ["machine", "run"] (defScope s_stops) := ⟨rfl, rfl, rfl, by decide +kernel, rfl, by decide +kernel, by decide +kernel⟩
abbrev s_is_tuple_of : Stmt := topS 18
theorem st_is_tuple_of {v0 v1 : V} : L2.start ["value", "count", "item"] [v0, v1] = [some v0, some v1, none] := rfl
theorem sc_is_tuple_of : FnScope ["value", "count", "item"] ["value", "count"] (defScope s_is_tuple_of) := ⟨rfl, rfl, rfl, by decide +kernel, rfl, by decide +kernel, by decide +kernel⟩
abbrev s__is_configuration : Stmt := topS 17
theorem st__is_configuration {v0 v1 : V} : L2.start ["machine", "value", "number", "registers"] [v0, v1] = [some v0, some v1, none, none] := rfl
theorem sc__is_configuration : FnScope ["machine", "value", "number", "registers"] ["machine", "value"] (defScope s__is_configuration) := ⟨rfl, rfl, rfl, by decide +kernel, rfl, by decide +kernel, by decide +kernel⟩
abbrev s_is_run : Stmt := topS 16
theorem st_is_run {v0 v1 : V} : L2.start ["machine", "value", "before", "after", "item"] [v0, v1] = [some v0, some v1, none, none, none] := rfl
theorem sc_is_run : FnScope ["machine", "value", "before", "after", "item"] ["machine", "value"] (defScope s_is_run) := ⟨rfl, rfl, rfl, by decide +kernel, rfl, by decide +kernel, by decide +kernel⟩
abbrev s__law_is_run : Stmt := topS 28
theorem st__law_is_run {v0 v1 v2 : V} : L2.start ["lines", "registers", "run", "k", "spot"] [v0, v1, v2] = [some v0, some v1, some v2, none, none] := rfl
theorem sc__law_is_run : FnScope ["lines", "registers", "run", "k", "spot"] ["lines", "registers", "run"] (defScope s__law_is_run) := ⟨rfl, rfl, rfl, by decide +kernel, rfl, by decide +kernel, by decide +kernel⟩
abbrev s_law : Stmt := topS 29
theorem st_law {v0 : V} : L2.start ["script", "numbers", "place", "drawn", "given", "k", "machines", "registers", "lines", "machine", "table", "inputs", "most", "expected", "actual", "done", "changed", "j"] [v0] = [some v0, none, none, none, none, none, none, none, none, none, none, none, none, none, none, none, none, none] := rfl
theorem sc_law : FnScope ["script", "numbers", "place", "drawn", "given", "k", "machines", "registers", "lines", "machine", "table", "inputs", "most", "expected", "actual", "done", "changed", "j"] ["script"] (defScope s_law) := ⟨rfl, rfl, rfl, by decide +kernel, rfl, by decide +kernel, by decide +kernel⟩
local macro_rules | `(tactic| walk_at "sm") => `(tactic| first
  | assumption
  | exact Sm.lit (k := 64)
  | (refine' Sm.mul ?h1 ?h2; (case h1 => walk_at "sm"); (case h2 => walk_at "sm"))
  | (refine' Sm.ad ?h1 ?h2; (case h1 => walk_at "sm"); (case h2 => walk_at "sm"))
  | (refine' Sm.sb ?h1 ?h2; (case h1 => walk_at "sm"); (case h2 => walk_at "sm"))
  | (refine' Sm.neg ?h1; (case h1 => walk_at "sm"))
  | fail "sm")
local macro_rules | `(tactic| walk_at "rd") => `(tactic| repeat' first
  | (refine ⟨_, rfl, ?_⟩)
  | (refine ⟨_, _, rfl, rfl, ?_⟩)
  | (with_reducible refine tC_go ?_)
  | (with_reducible refine tNil_go ?_)
  | (with_reducible refine tNoPart_go ?_)
  | (with_reducible refine gTup_new (by with_unfolding_all rfl) ?_)
  | (with_reducible refine gTup_as (by first | exact sq_of (by assumption) | with_unfolding_all assumption) (by with_unfolding_all rfl) ?_)
  | (with_reducible refine ixT_new (by with_unfolding_all rfl) ?_)
  | (with_reducible refine ixT_as (by first | exact sq_of (by assumption) | with_unfolding_all assumption) (by with_unfolding_all rfl) ?_)
  | (refine ⟨_, _, (rfl : _ :: _ = _ :: _), ?_⟩)
  | (refine ⟨_, _, _, (rfl : _ :: _ = _ :: _), ?_⟩)
  | (refine ⟨rfl, ?_⟩)
  | (show _ ∧ _; refine And.intro (by omega) ?_)
  | ((with_reducible show CMulX _ _ ∧ _); refine And.intro (Sm.mx (by walk_at "sm") (by walk_at "sm") (by omega)) ?_)
  | ((with_reducible show CPow _ _ ∧ _); refine And.intro ⟨by decide, by decide, by decide⟩ ?_)
  | ((with_reducible show CDivW _ _ ∧ _); refine And.intro ⟨by first | omega | decide, by decide⟩ ?_)
  | (show _ ∧ _; refine And.intro (by assumption) ?_)
  | (show _ ∧ _; refine And.intro (Nat.le_of_ble_eq_true rfl) ?_)
  | ((with_reducible show tyV _ "list" _ _ ∧ _); refine And.intro (.inl ⟨rfl, _, .inl (.inl (by assumption))⟩) ?_)
  | fail "rd")
local macro_rules | `(tactic| walk_at "wk") => `(tactic| repeat' first
  | (with_reducible refine WK.op ?_)
  | (with_reducible refine WK.un ?_)
  | (with_reducible refine WK.rU_ ?_)
  | (with_reducible refine WK.i0 ?_)
  | (with_reducible refine WK.nil ?_)
  | (with_reducible refine WK.cons ?_)
  | (with_reducible refine WK.cst ?_)
  | (with_reducible refine WK.nopart ?_)
  | (with_reducible refine WK.part ?_)
  | (with_reducible refine WK.part2 ?_)
  | (with_reducible refine WK.nxt ?_)
  | (with_reducible refine WK.seq ?_)
  | (with_reducible refine WK.drop ?_)
  | (with_reducible refine WK.ret ?_)
  | (with_reducible refine WK.retN ?_)
  | (with_reducible refine WK.brk ?_)
  | (with_reducible refine WK.cnt ?_)
  | (with_reducible refine WK.ifs ?_)
  | (with_reducible refine WK.asg ?_)
  | (with_reducible refine WK.test ?_)
  | (with_reducible refine WK.tb ?_)
  | (with_reducible refine WK.bl ?_)
  | (with_reducible refine WK.blif ?_)
  | (with_reducible refine WK.ift ?_)
  | (with_reducible refine WK.iff ?_)
  | (with_reducible refine WK.nift ?_)
  | (with_reducible refine WK.niff ?_)
  | (with_reducible refine WK.and_ ?_)
  | (with_reducible refine WK.or_ ?_)
  | (with_reducible refine WK.not_ ?_)
  | (with_reducible refine WK.andv ?_)
  | (with_reducible refine WK.orv ?_)
  | (with_reducible refine WK.notv ?_)
  | (with_reducible refine WK.notv2 ?_)
  | (with_reducible refine WK.chain ?_)
  | (with_reducible refine WK.if_ ?_)
  | (with_reducible refine WK.yes ?_)
  | (with_reducible refine WK.bm0 ?_)
  | (with_reducible refine WK.bm ?_)
  | (with_reducible refine WK.sl ?_)
  | (with_reducible refine WK.cal ?_)
  | (with_reducible refine WK.cb ?_)
  | (with_reducible refine WK.gnil ?_)
  | (with_reducible refine WK.gcons ?_)
  | (with_reducible refine WK.gsub ?_)
  | (with_reducible refine WK.rng1 ?_)
  | (with_reducible refine WK.rng1b ?_)
  | (with_reducible refine WK.zip_ ?_)
  | (with_reducible refine WK.zipA ?_)
  | (with_reducible refine WK.fld ?_)
  | (with_reducible refine WK.mth ?_)
  | (with_reducible refine WK.kget ?_)
  | (with_reducible refine WK.enum ?_)
  | (with_reducible refine WK.sfld ?_)
  | (with_reducible refine WK.ilist ?_)
  | (with_reducible refine WK.itup ?_)
  | (with_reducible refine WK.lc ?_)
  | (with_reducible refine WK.eq_i ?_)
  | (with_reducible refine WK.ne_i ?_)
  | (with_reducible refine WK.tup ?_)
  | (with_reducible refine WK.lst ?_)
  | (with_reducible refine WK.par ?_)
  | (with_reducible refine WK.par2 ?_)
  | (with_reducible refine WK.for_ ?_)
  | (with_reducible refine WK.aug ?_)
  | (with_reducible refine WK.ex1 ?_)
  | (with_reducible refine WK.exI ?_)
  | (with_reducible refine WK.exB ?_)
  | (with_reducible show CMulX _ _); exact Sm.mx (by walk_at "sm") (by walk_at "sm") (by omega)
  | (with_reducible refine WK.tV0 ?_)
  | (with_reducible refine WK.tV1 ?_)
  | (with_reducible refine WK.tV2 ?_)
  | (with_reducible refine WK.tV3 ?_)
  | (with_reducible refine WK.tV4 ?_)
  | (with_reducible refine WK.tV5 ?_)
  | (with_reducible refine WK.tV6 ?_)
  | (with_reducible refine WK.tV7 ?_)
  | (with_reducible refine WK.tV8 ?_)
  | (with_reducible refine WK.tV9 ?_)
  | (with_reducible refine WK.tV10 ?_)
  | (with_reducible refine WK.tV11 ?_)
  | (with_reducible refine WK.tV12 ?_)
  | (with_reducible refine WK.tV13 ?_)
  | (with_reducible refine WK.tV14 ?_)
  | (with_reducible refine WK.tV15 ?_)
  | (with_reducible refine WK.tV16 ?_)
  | (with_reducible refine WK.tV17 ?_)
  | (with_reducible refine WK.tV18 ?_)
  | (with_reducible refine WK.tV19 ?_)
  | (with_reducible refine WK.tV20 ?_)
  | (with_reducible refine WK.tV21 ?_)
  | (with_reducible refine WK.tV22 ?_)
  | (with_reducible refine WK.tV23 ?_)
  | (with_reducible refine WK.tV24 ?_)
  | (with_reducible refine WK.tV25 ?_)
  | (with_reducible refine WK.tV26 ?_)
  | (with_reducible refine WK.tV27 ?_)
  | (with_reducible refine WK.tV28 ?_)
  | (with_reducible refine WK.tV29 ?_)
  | (with_reducible refine WK.gN0 ?_)
  | (with_reducible refine WK.gN1 ?_)
  | (with_reducible refine WK.gN2 ?_)
  | (with_reducible refine WK.gN3 ?_)
  | (with_reducible refine WK.gN4 ?_)
  | (with_reducible refine WK.gN5 ?_)
  | (with_reducible refine WK.gN6 ?_)
  | (with_reducible refine WK.gN7 ?_)
  | (with_reducible refine WK.gN8 ?_)
  | (with_reducible refine WK.gN9 ?_)
  | (with_reducible refine WK.gN10 ?_)
  | (with_reducible refine WK.gN11 ?_)
  | (with_reducible refine WK.gN12 ?_)
  | (with_reducible refine WK.gN13 ?_)
  | (with_reducible refine WK.gN14 ?_)
  | (with_reducible refine WK.gN15 ?_)
  | (with_reducible refine WK.gN16 ?_)
  | (with_reducible refine WK.gN17 ?_)
  | (with_reducible refine WK.gN18 ?_)
  | (with_reducible refine WK.gN19 ?_)
  | (with_reducible refine WK.gN20 ?_)
  | (with_reducible refine WK.gN21 ?_)
  | (with_reducible refine WK.gN22 ?_)
  | (with_reducible refine WK.gN23 ?_)
  | (with_reducible refine WK.gN24 ?_)
  | (with_reducible refine WK.gN25 ?_)
  | (with_reducible refine WK.gN26 ?_)
  | (with_reducible refine WK.gN27 ?_)
  | (with_reducible refine WK.gN28 ?_)
  | (with_reducible refine WK.gN29 ?_)
  | ((with_reducible show gTup _ _ _ _ _ _ _); with_reducible refine gTup_new (by with_unfolding_all rfl) ?_)
  | ((with_reducible show gTup _ _ _ _ _ _ _); with_reducible refine gTup_as (by first | exact sq_of (by assumption) | with_unfolding_all assumption) (by with_unfolding_all rfl) ?_)
  | ((with_reducible show rIxT _ _ _ _ _); with_reducible refine ixT_new (by with_unfolding_all rfl) ?_)
  | ((with_reducible show rIxT _ _ _ _ _); with_reducible refine ixT_as (by first | exact sq_of (by assumption) | with_unfolding_all assumption) (by with_unfolding_all rfl) ?_)
  | ((with_reducible refine WK.i1 ?hc ?_); (case hc => (with_reducible show CMulX _ _); exact Sm.mx (by walk_at "sm") (by walk_at "sm") (by omega)))
  | ((with_reducible refine WK.i1 ?hc ?_); (case hc => omega))
  | ((with_reducible refine WK.i1 ?hc ?_); (case hc => (with_reducible show CPow _ _); exact ⟨by decide, by decide, by decide⟩))
  | ((with_reducible refine WK.i1 ?hc ?_); (case hc => (with_reducible show CDivW _ _); exact ⟨by first | omega | decide, by decide⟩))
  | ((with_reducible show List.length _ ≤ sizeLine ∧ _); refine And.intro (Nat.le_of_ble_eq_true rfl) ?_)
  | ((with_reducible show tyV _ "list" _ _ ∧ _); refine And.intro (.inl ⟨rfl, _, .inl (.inl (by assumption))⟩) ?_)
  | ((with_reducible show _ ∧ _); refine And.intro (by omega) ?_)
  | ((with_reducible show rIxL _ _ _ _ _); with_reducible refine ixL_at (by assumption) (by with_unfolding_all rfl) ?_)
  | fail "wk")
local macro_rules | `(tactic| walk_at "sm") => `(tactic| first
  | exact Sm.md (by decide) (by decide)
  | exact Sm.ix (by assumption) (by omega)
  | fail "sm3")

section
variable {P : Program} {w : World} {K : PySem.W.Frag} {mg : Str → Option Value} {base : Heap}
def sp__law_numbers (K : PySem.W.Frag) : Sp := fun vs H Q _ => ∃ (a : Addr) (ns : List Int) (many : Nat), vs = [.ref a, .int many] ∧ SqL K H a (ns.map V.int) ∧ ns.length ≤ 63 ∧ many ≤ 1000 ∧
  ∀ H' D (ds : List Nat), Same H H' → H D = none → H' D = some (.lst (toV ds)) → ds.length ≤ many → (∀ d ∈ ds, d < 1000) → Q (.ref D) H'
theorem ok__law_numbers {f : Addr} {fd : FuncData}  (F : Fun K "_law_numbers" "_law_numbers" s__law_numbers f fd) (m_range : mg "range" = none) (m_len : mg "len" = none) (m_abs : mg "abs" = none) (m_int : mg "int" = none) : FnOk P w K mg base CX0 1 f fd ["script", "many"] (sp__law_numbers K) := by
  refine F.ok sc__law_numbers (fun vs H Q E h => ?_) (fun cdv A outer s H vs Q E hr h => ?_)
  · obtain ⟨a, ns, many, rfl, _⟩ := h
    rfl
  · obtain ⟨a, ns, many, rfl, hS, hn, hm, q⟩ := h
    refine ⟨_, (pss_cons (ps_set (i := 2) sc__law_numbers.nd rfl (.inl rfl) (pe_lst pa_nil))
      (pss_cons (ps_for PassesOwn.never rfl (pi_range1 (by rfl) m_range (pa_cons (pe_callB call_len_seq (by rfl) m_len (by decide +kernel) (pa_cons (pv 0) pa_nil)) pa_nil)) (pg_name (i := 3) sc__law_numbers.nd rfl (.inl rfl)) (pss_cons (ps_set (i := 4) sc__law_numbers.nd rfl (.inl rfl) (pe_callB call_abs (by rfl) m_abs (by decide +kernel) (pa_cons (pe_ix ix_list (pv 0) (pv 3) (fun _ _ => rfl)) pa_nil)))
      (pss_one (ps_if (pt_cmpR op_ge (pv 4) (pe_op op_pow pe_int pe_int) (nomark _)) (pss_one (ps_for PassesOwn.never rfl (pi_range1 (by rfl) m_range (pa_cons pe_int pa_nil)) (pg_name (i := 5) sc__law_numbers.nd rfl (.inl rfl)) (pss_one (ps_if (PW.pt (pw_and (pt_cmpR op_gt (pv 4) pe_int (nomark _)) (pw_and1 (pt_cmpR op_lt (pe_callB call_len_seq (by rfl) m_len (by decide +kernel) (pa_cons (pv 2) pa_nil)) (pv 1) (nomark _))))) (pss_cons (ps_expr (pe_bm PySem.F.plainAttrs_list PySem.F.slot_list_append PySem.F.type_list_append mt_append (pv 2) (pa_cons (pe_op op_mod (pv 4) pe_int) pa_nil)))
      (pss_one (ps_set (i := 4) sc__law_numbers.nd rfl (.inl rfl) (pe_op op_fdivW (pv 4) pe_int)))) pss_nil)))) (pss_one (ps_for PassesOwn.never rfl (pi_range1 (by rfl) m_range (pa_cons pe_int pa_nil)) (pg_name (i := 5) sc__law_numbers.nd rfl (.inl rfl)) (pss_cons (ps_set (i := 6) sc__law_numbers.nd rfl (.inl rfl) (pe_op op_mod (pe_callTy call_intI (by rfl) m_int (by decide +kernel) (pa_cons (pe_op op_add (pe_op op_add (pe_op op_add (pe_op op_mulX (pv 4) pe_int) (pe_op op_mulX (pv 3) pe_int)) (pe_op op_mulX (pv 5) pe_int)) pe_int) pa_nil)) pe_int))
      (pss_cons (ps_set (i := 6) sc__law_numbers.nd rfl (.inl rfl) (pe_op op_mod (pe_callTy call_intI (by rfl) m_int (by decide +kernel) (pa_cons (pe_op op_add (pe_op op_mulX (pv 6) (pv 6)) (pv 5)) pa_nil)) pe_int))
      (pss_one (ps_expr (pe_bm PySem.F.plainAttrs_list PySem.F.slot_list_append PySem.F.type_list_append mt_append (pv 2) (pa_cons (pe_op op_mod (pe_op op_fdivW (pv 6) pe_int) pe_int) pa_nil))))))))))))
      (pss_one (ps_ret (pe_slice sl_list (pv 2) po_none (po_some (pv 1))))))), ?_⟩
    rw [st__law_numbers]
    walk_at "wk"
    intro D nD
    have hD0 : NL (upd H D (.lst [])) D [] := ⟨upd_same, fun d hd => (List.not_mem_nil hd).elim⟩
    have s0 := same_upd (o := .lst []) nD
    generalize upd H D (.lst []) = H1 at hD0 s0 ⊢
    walk_at "wk"
    refine ⟨a, _, rfl, .inl (s0.seq hS), ?_⟩
    walk_at "wk"
    rw [List.length_map, Int.toNat_natCast]
    walk_at "wk"
    have h18 : (10 : Int) ^ (18 : Int).toNat = 1000000000000000000 := by decide +kernel
    refine for_rng (n := ns.length) (fun i σ' H' => ∃ (ds : List Nat) (c3 c4 c5 c6 : Option V), σ' = [some (.ref a), some (.int many), some (.ref D), c3, c4, c5, c6] ∧ NL H' D ds ∧ ds.length ≤ 60 * i ∧ Same H H') ?_ ?_ ?_
    · exact ⟨[], none, none, none, none, rfl, hD0, Nat.zero_le _, s0⟩
    · rintro i σ' H2 hi ⟨ds, c3, c4, c5, c6, rfl, hD, hl, s2⟩
      have si : Sm 64 (i : Int) := Sm.ix hi (by omega)
      walk_at "wk"
      refine ⟨a, _, (i : Int), .int ns[i], rfl, rfl, s2.seq hS, atI_nat (by rw [List.getElem?_map, List.getElem?_eq_getElem hi]; rfl), ?_⟩
      walk_at "wk"
      generalize ns[i] = z
      obtain ⟨nu, enu⟩ : ∃ nu : Int, nu = (if z < 0 then -z else z) := ⟨_, rfl⟩
      have hnu : 0 ≤ nu := by rw [enu]; split <;> omega
      rw [← enu]
      refine ite2 (fun e => ?_) (fun e => ?_)
      · walk_at "wk"
        refine for_rng (n := 60) (fun k σ' H' => ∃ (ds : List Nat) (w : Int) (c5 c6 : Option V), σ' = [some (.ref a), some (.int many), some (.ref D), some (.int i), some (.int w), c5, c6] ∧ 0 ≤ w ∧ NL H' D ds ∧ ds.length ≤ 60 * i + k ∧ Same H H') ?_ ?_ ?_
        · exact ⟨ds, nu, _, _, rfl, hnu, hD, hl, s2⟩
        · rintro k σ' H3 hk ⟨ds, w', c5, c6, rfl, hw, hD, hl, s3⟩
          walk_at "wk"
          refine ite2 (fun e2 => ?_) (fun e2 => ?_)
          · walk_at "wk"
            refine ⟨D, _, rfl, .inl (.inl (.inl hD.1)), ?_⟩
            walk_at "wk"
            refine ite2 (fun e3 => ?_) (fun e3 => ?_)
            · have hDl := hD.1
              walk_at "wk"
              refine app_go hD.1 (by unfold toV; rw [List.length_map]; exact sz_lt (by omega)) ?_
              walk_at "wk"
              refine ⟨_, w' / 1000, _, _, rfl, by omega, hD.push (by omega) (by omega), by rw [List.length_append]; show ds.length + 1 ≤ _; omega, Same.new s3 nD⟩
            · exact ⟨ds, w', _, _, rfl, hw, hD, by omega, s3⟩
          · exact ⟨ds, w', _, _, rfl, hw, hD, by omega, s3⟩
        · rintro σ' H3 ⟨ds, w', c5, c6, rfl, hw, hD, hl, s3⟩
          exact ⟨ds, _, _, _, _, rfl, hD, by omega, s3⟩
      · have hlt : nu < 1000000000000000000 := by
          have : ¬ (10 : Int) ^ (18 : Int).toNat ≤ nu := fun l => e (decide_eq_true l)
          rw [h18] at this
          omega
        have snu : Sm 64 nu := Sm.le (y := 1000000000000000000) (Sm.lit (k := 64)) hnu (by omega)
        walk_at "wk"
        refine for_rng (n := 5) (fun k σ' H' => ∃ (ds : List Nat) (c5 c6 : Option V), σ' = [some (.ref a), some (.int many), some (.ref D), some (.int i), some (.int nu), c5, c6] ∧ NL H' D ds ∧ ds.length ≤ 60 * i + k ∧ Same H H') ?_ ?_ ?_
        · exact ⟨ds, _, _, rfl, hD, hl, s2⟩
        · rintro k σ' H3 hk ⟨ds, c5, c6, rfl, hD, hl, s3⟩
          have sk : Sm 64 (k : Int) := Sm.ix hk (by omega)
          walk_at "wk"
          generalize (nu * 48271 + (i : Int) * 69621 + (k : Int) * 16807 + 11) % 2147483647 = mx
          refine ⟨.inl ⟨rfl, _, .inl (.inl hD.1)⟩, ?_⟩
          walk_at "wk"
          generalize mx * mx + (k : Int) = my
          refine app_go hD.1 (by unfold toV; rw [List.length_map]; exact sz_lt (by omega)) ?_
          exact ⟨_, _, _, rfl, hD.push (by omega) (by omega), by rw [List.length_append]; show ds.length + 1 ≤ _; omega, Same.new s3 nD⟩
        · rintro σ' H3 ⟨ds, c5, c6, rfl, hD, hl, s3⟩
          exact ⟨ds, _, _, _, _, rfl, hD, by omega, s3⟩
    · rintro σ' H2 ⟨ds, c3, c4, c5, c6, rfl, hD, hl, s2⟩
      walk_at "wk"
      refine ⟨D, _, rfl, .inl (.inl hD.1), fun p np => ?_⟩
      have ec : cutV (toV ds) none (some (many : Int)) = toV (ds.take many) := by
        unfold cutV toV
        rw [HT.sIx_none, HT.sIx_nat, List.drop_zero, Nat.sub_zero, List.length_map, List.map_take]
        by_cases h : many ≤ ds.length
        · rw [Nat.min_eq_left h]
        · rw [Nat.min_eq_right (by omega), List.take_of_length_le (by rw [List.length_map]; exact Nat.le_refl _), List.take_of_length_le (by rw [List.length_map]; omega)]
      rw [ec]
      exact q _ p (ds.take many) (s2.trans (same_upd np)) (s2.free np) upd_same (by rw [List.length_take]; omega) (fun d hx => hD.2 d (List.mem_of_mem_take hx))

def sp__law_take (K : PySem.W.Frag) : Sp := fun vs H Q _ => ∃ (l p : Addr) (ns : List Nat), vs = [.ref l, .ref p] ∧ TK H l p ns ∧ ∀ (n : Nat) (H' : Hp), n < 1000 → TK H' l p ns → Ex p H H' → Q (.int n) H'
theorem ok__law_take {f : Addr} {fd : FuncData}  (F : Fun K "_law_take" "_law_take" s__law_take f fd) (m_len : mg "len" = none) : FnOk P w K mg base CX0 1 f fd ["numbers", "place"] (sp__law_take K) := by
  refine F.ok sc__law_take (fun vs H Q E h => ?_) (fun cdv A outer s H vs Q E hr h => ?_)
  · obtain ⟨l, p, ns, rfl, _⟩ := h
    rfl
  · obtain ⟨l, p, ns, rfl, ⟨hl, lp, ln, ⟨i, hp⟩, lt⟩, q'⟩ := h
    have q : Q (.int (ns.getD i 0 : Nat)) (upd H p (.lst [.int (if i < ns.length then i + 1 else i : Nat)])) := by
      refine q' _ _ ?_ ⟨by rw [upd_ne lp]; exact hl, lp, ln, ⟨_, upd_same⟩, lt⟩ (fun b o n e => by rw [upd_ne n]; exact e)
      rw [List.getD_eq_getElem?_getD]
      cases e : ns[i]? with
      | none => exact (by decide : 0 < 1000)
      | some n => exact lt n (List.mem_of_getElem? e)
    refine ⟨_, (pss_cons (ps_if (pt_cmpR op_lt (pe_ix ix_list (pv 1) pe_int (fun _ _ => rfl)) (pe_callB call_len_seq (by rfl) m_len (by decide +kernel) (pa_cons (pv 0) pa_nil)) (nomark _)) (pss_cons (ps_asg (pe_op op_add (pe_ix ix_list (pv 1) pe_int (fun _ _ => rfl)) pe_int) (pg_sub (pv 1) pe_int set_list))
      (pss_one (ps_ret (pe_ix ix_list (pv 0) (pe_op op_sub (pe_ix ix_list (pv 1) pe_int (fun _ _ => rfl)) pe_int) (fun _ _ => rfl))))) pss_nil)
      (pss_one (ps_ret pe_int))), ?_⟩
    rw [st__law_take]
    walk_at "wk"
    refine ⟨l, _, rfl, .inl (.inl (.inl hl)), ?_⟩
    rw [show (toV ns).length = ns.length by unfold toV; rw [List.length_map]]
    walk_at "wk"
    by_cases e : i < ns.length
    · rw [if_pos e] at q
      refine ite2 (fun _ => ?_) (fun z => absurd (decide_eq_true (by exact_mod_cast e)) z)
      walk_at "wk"
      refine ⟨p, _, 0, 0, rfl, rfl, hp, rfl, ?_⟩
      have hp1 : (upd H p (.lst [.int ((i : Int) + 1)])) p = some (.lst [.int ((i : Int) + 1)]) := upd_same
      have hl1 : (upd H p (.lst [.int ((i : Int) + 1)])) l = some (.lst (toV ns)) := by rw [upd_ne lp]; exact hl
      rw [show ((i + 1 : Nat) : Int) = (i : Int) + 1 by omega] at q
      dsimp only [List.set]
      generalize upd H p (.lst [.int ((i : Int) + 1)]) = H1 at hp1 hl1 q ⊢
      walk_at "wk"
      refine ⟨l, _, (i : Int), .int (ns.getD i 0 : Nat), rfl, by congr 1; omega, .inl (.inl hl1), atI_nat ?_, q⟩
      unfold toV
      rw [List.getElem?_map, List.getD_eq_getElem?_getD, List.getElem?_eq_getElem e]
      rfl
    · rw [if_neg e] at q
      refine ite2 (fun z => absurd (of_decide_eq_true z) (by omega)) (fun _ => ?_)
      walk_at "wk"
      have e2 : ns.getD i 0 = 0 := by
        rw [List.getD_eq_getElem?_getD, List.getElem?_eq_none (by omega)]
        rfl
      have e3 : upd H p (.lst [.int (i : Nat)]) = H := by
        funext b
        by_cases hb : b = p
        · subst hb
          rw [upd_same, hp]
        · rw [upd_ne hb]
      rw [e2, e3] at q
      exact q

def sp__law_machine (K : PySem.W.Frag) : Sp := fun vs H Q _ => ∃ (l p : Addr) (ns : List Nat), vs = [.ref l, .ref p] ∧ TK H l p ns ∧
  ∀ (T L : Addr) (R : Nat) (as : List Addr) (ls : List Ln) (H' : Hp), TK H' l p ns → Ex p H H' → H T = none → H L = none → H' T = some (.tup [.int R, .ref L]) → LL H' L as ls → MOk R ls → Q (.ref T) H'
theorem ok__law_machine {f : Addr} {fd : FuncData}  (F : Fun K "_law_machine" "_law_machine" s__law_machine f fd) (C__law_take : Cal P w K mg base "_law_take" 1 ["numbers", "place"] (sp__law_take K)) (m_range : mg "range" = none) : FnOk P w K mg base CX0 2 f fd ["numbers", "place"] (sp__law_machine K) := by
  refine F.ok sc__law_machine (fun vs H Q E h => ?_) (fun cdv A outer s H vs Q E hr h => ?_)
  · obtain ⟨l, p, ns, rfl, _⟩ := h
    rfl
  · obtain ⟨l, p, ns, rfl, T0, q⟩ := h
    refine ⟨_, (pss_cons (ps_set (i := 2) sc__law_machine.nd rfl (.inl rfl) (pe_op op_add pe_int (pe_op op_mod (pe_cal C__law_take hr (by rfl) (pa_cons (pv 0) (pa_cons (pv 1) pa_nil))) pe_int)))
      (pss_cons (ps_set (i := 3) sc__law_machine.nd rfl (.inl rfl) (pe_op op_add pe_int (pe_op op_mod (pe_cal C__law_take hr (by rfl) (pa_cons (pv 0) (pa_cons (pv 1) pa_nil))) pe_int)))
      (pss_cons (ps_set (i := 4) sc__law_machine.nd rfl (.inl rfl) (pe_op op_mod (pe_cal C__law_take hr (by rfl) (pa_cons (pv 0) (pa_cons (pv 1) pa_nil))) (pv 3)))
      (pss_cons (ps_set (i := 5) sc__law_machine.nd rfl (.inl rfl) (pe_lst pa_nil))
      (pss_cons (ps_for PassesOwn.never rfl (pi_range1 (by rfl) m_range (pa_cons (pv 3) pa_nil)) (pg_name (i := 6) sc__law_machine.nd rfl (.inl rfl)) (pss_cons (ps_set (i := 7) sc__law_machine.nd rfl (.inl rfl) (pe_cal C__law_take hr (by rfl) (pa_cons (pv 0) (pa_cons (pv 1) pa_nil))))
      (pss_cons (ps_set (i := 8) sc__law_machine.nd rfl (.inl rfl) (pe_tup (pa_cons (pe_op op_mod (pe_op op_fdivW (pv 7) pe_int) (pv 3)) (pa_cons (pe_op op_mod (pe_cal C__law_take hr (by rfl) (pa_cons (pv 0) (pa_cons (pv 1) pa_nil))) (pv 3)) pa_nil))))
      (pss_one (ps_if (PW.pt (pw_or (pt_cmpR op_eq (pv 6) (pv 4) (nomark _)) (pw_or1 (pt_cmpR op_eq (pe_op op_mod (pv 7) pe_int) pe_int (nomark _))))) (pss_one (ps_expr (pe_bm PySem.F.plainAttrs_list PySem.F.slot_list_append PySem.F.type_list_append mt_append (pv 5) (pa_cons (pe_tup (pa_cons pe_str pa_nil)) pa_nil)))) (pss_one (ps_if (pt_cmpR op_lt (pe_op op_mod (pv 7) pe_int) pe_int (nomark _)) (pss_one (ps_expr (pe_bm PySem.F.plainAttrs_list PySem.F.slot_list_append PySem.F.type_list_append mt_append (pv 5) (pa_cons (pe_tup (pa_cons pe_str (pa_cons (pe_op op_mod (pe_op op_fdivW (pv 7) pe_int) (pv 2)) (pa_cons (pe_ix ix_tup (pv 8) pe_int (fun _ _ => rfl)) pa_nil)))) pa_nil)))) (pss_one (ps_expr (pe_bm PySem.F.plainAttrs_list PySem.F.slot_list_append PySem.F.type_list_append mt_append (pv 5) (pa_cons (pe_tup (pa_cons pe_str (pa_cons (pe_op op_mod (pe_op op_fdivW (pv 7) pe_int) (pv 2)) (pa_cons (pe_ix ix_tup (pv 8) pe_int (fun _ _ => rfl)) (pa_cons (pe_ix ix_tup (pv 8) pe_int (fun _ _ => rfl)) pa_nil))))) pa_nil)))))))))))
      (pss_one (ps_ret (pe_tup (pa_cons (pv 2) (pa_cons (pv 5) pa_nil)))))))))), ?_⟩
    rw [st__law_machine]
    walk_at "wk"
    refine ⟨l, p, ns, rfl, T0, fun n1 H1 f1 T1 x1 => ?_⟩
    walk_at "wk"
    refine ⟨l, p, ns, rfl, T1, fun n2 H2 f2 T2 x2 => ?_⟩
    walk_at "wk"
    obtain ⟨R, eR⟩ : ∃ R : Nat, R = 1 + n1 % 4 := ⟨_, rfl⟩
    obtain ⟨S, eS⟩ : ∃ S : Nat, S = 1 + n2 % 12 := ⟨_, rfl⟩
    rw [show (1 : Int) + (n1 : Int) % 4 = (R : Int) by omega, show (1 : Int) + (n2 : Int) % 12 = (S : Int) by omega]
    have S0 : (0 : Int) < (S : Int) := by omega
    have R0 : (0 : Int) < (R : Int) := by omega
    refine ⟨l, p, ns, rfl, T2, fun n3 H3 f3 T3 x3 => ?_⟩
    walk_at "wk"
    obtain ⟨st, est⟩ : ∃ st : Nat, st = n3 % S := ⟨_, rfl⟩
    have hst : st < S := by rw [est]; exact Nat.mod_lt _ (by omega)
    rw [show (n3 : Int) % (S : Int) = (st : Int) by rw [est]; push_cast; rfl]
    intro P nP
    obtain ⟨T4, x4, hP, Pp⟩ := T3.new (o := .lst []) nP
    have x := (((x1.trans x2).trans x3).trans x4)
    have nP0 : H P = none := ((x1.trans x2).trans x3).free T3.pn nP
    have L0 : LL (upd H3 P (.lst [])) P [] [] := ⟨upd_same, .nil⟩
    generalize upd H3 P (.lst []) = H4 at T4 x4 x L0 ⊢
    clear x1 x2 x3 x4 T1 T2 T3 hP nP
    walk_at "wk"
    rw [Int.toNat_natCast]
    refine for_rng (n := S) (fun k σ' H' => ∃ (c6 c7 c8 : Option V) (as : List Addr) (ls : List Ln), σ' = [some (.ref l), some (.ref p), some (.int R), some (.int S), some (.int st), some (.ref P), c6, c7, c8] ∧ TK H' l p ns ∧ Ex p H H' ∧ LL H' P as ls ∧
      ls.length = k ∧ (∀ l ∈ ls, l.Ok R S) ∧ (st < k → Ln.stop ∈ ls)) ?_ ?_ ?_
    · exact ⟨_, _, _, [], [], rfl, T4, x, L0, rfl, fun l hl => (List.not_mem_nil hl).elim, fun h => absurd h (Nat.not_lt_zero _)⟩
    · rintro k σ' H5 hk ⟨c6, c7, c8, as, ls, rfl, T5, x5, L5, hl, hok, hs⟩
      walk_at "wk"
      refine ⟨l, p, ns, rfl, T5, fun n4 H6 f4 T6 x6 => ?_⟩
      have L6 := L5.ex x6 Pp T5.pl
      walk_at "wk"
      refine ⟨l, p, ns, rfl, T6, fun n5 H7 f5 T7 x7 => ?_⟩
      have L7 := L6.ex x7 Pp T6.pl
      walk_at "wk"
      intro G nG
      obtain ⟨g0, eg0⟩ : ∃ g0 : Nat, g0 = n4 / 8 % S := ⟨_, rfl⟩
      obtain ⟨g1, eg1⟩ : ∃ g1 : Nat, g1 = n5 % S := ⟨_, rfl⟩
      have hg0 : g0 < S := by rw [eg0]; exact Nat.mod_lt _ (by omega)
      have hg1 : g1 < S := by rw [eg1]; exact Nat.mod_lt _ (by omega)
      rw [show (n4 : Int) / 8 % (S : Int) = (g0 : Int) by rw [eg0]; push_cast; rfl, show (n5 : Int) % (S : Int) = (g1 : Int) by rw [eg1]; push_cast; rfl]
      obtain ⟨T8, x8, hG, Gp⟩ := T7.new (o := .tup [.int g0, .int g1]) nG
      have L8 := L7.keep (same_upd (o := .tup [.int g0, .int g1]) nG)
      have x9 := ((x5.trans x6).trans x7).trans x8
      generalize upd H7 G (.tup [.int g0, .int g1]) = H8 at T8 L8 hG x9 ⊢
      have fin : ∀ (t : Addr) (li : Ln), H8 t = none → li.Ok R S → (k = st → li = .stop) → ∃ (c6 c7 c8 : Option V) (as' : List Addr) (ls' : List Ln), [some (.ref l), some (.ref p), some (.int R), some (.int S), some (.int st), some (.ref P), some (.int k), some (.int n4), some (.ref G)] =
          [some (.ref l), some (.ref p), some (.int R), some (.int S), some (.int st), some (.ref P), c6, c7, c8] ∧ TK (upd (upd H8 t (.tup li.enc)) P (.lst (as.map V.ref ++ [V.ref t]))) l p ns ∧ Ex p H (upd (upd H8 t (.tup li.enc)) P (.lst (as.map V.ref ++ [V.ref t]))) ∧
          LL (upd (upd H8 t (.tup li.enc)) P (.lst (as.map V.ref ++ [V.ref t]))) P as' ls' ∧ ls'.length = k + 1 ∧ (∀ l ∈ ls', l.Ok R S) ∧ (st < k + 1 → Ln.stop ∈ ls') := by
        intro t li nt ho hse
        have lP : l ≠ P := ne_at T0.l_ nP0
        refine ⟨_, _, _, as ++ [t], ls ++ [li], rfl, T8.off (same_upd nt) lP Pp.symm, ?_, L8.push nt, by rw [List.length_append, hl]; rfl, ?_, ?_⟩
        · intro b o n e
          rw [upd_ne (ne_at e nP0)]
          exact same_upd nt _ _ (x9 b o n e)
        · intro l2 h2
          rcases List.mem_append.mp h2 with h2 | h2
          · exact hok l2 h2
          · rw [List.mem_singleton.mp h2]
            exact ho
        · intro h2
          by_cases c : st < k
          · exact List.mem_append_left _ (hs c)
          · exact List.mem_append_right _ (by rw [hse (by omega)]; exact List.mem_singleton.mpr rfl)
      have hlen : (as.map V.ref).length < sizeLine := by
        rw [List.length_map, Paired.length L8.2]
        exact sz_lt (by omega)
      have appd : ∀ (t : Addr) (li : Ln) (Q' : VK), H8 t = none → Q' .non (upd (upd H8 t (.tup li.enc)) P (.lst (as.map V.ref ++ [V.ref t]))) → rAppend (.ref P) [.ref t] (upd H8 t (.tup li.enc)) Q' := fun t li Q' nt qq => app_go (same_upd nt _ _ L8.1) hlen qq
      have hP8 := L8.1
      have er : (n4 : Int) / 3 % (R : Int) = ((n4 / 3 % R : Nat) : Int) := by push_cast; rfl
      have hr3 : n4 / 3 % R < R := Nat.mod_lt _ (by omega)
      walk_at "wk"
      rw [dvi]
      refine ite2 (fun e => ?_) (fun e => ?_)
      · walk_at "wk"
        intro t nt
        walk_at "wk"
        refine appd t .stop _ nt ?_
        exact fin t .stop nt trivial (fun _ => rfl)
      have ks : k ≠ st := fun z => e (decide_eq_true (by rw [z]))
      walk_at "wk"
      rw [dvi]
      refine ite2 (fun e => ?_) (fun e => ?_)
      · walk_at "wk"
        intro t nt
        walk_at "wk"
        refine appd t .stop _ nt ?_
        exact fin t .stop nt trivial (fun _ => rfl)
      walk_at "wk"
      refine ite2 (fun e => ?_) (fun e => ?_)
      · walk_at "wk"
        rw [er]
        intro t nt
        walk_at "wk"
        refine appd t (.inc (n4 / 3 % R) g0) _ nt ?_
        exact fin t (.inc (n4 / 3 % R) g0) nt ⟨hr3, hg0⟩ (fun z => absurd z ks)
      · walk_at "wk"
        rw [er]
        intro t nt
        walk_at "wk"
        refine appd t (.dec (n4 / 3 % R) g0 g1) _ nt ?_
        exact fin t (.dec (n4 / 3 % R) g0 g1) nt ⟨hr3, hg0, hg1⟩ (fun z => absurd z ks)
    · rintro σ' H5 ⟨c6, c7, c8, as, ls, rfl, T5, x5, L5, hl, hok, hs⟩
      walk_at "wk"
      intro T nT
      have s1 := same_upd (o := .tup [.int R, .ref P]) nT
      exact q T P R as ls _ (T5.keep s1) (x5.trans (Ex.of s1)) (x5.free T5.pn nT) nP0 upd_same (L5.keep s1) ⟨by omega, by omega, by omega, by omega, by rw [hl]; exact hok, hs hst⟩

def isNum : V → Bool
  | .int _ => true
  | _ => false
def isNat : V → Bool
  | .int i => decide (0 ≤ i)
  | _ => false
def FlatK (v : V) : Prop := (∃ i, v = .int i) ∨ (∃ b, v = .bl b) ∨ v = .non ∨ ∃ x, v = .str x
def sp_is_number (K : PySem.W.Frag) : Sp := fun vs H Q _ => ∃ v : V, vs = [v] ∧ FlatK v ∧ Q (.bl (isNum v)) H
theorem ok_is_number {f : Addr} {fd : FuncData}  (F : Fun K "is_number" "is_number" s_is_number f fd) (m_isinstance : mg "isinstance" = none) (m_int : mg "int" = none) (m_bool : mg "bool" = none) : FnOk P w K mg base CX0 1 f fd ["value"] (sp_is_number K) := by
  refine F.ok sc_is_number (fun vs H Q E h => ?_) (fun cdv A outer s H vs Q E hr h => ?_)
  · obtain ⟨i, rfl, _⟩ := h
    rfl
  · obtain ⟨v, rfl, hf, q⟩ := h
    refine ⟨_, (pss_one (ps_ret (pe_and (pe_callB call_isi (by rfl) m_isinstance (by decide +kernel) (pa_cons (pv 0) (pa_cons (pe_bltn (v := .ty "int") rfl m_int (by decide +kernel) rfl) pa_nil))) (pe_one (pe_not (pe_callB call_isi (by rfl) m_isinstance (by decide +kernel) (pa_cons (pv 0) (pa_cons (pe_bltn (v := .ty "bool") rfl m_bool (by decide +kernel) rfl) pa_nil)))))))), ?_⟩
    rcases hf with ⟨i, rfl⟩ | ⟨b, rfl⟩ | rfl | ⟨x, rfl⟩
    · exact ⟨_, rfl, .int i, .ty "int", .type "int", .type "int", true, rfl, .ty _, .base (.int i), kit_ty (by decide +kernel), _, rfl, WK.ift ⟨_, rfl, .int i, .ty "bool", .type "int", .type "bool", false, rfl, .ty _, .base (.int i), kit_ty (by decide +kernel), _, rfl, q⟩⟩
    · exact ⟨_, rfl, .bl b, .ty "int", .type "bool", .type "int", true, rfl, .ty _, .base (.bl b), kit_ty (by decide +kernel), _, rfl, WK.ift ⟨_, rfl, .bl b, .ty "bool", .type "bool", .type "bool", true, rfl, .ty _, .base (.bl b), kit_ty (by decide +kernel), _, rfl, q⟩⟩
    · exact ⟨_, rfl, .non, .ty "int", .type "NoneType", .type "int", false, rfl, .ty _, .base .non, kit_ty (by decide +kernel), _, rfl, WK.iff q⟩
    · exact ⟨_, rfl, .str x, .ty "int", .type "str", .type "int", false, rfl, .ty _, .base (.str x), kit_ty (by decide +kernel), _, rfl, WK.iff q⟩

def sp_is_natural (K : PySem.W.Frag) : Sp := fun vs H Q _ => ∃ v : V, vs = [v] ∧ FlatK v ∧ Q (.bl (isNat v)) H
theorem ok_is_natural {f : Addr} {fd : FuncData}  (F : Fun K "is_natural" "is_natural" s_is_natural f fd) (C_is_number : Cal P w K mg base "is_number" 1 ["value"] (sp_is_number K)) : FnOk P w K mg base CX0 2 f fd ["value"] (sp_is_natural K) := by
  refine F.ok sc_is_natural (fun vs H Q E h => ?_) (fun cdv A outer s H vs Q E hr h => ?_)
  · obtain ⟨i, rfl, _⟩ := h
    rfl
  · obtain ⟨v, rfl, hf, q⟩ := h
    refine ⟨_, (pss_one (ps_ret (pe_and (pe_cal C_is_number hr (by rfl) (pa_cons (pv 0) pa_nil)) (pe_one (pe_cmpR op_ge (pv 0) pe_int (nomark _)))))), ?_⟩
    refine ⟨_, rfl, v, rfl, hf, _, rfl, ?_⟩
    rcases hf with ⟨i, rfl⟩ | ⟨b, rfl⟩ | rfl | ⟨x, rfl⟩
    · exact WK.ift ⟨_, rfl, _, _, rfl, rfl, q⟩
    · exact WK.iff q
    · exact WK.iff q
    · exact WK.iff q

def sp_is_line (K : PySem.W.Frag) : Sp := fun vs H Q _ => ∃ (a : Addr) (l : Ln) (R S : Nat), vs = [.ref a, .int R, .int S] ∧ LnAt H a l ∧ l.Ok R S ∧ ∀ H', Same H H' → Q (.bl true) H'
theorem ok_is_line {f : Addr} {fd : FuncData}  (F : Fun K "is_line" "is_line" s_is_line f fd) (C_is_natural : Cal P w K mg base "is_natural" 2 ["value"] (sp_is_natural K)) (m_isinstance : mg "isinstance" = none) (m_tuple : mg "tuple" = none) (m_str : mg "str" = none) (m_len : mg "len" = none) (m_all : mg "all" = none) (m_zip : mg "zip" = none) {d_LENGTHS : Addr} {e_LENGTHS : Array DictEntry} {n_LENGTHS : Nat} (m_LENGTHS : mg "LENGTHS" = some (.ref d_LENGTHS)) (k_LENGTHS : KDict K w d_LENGTHS e_LENGTHS n_LENGTHS) {t_LENGTHS_stop : Tok} (q_LENGTHS_stop : PySem.W.nsIn K d_LENGTHS "stop" = some (some (.int (1) t_LENGTHS_stop))) {t_LENGTHS_inc : Tok} (q_LENGTHS_inc : PySem.W.nsIn K d_LENGTHS "inc" = some (some (.int (3) t_LENGTHS_inc))) {t_LENGTHS_dec : Tok} (q_LENGTHS_dec : PySem.W.nsIn K d_LENGTHS "dec" = some (some (.int (4) t_LENGTHS_dec))) : FnOk P w K mg base CX0 3 f fd ["value", "registers", "size"] (sp_is_line K) := by
  refine F.ok sc_is_line (fun vs H Q E h => ?_) (fun cdv A outer s H vs Q E hr h => ?_)
  · obtain ⟨a, l, R, S, rfl, _⟩ := h
    rfl
  · obtain ⟨a, l, R, S, rfl, hl, ok, q⟩ := h
    refine ⟨_, (pss_cons (ps_if (PW.pt (pw_or (pt_not (pt_val (pe_callB call_isi (by rfl) m_isinstance (by decide +kernel) (pa_cons (pv 0) (pa_cons (pe_bltn (v := .ty "tuple") rfl m_tuple (by decide +kernel) rfl) pa_nil))))) (pw_or (pt_not (pt_truth (pv 0) (by intro _; rfl))) (pw_or1 (pt_not (pt_val (pe_callB call_isi (by rfl) m_isinstance (by decide +kernel) (pa_cons (pe_ix ix_tup (pv 0) pe_int (fun _ _ => rfl)) (pa_cons (pe_bltn (v := .ty "str") rfl m_str (by decide +kernel) rfl) pa_nil))))))))) (pss_one (ps_ret pe_bl)) pss_nil)
      (pss_cons (ps_if (pt_cmpR op_ne (pe_kget1 (pe_glob rfl m_LENGTHS (show RelV (.ref d_LENGTHS) _ from rfl)) (pe_ix ix_tup (pv 0) pe_int (fun _ _ => rfl)) ⟨by rfl, by rfl, by rfl, by rfl⟩) (pe_callB call_len_seq (by rfl) m_len (by decide +kernel) (pa_cons (pv 0) pa_nil)) (nomark _)) (pss_one (ps_ret pe_bl)) pss_nil)
      (pss_cons (ps_set (i := 3) sc_is_line.nd rfl (.inl rfl) (pe_tup (pa_cons (pv 1) (pa_cons (pv 2) (pa_cons (pv 2) pa_nil)))))
      (pss_one (ps_ret (pe_callB (cr_all rfl) (by rfl) m_all (by decide +kernel) (pa_cons (pe_lc (own := [("number", 4), ("limit", 5)]) (g := (gTup K 2 (gCons (gName 4) (gCons (gName 5) gNil)))) (by rfl) sc_is_line.nd (RZ.pi_zipA (by rfl) m_zip (pa_cons (pe_slice sl_tupA (pv 0) (po_some pe_int) po_none) (pa_cons (pv 3) pa_nil))) (blkOk_by (own := [("number", 4), ("limit", 5)]) (N := ["value", "registers", "size", "limits", "number", "limit"]) (sc := defScope s_is_line) (by decide +kernel)) (fun _ _ _ _ _ => (pg_tup (by rfl) (pgs_cons (pg_name (i := 4) sc_is_line.nd rfl (Or.inl rfl)) (pgs_cons (pg_name (i := 5) sc_is_line.nd rfl (Or.inl rfl)) pgs_nil)))) (fun _ _ _ _ _ => pts_nil) (fun _ _ _ _ _ => (pe_and (pe_cal C_is_natural hr (by rfl) (pa_cons (pv 4) pa_nil)) (pe_one (pe_cmpR op_lt (pv 4) (pv 5) (nomark _)))))) pa_nil))))))), ?_⟩
    rw [st_is_line]
    obtain ⟨wd, ws, tk, henc, hq, hlen, hlt⟩ : ∃ (wd : Str) (ws : List Nat) (tk : Tok), l.enc = .str wd :: toV ws ∧ PySem.W.nsIn K d_LENGTHS wd = some (some (.int ((ws.length + 1 : Nat) : Int) tk)) ∧ ws.length ≤ 3 ∧ ∀ (i x y : Nat), ws[i]? = some x → [R, S, S][i]? = some y → x < y := by
      cases l with
      | stop => exact ⟨_, [], _, rfl, q_LENGTHS_stop, by decide, fun i x y e => by simp at e⟩
      | inc r g =>
        refine ⟨_, [r, g], _, rfl, q_LENGTHS_inc, Nat.le_of_ble_eq_true rfl, fun i x y e e2 => ?_⟩
        match i with
        | 0 => cases e; cases e2; exact ok.1
        | 1 => cases e; cases e2; exact ok.2
        | i + 2 => simp at e
      | dec r g h =>
        refine ⟨_, [r, g, h], _, rfl, q_LENGTHS_dec, Nat.le_of_ble_eq_true rfl, fun i x y e e2 => ?_⟩
        match i with
        | 0 => cases e; cases e2; exact ok.1
        | 1 => cases e; cases e2; exact ok.2.1
        | 2 => cases e; cases e2; exact ok.2.2
        | i + 3 => simp at e
    have ha : H a = some (.tup (.str wd :: toV ws)) := by rw [← henc]; exact hl
    walk_at "wk"
    refine isiB (b := true) (.tup ha) (kit_ty (by decide +kernel)) ?_
    walk_at "wk"
    refine ⟨true, .inr (.inl ⟨_, sq_of ha, rfl⟩), ?_⟩
    walk_at "wk"
    refine ixT_as (i := 0) (sq_of ha) at0 ?_
    walk_at "wk"
    refine isiB (b := true) (.str _) (kit_ty (by decide +kernel)) ?_
    walk_at "wk"
    refine ⟨d_LENGTHS, _, _, rfl, k_LENGTHS, ?_⟩
    walk_at "wk"
    refine ixT_as (i := 0) (sq_of ha) at0 ?_
    refine ⟨wd, _, .int ((ws.length + 1 : Nat) : Int), rfl, hq, ⟨_, rfl⟩, ?_⟩
    walk_at "wk"
    refine ⟨a, _, rfl, .inr (sq_of ha), ?_⟩
    rw [show (V.str wd :: toV ws).length = ws.length + 1 by simp [toV]]
    walk_at "wk"
    refine ite2 (fun e => ?_) (fun _ => ?_)
    · rw [decide_eq_true rfl] at e
      exact absurd e (by decide)
    walk_at "wk"
    intro L nL
    have s1 := same_upd (o := .tup [.int R, .int S, .int S]) nL
    have hL : (upd H L (.tup [.int R, .int S, .int S])) L = some (.tup (toV [R, S, S])) := upd_same
    have ha1 := s1 _ _ ha
    generalize upd H L (.tup [.int R, .int S, .int S]) = H1 at s1 hL ha1 ⊢
    walk_at "wk"
    refine sl1 ha1 fun t nt => ?_
    have s2 := same_upd (o := .tup (toV ws)) nt
    have ht : (upd H1 t (.tup (toV ws))) t = some (.tup (toV ws)) := upd_same
    have hL2 := s2 _ _ hL
    have s12 := s1.trans s2
    generalize upd H1 t (.tup (toV ws)) = H2 at s2 ht hL2 s12 ⊢
    walk_at "wk"
    refine ⟨t, L, _, _, rfl, .inr ⟨sq_of ht, sq_of hL2, fun D nD => ?_⟩⟩
    have hn : ws.length = min (toV ws).length (toV [R, S, S]).length := by
      simp only [toV, List.length_map]
      show _ = min _ 3
      omega
    refine lc_it (walk_zipT (K := K) hn) (fun i H' => H' D = some (.lst ((List.replicate i true).map V.bl)) ∧ Same H2 H') ?_ ?_ ?_ ?_
    · exact ⟨upd_same, same_upd nD⟩
    · rintro i H' _ ⟨_, s3⟩
      exact ⟨sq_of (s3 _ _ ht), sq_of (s3 _ _ hL2)⟩
    · rintro i x H3 H4 li ⟨hD, s3⟩ ⟨T, u, v, rfl, nT, rfl, hu, hv⟩
      obtain ⟨x, hx, rfl⟩ := toV_at2 (show (toV ws)[i]? = some u from hu)
      obtain ⟨y, hy, rfl⟩ := toV_at2 (show (toV [R, S, S])[i]? = some v from hv)
      have xy := hlt i x y hx hy
      refine gTup_new rfl ⟨_, _, rfl, _, _, rfl, rfl, ?_⟩
      have s4 := same_upd (o := .tup [.int x, .int y]) nT
      refine ⟨rfl, WK.yes (WK.ift ?_)⟩
      refine ⟨_, rfl, _, rfl, .inl ⟨_, rfl⟩, ?_⟩
      rw [show isNat (.int x) = true from decide_eq_true (show (0 : Int) ≤ (x : Int) by omega)]
      refine ⟨_, rfl, WK.ift ⟨_, rfl, _, rfl, _, _, rfl, rfl, ?_⟩⟩
      dsimp only
      rw [decide_eq_true (show (x : Int) < (y : Int) by omega)]
      refine ⟨_, s4 _ _ hD, by rw [List.length_map, List.length_replicate]; exact sz_lt (by omega), by rw [upd_same, rep_snoc], Same.new (s3.trans s4) nD⟩
    · rintro H3 ⟨hD, s3⟩
      walk_at "wk"
      refine ⟨D, _, rfl, .inl (.inl hD), ?_⟩
      rw [rep_all]
      exact q _ (s12.trans s3)

def sp__demand_machine (K : PySem.W.Frag) : Sp := fun vs H Q _ => ∃ (R : Nat) (P : Addr) (as : List Addr) (ls : List Ln), vs = [.int R, .ref P] ∧ LL H P as ls ∧ MOk R ls ∧ ∀ H', Same H H' → Q .non H'
theorem ok__demand_machine {f : Addr} {fd : FuncData}  (F : Fun K "_demand_machine" "_demand_machine" s__demand_machine f fd) (C_is_number : Cal P w K mg base "is_number" 1 ["value"] (sp_is_number K)) (C_is_line : Cal P w K mg base "is_line" 3 ["value", "registers", "size"] (sp_is_line K)) (m_isinstance : mg "isinstance" = none) (m_list : mg "list" = none) (m_tuple : mg "tuple" = none) (m_len : mg "len" = none) (m_enumerate : mg "enumerate" = none) {t_MOST_REGISTERS : Tok} (m_MOST_REGISTERS : mg "MOST_REGISTERS" = some (.int (4) t_MOST_REGISTERS)) {t_MOST_LINES : Tok} (m_MOST_LINES : mg "MOST_LINES" = some (.int (12) t_MOST_LINES)) {r_STOP : Addr} (m_STOP : mg "STOP" = some (.ref r_STOP)) (k_STOP : TupK K r_STOP [V.str "stop"]) : FnOk P w K mg base CX0 4 f fd ["registers", "lines"] (sp__demand_machine K) := by
  refine F.ok sc__demand_machine (fun vs H Q E h => ?_) (fun cdv A outer s H vs Q E hr h => ?_)
  · obtain ⟨R, P, as, ls, rfl, _⟩ := h
    rfl
  · obtain ⟨R, P, as, ls, rfl, hL, M, q⟩ := h
    refine ⟨_, (pss_cons (ps_if (PW.pt (pw_or (pt_not (pt_val (pe_cal C_is_number (hr.mono (by decide)) (by rfl) (pa_cons (pv 0) pa_nil)))) (pw_or1 (pt_not (pt_chain op_le op_le pe_int (pv 0) (pe_glob rfl m_MOST_REGISTERS (show RelV (.int (4)) _ from ⟨_, rfl⟩))))))) (pss_one ps_dead) pss_nil)
      (pss_cons (ps_if (PW.pt (pw_or (pt_not (pt_val (pe_callB call_isiT (by rfl) m_isinstance (by decide +kernel) (pa_cons (pv 1) (pa_cons (pe_tup (pa_cons (pe_bltn (v := .ty "list") rfl m_list (by decide +kernel) rfl) (pa_cons (pe_bltn (v := .ty "tuple") rfl m_tuple (by decide +kernel) rfl) pa_nil))) pa_nil))))) (pw_or1 (pt_not (pt_chain op_le op_le pe_int (pe_callB call_len_seq (by rfl) m_len (by decide +kernel) (pa_cons (pv 1) pa_nil)) (pe_glob rfl m_MOST_LINES (show RelV (.int (12)) _ from ⟨_, rfl⟩))))))) (pss_one ps_dead) pss_nil)
      (pss_cons (ps_for PassesOwn.never rfl (pi_enum (by rfl) m_enumerate (pa_cons (pv 1) pa_nil)) (pg_tup (by rfl) (pgs_cons (pg_name (i := 2) sc__demand_machine.nd rfl (.inl rfl)) (pgs_cons (pg_name (i := 3) sc__demand_machine.nd rfl (.inl rfl)) pgs_nil))) (pss_one (ps_if (pt_not (pt_val (pe_cal C_is_line hr (by rfl) (pa_cons (pv 3) (pa_cons (pv 0) (pa_cons (pe_callB call_len_seq (by rfl) m_len (by decide +kernel) (pa_cons (pv 1) pa_nil)) pa_nil)))))) (pss_one ps_dead) pss_nil)))
      (pss_one (ps_if (pt_cmpR (op_notInD (un65 hr)) (pe_glob rfl m_STOP (show RelV (.ref r_STOP) _ from rfl)) (pv 1) rfl) (pss_one ps_dead) pss_nil))))), ?_⟩
    rw [st__demand_machine]
    have hal : as.length = ls.length := Paired.length hL.2
    obtain ⟨r1, r4, l1, l12, hok, hst⟩ := M
    walk_at "wk"
    refine ⟨_, rfl, .inl ⟨_, rfl⟩, ?_⟩
    rw [show isNum (.int (R : Int)) = true from rfl]
    walk_at "wk"
    refine ite2 (fun _ => ?_) (fun e => absurd (decide_eq_true (show (1 : Int) ≤ (R : Int) by omega)) e)
    walk_at "wk"
    rw [decide_eq_true (show (R : Int) ≤ 4 by omega)]
    walk_at "wk"
    intro t nt
    have s1 := same_upd (o := .tup [.ty "list", .ty "tuple"]) nt
    have ht : (upd H t (.tup [.ty "list", .ty "tuple"])) t = some (.tup [.ty "list", .ty "tuple"]) := upd_same
    have hL1 := hL.keep s1
    generalize upd H t (.tup [.ty "list", .ty "tuple"]) = H1 at s1 ht hL1 ⊢
    have hP1 := hL1.1
    walk_at "wk"
    refine isiT (b := true) ht (.lst hP1) (kitAny_cons (b := true) (kit_ty (by decide +kernel)) (fun e => by cases e) (fun _ => rfl)) ?_
    walk_at "wk"
    refine ⟨P, _, rfl, .inl (.inl (.inl hP1)), ?_⟩
    rw [List.length_map, hal]
    walk_at "wk"
    refine ite2 (fun _ => ?_) (fun e => absurd (decide_eq_true (show (1 : Int) ≤ (ls.length : Int) by omega)) e)
    walk_at "wk"
    rw [decide_eq_true (show (ls.length : Int) ≤ 12 by omega)]
    walk_at "wk"
    refine ⟨P, _, rfl, .inl (.inl hP1), ?_⟩
    refine for_it (walk_enum (K := K) (a := P) (xs := as.map V.ref)) (fun i σ' H' => ∃ c2 c3 : Option V, σ' = [some (.int R), some (.ref P), c2, c3] ∧ Same H1 H') ?_ ?_ ?_ ?_
    · exact ⟨none, none, rfl, fun _ _ z => z⟩
    · rintro i σ' H' _ ⟨_, _, _, s2⟩
      exact .inl (.inl (s2 _ _ hP1))
    · rintro i x σ' H2 H3 li ⟨c2, c3, rfl, s2⟩ ⟨T, u, v, rfl, nT, rfl, hu, hv⟩
      obtain ⟨a, ha, rfl⟩ := ref_at hv
      rw [List.length_map, hal] at li
      have hli : ls[i]? = some ls[i] := List.getElem?_eq_getElem li
      obtain ⟨a', ha', hla⟩ := paired_at hL1.2 hli
      obtain rfl : a = a' := Option.some.inj (ha.symm.trans ha')
      have s3 := s2.trans (same_upd (o := .tup [u, .ref a]) nT)
      refine gTup_new rfl ⟨_, _, rfl, _, _, rfl, rfl, ?_⟩
      dsimp only [List.set]
      generalize upd H2 T (.tup [u, .ref a]) = H4 at s3 ⊢
      walk_at "wk"
      refine ⟨P, _, rfl, .inl (.inl (.inl (s3 _ _ hP1))), ?_⟩
      rw [List.length_map, hal]
      walk_at "wk"
      refine ⟨a, ls[i], R, ls.length, rfl, s3 _ _ hla, hok _ (List.mem_of_getElem? hli), fun H5 s5 => ?_⟩
      walk_at "wk"
      exact ⟨_, _, rfl, s3.trans s5⟩
    · rintro σ' H2 ⟨c2, c3, rfl, s2⟩
      walk_at "wk"
      have hL2 := hL1.keep s2
      refine ⟨Ln.stop.dat, ls.map Ln.dat, .tup (k_STOP.sq H2) (.cons (.str _) .nil), .lst (.inl (.inl hL2.1)) (lns_all hL2.2), (lay_ln .stop).shaped (by decide), (lay_lns ls).shaped (by decide), ?_⟩
      have : ((ls.map Ln.dat).any fun z => PyData.eqv z Ln.stop.dat) = true := List.any_eq_true.mpr ⟨Ln.stop.dat, List.mem_map.mpr ⟨.stop, hst, rfl⟩, by rw [eqv_stop]; rfl⟩
      rw [this]
      walk_at "wk"
      exact q _ (s1.trans s2)

def sp_Machine___init__ (K : PySem.W.Frag) (c_Machine : Addr) : Sp := fun vs H Q _ => ∃ (p dx P : Addr) (R : Nat) (as : List Addr) (ls : List Ln), vs = [.ref p, .int R, .ref P] ∧ H p = some (.ins c_Machine dx []) ∧ LL H P as ls ∧ MOk R ls ∧
  ∀ H', MA c_Machine H' p R ls → (∀ b o, H b = some o → b ≠ p → H' b = some o) → Q .non H'
theorem ok_Machine___init__ {f : Addr} {fd : FuncData} {c_Machine : Addr} (F : Fun K "__init__" "Machine.__init__" s_Machine___init__ f fd) (C__demand_machine : Cal P w K mg base "_demand_machine" 4 ["registers", "lines"] (sp__demand_machine K)) (m_len : mg "len" = none) (m_tuple : mg "tuple" = none) (T_Machine : Tx_Machine K c_Machine) : FnOk P w K mg base CX0 5 f fd ["self", "registers", "lines"] (sp_Machine___init__ K c_Machine) := by
  refine F.ok sc_Machine___init__ (fun vs H Q E h => ?_) (fun cdv A outer s H vs Q E hr h => ?_)
  · obtain ⟨p, dx, P, R, as, ls, rfl, _⟩ := h
    rfl
  · obtain ⟨p, dx, P, R, as, ls, rfl, hp, hL, M, q⟩ := h
    refine ⟨_, (pss_cons (ps_expr (pe_cal C__demand_machine hr (by rfl) (pa_cons (pv 1) (pa_cons (pv 2) pa_nil))))
      (pss_cons (ps_fld (pv 0) (pv 1) rfl)
      (pss_cons (ps_fld (pv 0) (pe_callB call_len_seq (by rfl) m_len (by decide +kernel) (pa_cons (pv 2) pa_nil)) rfl)
      (pss_one (ps_fld (pv 0) (pe_callTy call_tuple_of (by rfl) m_tuple (by decide +kernel) (pa_cons (pv 2) pa_nil)) rfl))))), ?_⟩
    rw [st_Machine___init__]
    have hal : as.length = ls.length := Paired.length hL.2
    walk_at "wk"
    refine ⟨R, P, as, ls, rfl, hL, M, fun H1 s1 => ?_⟩
    have hp1 := s1 _ _ hp
    have hL1 := hL.keep s1
    have hP1 := hL1.1
    walk_at "wk"
    refine ⟨p, c_Machine, dx, _, rfl, hp1, T_Machine.cl, T_Machine.n_registers, by decide, ?_⟩
    have pP : p ≠ P := fun e => by rw [e, hP1] at hp1; cases hp1
    walk_at "wk"
    refine ⟨P, _, rfl, .inl (.inl (.inl (by rw [upd_ne pP.symm]; exact hP1))), ?_⟩
    rw [List.length_map, hal]
    walk_at "wk"
    refine ⟨p, c_Machine, dx, _, rfl, upd_same, T_Machine.cl, T_Machine.n_size, putF_lt (by show 0 + 1 < 1000; decide), ?_⟩
    walk_at "wk"
    refine ⟨P, _, rfl, .inl ⟨.inl (.inl (by rw [upd_ne pP.symm, upd_ne pP.symm]; exact hP1)), fun L nL => ?_⟩⟩
    have pL : p ≠ L := fun e => by rw [← e, upd_same] at nL; cases nL
    walk_at "wk"
    refine ⟨p, c_Machine, dx, _, rfl, by rw [upd_ne pL]; exact upd_same, T_Machine.cl, T_Machine.n__lines, putF_lt (putF_lt2 (by show 0 + 2 < 1000; decide)), ?_⟩
    have keep : ∀ b o, H1 b = some o → b ≠ p → (upd (upd (upd (upd H1 p (.ins c_Machine dx (putF "registers" (.int R) []))) p (.ins c_Machine dx (putF "size" (.int ls.length) (putF "registers" (.int R) [])))) L (.tup (as.map V.ref))) p (.ins c_Machine dx (putF "_lines" (.ref L) (putF "size" (.int ls.length) (putF "registers" (.int R) []))))) b = some o := by
      intro b o e n
      rw [upd_ne n, upd_ne (fun z => by rw [z] at e n; rw [upd_ne n, upd_ne n, e] at nL; cases nL), upd_ne n, upd_ne n]
      exact e
    refine q _ ⟨dx, L, as, upd_same, by rw [upd_ne pL.symm]; exact upd_same, Paired.mapP hL1.2 fun a l r => keep _ _ r (fun z => by rw [z] at r; exact absurd (hp1.symm.trans r) (fun w => by cases w))⟩ (fun b o e n => keep b o (s1 _ _ e) n)

def sp_Machine_table (K : PySem.W.Frag) (c_Machine : Addr) : Sp := fun vs H Q _ => ∃ (p : Addr) (R : Nat) (ls : List Ln), vs = [.ref p] ∧ MA c_Machine H p R ls ∧
  ∀ (H' : Hp) (P : Addr) (as : List Addr), Same H H' → H P = none → LL H' P as ls → Q (.ref P) H'
theorem ok_Machine_table {f : Addr} {fd : FuncData} {c_Machine : Addr} (F : Fun K "table" "Machine.table" s_Machine_table f fd) (m_list : mg "list" = none) (T_Machine : Tx_Machine K c_Machine) : FnOk P w K mg base CX0 1 f fd ["self"] (sp_Machine_table K c_Machine) := by
  refine F.ok sc_Machine_table (fun vs H Q E h => ?_) (fun cdv A outer s H vs Q E hr h => ?_)
  · obtain ⟨p, R, ls, rfl, _⟩ := h
    rfl
  · obtain ⟨p, R, ls, rfl, hM, q⟩ := h
    refine ⟨_, (pss_one (ps_ret (pe_callTy call_list_of (by rfl) m_list (by decide +kernel) (pa_cons (pe_fld (pv 0) rfl) pa_nil)))), ?_⟩
    rw [st_Machine_table]
    obtain ⟨dx, L, as, hp, hL, hls⟩ := hM
    walk_at "wk"
    refine ⟨p, c_Machine, dx, _, _, rfl, hp, T_Machine.cl, T_Machine.n__lines, fM_l _ _ _, ?_⟩
    walk_at "wk"
    refine ⟨L, _, rfl, .inr (sq_of hL), fun P nP => ?_⟩
    have s1 := same_upd (o := .lst (as.map V.ref)) nP
    exact q _ P as s1 nP ⟨upd_same, LsAt.keep hls s1⟩

def sp__law_inputs (K : PySem.W.Frag) : Sp := fun vs H Q _ => ∃ (l p : Addr) (ns : List Nat) (R : Nat), vs = [.ref l, .ref p, .int R] ∧ TK H l p ns ∧ R ≤ 4 ∧
  ∀ (t : Addr) (rs : List Int) (H' : Hp), TK H' l p ns → Ex p H H' → H t = none → H' t = some (.tup (rs.map V.int)) → rs.length = R → (∀ x ∈ rs, 0 ≤ x) → Q (.ref t) H'
theorem ok__law_inputs {f : Addr} {fd : FuncData}  (F : Fun K "_law_inputs" "_law_inputs" s__law_inputs f fd) (C__law_take : Cal P w K mg base "_law_take" 1 ["numbers", "place"] (sp__law_take K)) (m_tuple : mg "tuple" = none) (m_range : mg "range" = none) : FnOk P w K mg base CX0 2 f fd ["numbers", "place", "registers"] (sp__law_inputs K) := by
  refine F.ok sc__law_inputs (fun vs H Q E h => ?_) (fun cdv A outer s H vs Q E hr h => ?_)
  · obtain ⟨l, p, ns, R, rfl, _⟩ := h
    rfl
  · obtain ⟨l, p, ns, R, rfl, T0, hR, q⟩ := h
    refine ⟨_, (pss_one (ps_ret (pe_callTy call_tuple_of (by rfl) m_tuple (by decide +kernel) (pa_cons (pe_lc (own := [("k", 3)]) (g := (gName 3)) (by rfl) sc__law_inputs.nd (pi_range1 (by rfl) m_range (pa_cons (pv 2) pa_nil)) (blkOk_by (own := [("k", 3)]) (N := ["numbers", "place", "registers", "k"]) (sc := defScope s__law_inputs) (by decide +kernel)) (fun _ _ _ _ _ => (pg_name (i := 3) sc__law_inputs.nd rfl (Or.inl rfl))) (fun _ _ _ _ _ => pts_nil) (fun _ _ _ _ _ => (pe_ix (show IxR _ (rIxT K) from ix_tup) (pe_tup (pa_cons pe_int (pa_cons pe_int (pa_cons pe_int (pa_cons pe_int (pa_cons (pe_op op_pow pe_int pe_int) (pa_cons (pe_op op_pow pe_int pe_int) pa_nil))))))) (pe_op op_mod (pe_cal C__law_take hr (by rfl) (pa_cons (pv 0) (pa_cons (pv 1) pa_nil))) pe_int) (fun _ _ => rfl)))) pa_nil)))), ?_⟩
    rw [st__law_inputs]
    walk_at "wk"
    rw [Int.toNat_natCast]
    intro D nD
    have Dp : D ≠ p := T0.newp nD
    refine lc_it (walk_range (lo := 0) (n := R)) (fun i H' => ∃ rs : List Int, H' D = some (.lst (rs.map V.int)) ∧ rs.length = i ∧ (∀ x ∈ rs, 0 ≤ x) ∧ TK H' l p ns ∧ Ex p H H') ?_ (fun _ _ _ _ => trivial) ?_ ?_
    · exact ⟨[], upd_same, rfl, fun x hx => (List.not_mem_nil hx).elim, T0.keep (same_upd nD), Ex.of (same_upd nD)⟩
    · rintro i x H1 H2 li ⟨rs, hD, hl, hnn, T1, x1⟩ ⟨rfl, rfl⟩
      refine ⟨rfl, WK.yes (WK.ift ?_)⟩
      walk_at "wk"
      intro t nt
      have o1 := T1.new (o := .tup [V.int 0, V.int 1, V.int 2, V.int 7, V.int (10 ^ Int.toNat 6), V.int (10 ^ Int.toNat 40)]) nt
      obtain ⟨T2, x2, ht, tp⟩ := o1
      have hD2 := same_upd (o := .tup [V.int 0, V.int 1, V.int 2, V.int 7, V.int (10 ^ Int.toNat 6), V.int (10 ^ Int.toNat 40)]) nt _ _ hD
      generalize upd H2 t _ = H3 at T2 x2 ht hD2 ⊢
      refine ⟨_, rfl, _, rfl, l, p, ns, rfl, T2, fun n H4 _ T4 x4 => ?_⟩
      walk_at "wk"
      refine ixT_any (zs := [0, 1, 2, 7, 10 ^ 6, 10 ^ 40]) rfl (by omega) (by show _ < (6 : Int); omega) (x4 t _ tp ht) fun z hz => ?_
      refine ⟨_, x4 _ _ Dp hD2, by rw [List.length_map]; exact sz_lt (by omega), rs ++ [z], by rw [upd_same, List.map_append]; rfl, by rw [List.length_append, hl]; rfl, ?_, ?_, ?_⟩
      · intro x hx
        rcases List.mem_append.mp hx with hx | hx
        · exact hnn x hx
        · rw [List.mem_singleton] at hx
          subst hx
          simp only [List.mem_cons, List.not_mem_nil, or_false] at hz
          rcases hz with rfl | rfl | rfl | rfl | rfl | rfl <;> decide
      · exact T4.off (fun _ _ z => z) (ne_at T0.l_ nD) Dp.symm
      · intro b o n e
        rw [upd_ne (ne_at e nD)]
        exact ((x1.trans x2).trans x4) b o n e
    · rintro H1 ⟨rs, hD, hl, hnn, T1, x1⟩
      walk_at "wk"
      refine ⟨D, _, rfl, .inl ⟨.inl (.inl hD), fun t nt => ?_⟩⟩
      have s2 := same_upd (o := .tup (rs.map V.int)) nt
      exact q t rs _ (T1.keep s2) (x1.trans (Ex.of s2)) (x1.free T1.pn nt) upd_same hl hnn

def sp__law_step (K : PySem.W.Frag) : Sp := fun vs H Q _ => ∃ (L c : Addr) (R : Nat) (as : List Addr) (ls : List Ln) (f : Cfg), vs = [.ref L, .ref c] ∧ LL H L as ls ∧ MOk R ls ∧ CfAt H c f ∧ CfOk R ls f ∧
  (stepM ls f = none → ∀ H', Same H H' → Q .non H') ∧ ∀ g, stepM ls f = some g → ∀ H' c', Same H H' → CfAt H' c' g → Q (.ref c') H'
theorem ok__law_step {f : Addr} {fd : FuncData}  (F : Fun K "_law_step" "_law_step" s__law_step f fd)  : FnOk P w K mg base CX0 1 f fd ["lines", "spot"] (sp__law_step K) := by
  refine F.ok sc__law_step (fun vs H Q E h => ?_) (fun cdv A outer s H vs Q E hr h => ?_)
  · obtain ⟨L, c, R, as, ls, f, rfl, _⟩ := h
    rfl
  · obtain ⟨L, c, R, as, ls, ⟨n, rs⟩, rfl, ⟨hL, hls⟩, M, ⟨t, hc, ht⟩, ⟨f1, f2, f3⟩, q0, q1⟩ := h
    refine ⟨_, (pss_cons (ps_set (i := 2) sc__law_step.nd rfl (.inl rfl) (pe_ix ix_list (pv 0) (pe_ix ix_tup (pv 1) pe_int (fun _ _ => rfl)) (fun _ _ => rfl)))
      (pss_cons (ps_if (pt_cmpR op_eq (pe_ix ix_tup (pv 2) pe_int (fun _ _ => rfl)) pe_str (nomark _)) (pss_one (ps_ret pe_non)) pss_nil)
      (pss_cons (ps_set (i := 3) sc__law_step.nd rfl (.inl rfl) (pe_ix ix_tup (pv 2) pe_int (fun _ _ => rfl)))
      (pss_cons (ps_set (i := 4) sc__law_step.nd rfl (.inl rfl) pe_int)
      (pss_cons (ps_set (i := 5) sc__law_step.nd rfl (.inl rfl) (pe_ix ix_tup (pv 2) pe_int (fun _ _ => rfl)))
      (pss_cons (ps_if (pt_cmpR op_eq (pe_ix ix_tup (pv 2) pe_int (fun _ _ => rfl)) pe_str (nomark _)) (pss_cons (ps_set (i := 4) sc__law_step.nd rfl (.inl rfl) (pe_un un_neg pe_int))
      (pss_one (ps_if (pt_cmpR op_eq (pe_ix ix_tup (pe_ix ix_tup (pv 1) pe_int (fun _ _ => rfl)) (pv 3) (fun _ _ => rfl)) pe_int (nomark _)) (pss_cons (ps_set (i := 4) sc__law_step.nd rfl (.inl rfl) pe_int)
      (pss_one (ps_set (i := 5) sc__law_step.nd rfl (.inl rfl) (pe_ix ix_tup (pv 2) pe_int (fun _ _ => rfl))))) pss_nil))) pss_nil)
      (pss_one (ps_ret (pe_tup (pa_cons (pv 5) (pa_cons (pe_op op_catA (pe_op op_catA (pe_slice sl_tupA (pe_ix ix_tup (pv 1) pe_int (fun _ _ => rfl)) po_none (po_some (pv 3))) (pe_tup (pa_cons (pe_op op_add (pe_ix ix_tup (pe_ix ix_tup (pv 1) pe_int (fun _ _ => rfl)) (pv 3) (fun _ _ => rfl)) (pv 4)) pa_nil))) (pe_slice sl_tupA (pe_ix ix_tup (pv 1) pe_int (fun _ _ => rfl)) (po_some (pe_op op_add (pv 3) pe_int)) po_none)) pa_nil))))))))))), ?_⟩
    rw [st__law_step]
    have f1 : n < ls.length := f1
    have f2 : rs.length = R := f2
    have f3 : ∀ x ∈ rs, 0 ≤ x := f3
    have hc : H c = some (.tup [.int n, .ref t]) := hc
    have ht : H t = some (.tup (rs.map V.int)) := ht
    have R4 := M.r4
    have hi : ls[n]? = some ls[n] := List.getElem?_eq_getElem f1
    obtain ⟨a, ha, hla⟩ := paired_at hls hi
    have hok := M.ok _ (List.getElem_mem f1)
    unfold stepM at q0 q1
    dsimp only at q0 q1
    rw [hi] at q0 q1
    generalize ls[n] = l at hla hok q0 q1
    walk_at "wk"
    refine ixL_as (.inl (.inl hL)) (atI_nat (by rw [List.getElem?_map, ha]; rfl)) ?_
    walk_at "wk"
    cases l with
    | stop =>
      have hla : H a = some (.tup [.str (Str.ofString "stop")]) := hla
      walk_at "wk"
      refine ⟨rfl, _, rfl, ite2 (fun _ => ?_) (fun e => absurd (by decide +kernel) e)⟩
      walk_at "wk"
      exact q0 rfl H fun _ _ z => z
    | inc r g =>
      have hla : H a = some (.tup [.str (Str.ofString "inc"), .int r, .int g]) := hla
      have hr3 : r < rs.length := by have : r < R := hok.1; omega
      walk_at "wk"
      refine ⟨rfl, _, rfl, ite2 (fun e => absurd e (by decide +kernel)) (fun _ => ?_)⟩
      walk_at "wk"
      refine ⟨rfl, _, rfl, ite2 (fun e => absurd e (by decide +kernel)) (fun _ => ?_)⟩
      walk_at "wk"
      refine slT ht fun H1 t1 s1 h1 => ?_
      rw [cut_take _ _ (by rw [List.length_map]; omega)] at h1
      have hc1 := s1 _ _ hc
      have ht1 := s1 _ _ ht
      walk_at "wk"
      refine ixT_as (sq_of ht1) (atI_nat (ints_at hr3)) ?_
      walk_at "wk"
      intro t2 nt2
      have s2 := same_upd (o := .tup [.int (rs.getD r 0 + 1)]) nt2
      have h2 : (upd H1 t2 (.tup [.int (rs.getD r 0 + 1)])) t2 = some (.tup [.int (rs.getD r 0 + 1)]) := upd_same
      have h12 := s2 _ _ h1
      have s12 := s1.trans s2
      generalize upd H1 t2 (.tup [.int (rs.getD r 0 + 1)]) = H2 at s2 h2 h12 s12 ⊢
      walk_at "wk"
      refine catT h12 h2 (by rw [List.length_take, List.length_map]; exact Nat.le_of_lt (sz_lt (by show _ + 1 ≤ _; omega))) fun H3 u s3 h3 => ?_
      have s13 := s12.trans s3
      have hc3 := s13 _ _ hc
      have ht3 := s13 _ _ ht
      walk_at "wk"
      refine slT ht3 fun H4 v s4 h4 => ?_
      rw [show ((r : Int) + 1) = ((r + 1 : Nat) : Int) by omega, cut_from _ (by rw [List.length_map]; omega)] at h4
      walk_at "wk"
      refine catT (s4 _ _ h3) h4 (by rw [List.length_append, List.length_take, List.length_drop, List.length_map]; exact Nat.le_of_lt (sz_lt (by show _ + 1 + _ ≤ _; omega))) fun H5 w s5 h5 => ?_
      rw [set_cut _ (by rw [List.length_map]; exact hr3), ← List.map_set] at h5
      walk_at "wk"
      intro c' nc'
      have s6 := same_upd (o := .tup [.int g, .ref w]) nc'
      exact q1 _ rfl _ c' (((s13.trans s4).trans s5).trans s6) ⟨w, upd_same, s6 _ _ h5⟩
    | dec r g k =>
      have hla : H a = some (.tup [.str (Str.ofString "dec"), .int r, .int g, .int k]) := hla
      have hr3 : r < rs.length := by have : r < R := hok.1; omega
      dsimp only at q1
      walk_at "wk"
      refine ⟨rfl, _, rfl, ite2 (fun e => absurd e (by decide +kernel)) (fun _ => ?_)⟩
      walk_at "wk"
      refine ⟨rfl, _, rfl, ite2 (fun _ => ?_) (fun e => absurd (by decide +kernel) e)⟩
      walk_at "wk"
      refine ixT_as (sq_of ht) (atI_nat (ints_at hr3)) ?_
      walk_at "wk"
      rw [dvi]
      have nn := getD_nn f3 r
      refine ite2 (fun e => ?_) (fun e => ?_)
      · have e1 : rs.getD r 0 = 0 := of_decide_eq_true e
        rw [if_neg (by omega)] at q1
        walk_at "wk"
        refine slT ht fun H1 t1 s1 h1 => ?_
        rw [cut_take _ _ (by rw [List.length_map]; omega)] at h1
        have hc1 := s1 _ _ hc
        have ht1 := s1 _ _ ht
        walk_at "wk"
        refine ixT_as (sq_of ht1) (atI_nat (ints_at hr3)) ?_
        walk_at "wk"
        intro t2 nt2
        have s2 := same_upd (o := .tup [.int (rs.getD r 0 + 0)]) nt2
        have h2 : (upd H1 t2 (.tup [.int (rs.getD r 0 + 0)])) t2 = some (.tup [.int (rs.getD r 0 + 0)]) := upd_same
        have h12 := s2 _ _ h1
        have s12 := s1.trans s2
        generalize upd H1 t2 (.tup [.int (rs.getD r 0 + 0)]) = H2 at s2 h2 h12 s12 ⊢
        walk_at "wk"
        refine catT h12 h2 (by rw [List.length_take, List.length_map]; exact Nat.le_of_lt (sz_lt (by show _ + 1 ≤ _; omega))) fun H3 u s3 h3 => ?_
        have s13 := s12.trans s3
        have hc3 := s13 _ _ hc
        have ht3 := s13 _ _ ht
        walk_at "wk"
        refine slT ht3 fun H4 v s4 h4 => ?_
        rw [show ((r : Int) + 1) = ((r + 1 : Nat) : Int) by omega, cut_from _ (by rw [List.length_map]; omega)] at h4
        walk_at "wk"
        refine catT (s4 _ _ h3) h4 (by rw [List.length_append, List.length_take, List.length_drop, List.length_map]; exact Nat.le_of_lt (sz_lt (by show _ + 1 + _ ≤ _; omega))) fun H5 w s5 h5 => ?_
        rw [set_cut _ (by rw [List.length_map]; exact hr3), ← List.map_set] at h5
        walk_at "wk"
        intro c' nc'
        have s6 := same_upd (o := .tup [.int k, .ref w]) nc'
        rw [e1, show (0 : Int) + 0 = rs.getD r 0 by omega, show rs.set r (rs.getD r 0) = rs from set_self hr3] at h5
        exact q1 _ rfl _ c' (((s13.trans s4).trans s5).trans s6) ⟨w, upd_same, s6 _ _ h5⟩
      · have e1 : 0 < rs.getD r 0 := by
          have : ¬ rs.getD r 0 = 0 := fun z => e (decide_eq_true z)
          omega
        rw [if_pos e1] at q1
        walk_at "wk"
        refine slT ht fun H1 t1 s1 h1 => ?_
        rw [cut_take _ _ (by rw [List.length_map]; omega)] at h1
        have hc1 := s1 _ _ hc
        have ht1 := s1 _ _ ht
        walk_at "wk"
        refine ixT_as (sq_of ht1) (atI_nat (ints_at hr3)) ?_
        walk_at "wk"
        intro t2 nt2
        have s2 := same_upd (o := .tup [.int (rs.getD r 0 + -1)]) nt2
        have h2 : (upd H1 t2 (.tup [.int (rs.getD r 0 + -1)])) t2 = some (.tup [.int (rs.getD r 0 + -1)]) := upd_same
        have h12 := s2 _ _ h1
        have s12 := s1.trans s2
        generalize upd H1 t2 (.tup [.int (rs.getD r 0 + -1)]) = H2 at s2 h2 h12 s12 ⊢
        walk_at "wk"
        refine catT h12 h2 (by rw [List.length_take, List.length_map]; exact Nat.le_of_lt (sz_lt (by show _ + 1 ≤ _; omega))) fun H3 u s3 h3 => ?_
        have s13 := s12.trans s3
        have hc3 := s13 _ _ hc
        have ht3 := s13 _ _ ht
        walk_at "wk"
        refine slT ht3 fun H4 v s4 h4 => ?_
        rw [show ((r : Int) + 1) = ((r + 1 : Nat) : Int) by omega, cut_from _ (by rw [List.length_map]; omega)] at h4
        walk_at "wk"
        refine catT (s4 _ _ h3) h4 (by rw [List.length_append, List.length_take, List.length_drop, List.length_map]; exact Nat.le_of_lt (sz_lt (by show _ + 1 + _ ≤ _; omega))) fun H5 w s5 h5 => ?_
        rw [set_cut _ (by rw [List.length_map]; exact hr3), ← List.map_set] at h5
        walk_at "wk"
        intro c' nc'
        have s6 := same_upd (o := .tup [.int g, .ref w]) nc'
        exact q1 _ rfl _ c' (((s13.trans s4).trans s5).trans s6) ⟨w, upd_same, s6 _ _ h5⟩

def sp__law_run (K : PySem.W.Frag) : Sp := fun vs H Q _ => ∃ (L t : Addr) (R : Nat) (as : List Addr) (ls : List Ln) (rs : List Int) (most : Nat), vs = [.ref L, .ref t, .int most] ∧ LL H L as ls ∧ MOk R ls ∧ H t = some (.tup (rs.map V.int)) ∧ CfOk R ls (0, rs) ∧ most ≤ 1000 ∧
  ∀ (H' : Hp) (P : Addr) (bs : List Addr), Same H H' → H P = none → H' P = some (.lst (bs.map V.ref)) → CfsAt H' bs (runM ls most (0, rs)) → Q (.ref P) H'
theorem ok__law_run {f : Addr} {fd : FuncData}  (F : Fun K "_law_run" "_law_run" s__law_run f fd) (C__law_step : Cal P w K mg base "_law_step" 1 ["lines", "spot"] (sp__law_step K)) (m_range : mg "range" = none) : FnOk P w K mg base CX0 2 f fd ["lines", "inputs", "most"] (sp__law_run K) := by
  refine F.ok sc__law_run (fun vs H Q E h => ?_) (fun cdv A outer s H vs Q E hr h => ?_)
  · obtain ⟨L, t, R, as, ls, rs, most, rfl, _⟩ := h
    rfl
  · obtain ⟨L, t, R, as, ls, rs, most, rfl, hL, M, ht, h0, hmost, q⟩ := h
    refine ⟨_, (pss_cons (ps_set (i := 3) sc__law_run.nd rfl (.inl rfl) (pe_lst (pa_cons (pe_tup (pa_cons pe_int (pa_cons (pv 1) pa_nil))) pa_nil)))
      (pss_cons (ps_for PassesOwn.never rfl (pi_range1 (by rfl) m_range (pa_cons (pv 2) pa_nil)) (pg_name (i := 4) sc__law_run.nd rfl (.inl rfl)) (pss_cons (ps_set (i := 5) sc__law_run.nd rfl (.inl rfl) (pe_cal C__law_step hr (by rfl) (pa_cons (pv 0) (pa_cons (pe_ix ix_list (pv 3) (pe_un un_neg pe_int) (fun _ _ => rfl)) pa_nil))))
      (pss_cons (ps_if (pt_cmpR op_isN (pv 5) pe_non (nomark _)) (pss_one (ps_ret (pv 3))) pss_nil)
      (pss_one (ps_expr (pe_bm PySem.F.plainAttrs_list PySem.F.slot_list_append PySem.F.type_list_append mt_append (pv 3) (pa_cons (pv 5) pa_nil)))))))
      (pss_one (ps_ret (pv 3))))), ?_⟩
    rw [st__law_run]
    walk_at "wk"
    intro c nc
    have s1 := same_upd (o := .tup [.int 0, .ref t]) nc
    have hc : CfAt (upd H c (.tup [.int 0, .ref t])) c (0, rs) := ⟨t, upd_same, s1 _ _ ht⟩
    generalize upd H c (.tup [.int 0, .ref t]) = H1 at s1 hc ⊢
    walk_at "wk"
    intro P nP
    have s2 := same_upd (o := .lst [.ref c]) nP
    have hP : (upd H1 P (.lst [.ref c])) P = some (.lst (([c] : List Addr).map V.ref)) := upd_same
    have hc2 := hc.keep s2
    have s12 := s1.trans s2
    have nP0 := s1.free nP
    generalize upd H1 P (.lst [.ref c]) = H2 at s2 hP hc2 s12 ⊢
    walk_at "wk"
    rw [Int.toNat_natCast]
    refine for_rng (n := most) (fun i σ' H' => ∃ (c4 c5 : Option V) (bs : List Addr) (pre : List Cfg) (g : Cfg), σ' = [some (.ref L), some (.ref t), some (.int most), some (.ref P), c4, c5] ∧ Same H H' ∧ H' P = some (.lst (bs.map V.ref)) ∧ CfsAt H' bs (pre ++ [g]) ∧ pre.length = i ∧
      CfOk R ls g ∧ pre ++ runM ls (most - i) g = runM ls most (0, rs)) ?_ ?_ ?_
    · exact ⟨none, none, [c], [], (0, rs), rfl, s12, hP, .cons hc2 .nil, rfl, h0, rfl⟩
    · rintro i σ' H3 hi ⟨c4, c5, bs, pre, g, rfl, s3, hP3, hbs, hpl, hg, heq⟩
      have hbl : bs.length = i + 1 := by rw [Paired.length hbs, List.length_append, hpl]; rfl
      have hgl : (pre ++ [g])[i]? = some g := by rw [List.getElem?_append_right (by omega), hpl, Nat.sub_self]; rfl
      obtain ⟨d, hd, hdg⟩ := paired_at hbs hgl
      walk_at "wk"
      refine ixL_as (.inl (.inl hP3)) (show atI _ (-((1 : Nat) : Int)) = _ from atI_neg (by decide) (by rw [List.length_map]; omega) (by rw [List.length_map, List.getElem?_map, show bs.length - 1 = i by omega, hd]; rfl)) ?_
      obtain ⟨k, ek⟩ : ∃ k, most - i = k + 1 := ⟨most - i - 1, by omega⟩
      rw [ek] at heq
      have heq : pre ++ (g :: (match stepM ls g with | none => [] | some g' => runM ls k g')) = runM ls most (0, rs) := heq
      refine ⟨L, d, R, as, ls, g, rfl, hL.keep s3, M, hdg, hg, fun e5 H4 s4 => ?_, fun g' e5 H4 c5 s4 hc5 => ?_⟩
      · rw [e5] at heq
        walk_at "wk"
        refine ⟨rfl, ?_⟩
        rw [show decide (V.non = V.non) = true by simp]
        walk_at "wk"
        exact q _ P bs (s3.trans s4) nP0 (s4 _ _ hP3) (by rw [← heq]; exact hbs.keep s4)
      · rw [e5] at heq
        have hP4 := s4 _ _ hP3
        walk_at "wk"
        refine ⟨rfl, ?_⟩
        rw [show decide (V.ref c5 = V.non) = false by simp]
        walk_at "wk"
        refine app_go hP4 (by rw [List.length_map, hbl]; exact sz_lt (by omega)) ?_
        have hnt := lst_ntup hP4
        refine ⟨_, _, bs ++ [c5], pre ++ [g], g', rfl, Same.new (s3.trans s4) nP0, by rw [upd_same, List.map_append]; rfl, Paired.snoc (Paired.mapP (hbs.keep s4) fun _ _ r => CfAt.off r hnt) (hc5.off hnt), by rw [List.length_append, hpl]; rfl, step_ok M hg e5, ?_⟩
        rw [List.append_assoc, show most - (i + 1) = k by omega]
        exact heq
    · rintro σ' H3 ⟨c4, c5, bs, pre, g, rfl, s3, hP3, hbs, hpl, hg, heq⟩
      walk_at "wk"
      rw [Nat.sub_self] at heq
      exact q _ P bs s3 nP0 hP3 (by rw [← heq]; exact hbs)

def sp_Machine_line (K : PySem.W.Frag) (c_Machine : Addr) : Sp := fun vs H Q _ => ∃ (p : Addr) (R i : Nat) (ls : List Ln) (l : Ln), vs = [.ref p, .int i] ∧ MA c_Machine H p R ls ∧ ls[i]? = some l ∧
  ∀ a, LnAt H a l → Q (.ref a) H
theorem ok_Machine_line {f : Addr} {fd : FuncData} {c_Machine : Addr} (F : Fun K "line" "Machine.line" s_Machine_line f fd) (C_is_natural : Cal P w K mg base "is_natural" 2 ["value"] (sp_is_natural K)) (T_Machine : Tx_Machine K c_Machine) : FnOk P w K mg base CX0 3 f fd ["self", "number"] (sp_Machine_line K c_Machine) := by
  refine F.ok sc_Machine_line (fun vs H Q E h => ?_) (fun cdv A outer s H vs Q E hr h => ?_)
  · obtain ⟨p, R, i, ls, l, rfl, _⟩ := h
    rfl
  · obtain ⟨p, R, i, ls, l, rfl, hM, hi, q⟩ := h
    refine ⟨_, (pss_cons (ps_if (PW.pt (pw_or (pt_not (pt_val (pe_cal C_is_natural hr (by rfl) (pa_cons (pv 1) pa_nil)))) (pw_or1 (pt_cmpR op_ge (pv 1) (pe_fld (pv 0) rfl) (nomark _))))) (pss_one ps_dead) pss_nil)
      (pss_one (ps_ret (pe_ix ix_tup (pe_fld (pv 0) rfl) (pv 1) (fun _ _ => rfl))))), ?_⟩
    rw [st_Machine_line]
    obtain ⟨dx, L, as, hp, hL, hls⟩ := hM
    have hlt : i < ls.length := (List.getElem?_eq_some_iff.mp hi).1
    obtain ⟨a, ha, hla⟩ := paired_at hls hi
    walk_at "wk"
    refine ⟨_, rfl, .inl ⟨_, rfl⟩, ?_⟩
    rw [show isNat (.int i) = true from decide_eq_true (show (0 : Int) ≤ (i : Int) by omega)]
    walk_at "wk"
    refine ⟨p, c_Machine, dx, _, _, rfl, hp, T_Machine.cl, T_Machine.n_size, fM_s _ _ _, ?_⟩
    walk_at "wk"
    refine ite2 (fun e => absurd (of_decide_eq_true e) (by omega)) (fun _ => ?_)
    walk_at "wk"
    refine ⟨p, c_Machine, dx, _, _, rfl, hp, T_Machine.cl, T_Machine.n__lines, fM_l _ _ _, ?_⟩
    walk_at "wk"
    refine ixT_as (sq_of hL) (atI_nat (by rw [List.getElem?_map, ha]; rfl)) (q a hla)

def sp__changed (K : PySem.W.Frag) : Sp := fun vs H Q _ => ∃ (t : Addr) (rs : List Int) (r : Nat) (d : Int), vs = [.ref t, .int r, .int d] ∧ H t = some (.tup (rs.map V.int)) ∧ r < rs.length ∧
  ∀ (H' : Hp) (c : Addr), Same H H' → H' c = some (.tup ((rs.set r (rs.getD r 0 + d)).map V.int)) → Q (.ref c) H'
theorem ok__changed {f : Addr} {fd : FuncData}  (F : Fun K "_changed" "_changed" s__changed f fd) (m_list : mg "list" = none) (m_tuple : mg "tuple" = none) : FnOk P w K mg base CX0 1 f fd ["registers", "place", "difference"] (sp__changed K) := by
  refine F.ok sc__changed (fun vs H Q E h => ?_) (fun cdv A outer s H vs Q E hr h => ?_)
  · obtain ⟨t, rs, r, d, rfl, _⟩ := h
    rfl
  · obtain ⟨t, rs, r, d, rfl, ht, hr', q⟩ := h
    refine ⟨_, (pss_cons (ps_set (i := 3) sc__changed.nd rfl (.inl rfl) (pe_callTy call_list_of (by rfl) m_list (by decide +kernel) (pa_cons (pv 0) pa_nil)))
      (pss_cons (ps_asg (pe_op op_add (pe_ix ix_list (pv 3) (pv 1) (fun _ _ => rfl)) (pv 2)) (pg_sub (pv 3) (pv 1) set_list))
      (pss_one (ps_ret (pe_callTy call_tuple_of (by rfl) m_tuple (by decide +kernel) (pa_cons (pv 3) pa_nil)))))), ?_⟩
    rw [st__changed]
    walk_at "wk"
    refine ⟨t, _, rfl, .inr (sq_of ht), fun P nP => ?_⟩
    have s1 := same_upd (o := .lst (rs.map V.int)) nP
    have hP : (upd H P (.lst (rs.map V.int))) P = some (.lst (rs.map V.int)) := upd_same
    generalize upd H P (.lst (rs.map V.int)) = H1 at s1 hP ⊢
    walk_at "wk"
    refine ixL_as (.inl (.inl hP)) (atI_nat (ints_at hr')) ?_
    walk_at "wk"
    refine ⟨P, _, (r : Int), r, rfl, rfl, hP, ixN_nat (by rw [List.length_map]; exact hr'), ?_⟩
    have e1 : (rs.map V.int).set r (.int (rs.getD r 0 + d)) = (rs.set r (rs.getD r 0 + d)).map V.int := by rw [List.map_set]
    rw [e1]
    have s2 : Same H (upd H1 P (.lst ((rs.set r (rs.getD r 0 + d)).map V.int))) := fun b o e => by
      rw [upd_ne (ne_at e nP)]
      exact s1 _ _ e
    have hP2 : (upd H1 P (.lst ((rs.set r (rs.getD r 0 + d)).map V.int))) P = _ := upd_same
    generalize upd H1 P (.lst ((rs.set r (rs.getD r 0 + d)).map V.int)) = H2 at s2 hP2 ⊢
    walk_at "wk"
    refine ⟨P, _, rfl, .inl ⟨.inl (.inl hP2), fun c nc => ?_⟩⟩
    exact q _ c (s2.trans (same_upd nc)) upd_same

def sp_Machine_step (K : PySem.W.Frag) (c_Machine : Addr) : Sp := fun vs H Q _ => ∃ (p c : Addr) (R : Nat) (ls : List Ln) (f : Cfg), vs = [.ref p, .ref c] ∧ MA c_Machine H p R ls ∧ MOk R ls ∧ CfAt H c f ∧ CfOk R ls f ∧
  (stepM ls f = none → ∀ H', Same H H' → Q .non H') ∧ ∀ g, stepM ls f = some g → ∀ H' c', Same H H' → CfAt H' c' g → Q (.ref c') H'
theorem ok_Machine_step {f : Addr} {fd : FuncData} {c_Machine : Addr} (F : Fun K "step" "Machine.step" s_Machine_step f fd) (C_Machine_line : CalM P w K mg base c_Machine "line" 3 ["self", "number"] (sp_Machine_line K c_Machine)) (C__changed : Cal P w K mg base "_changed" 1 ["registers", "place", "difference"] (sp__changed K)) (m_tuple : mg "tuple" = none) {r_STOP : Addr} (m_STOP : mg "STOP" = some (.ref r_STOP)) (k_STOP : TupK K r_STOP [V.str "stop"]) (T_Machine : Tx_Machine K c_Machine) : FnOk P w K mg base CX0 4 f fd ["self", "configuration"] (sp_Machine_step K c_Machine) := by
  refine F.ok sc_Machine_step (fun vs H Q E h => ?_) (fun cdv A outer s H vs Q E hr h => ?_)
  · obtain ⟨p, c, R, ls, f, rfl, _⟩ := h
    rfl
  · obtain ⟨p, c, R, ls, ⟨n, rs⟩, rfl, hM, M, ⟨t, hc, ht⟩, ⟨f1, f2, f3⟩, q0, q1⟩ := h
    refine ⟨_, (pss_cons (ps_asg (pv 1) (pg_tup (by rfl) (pgs_cons (pg_name (i := 2) sc_Machine_step.nd rfl (.inl rfl)) (pgs_cons (pg_name (i := 3) sc_Machine_step.nd rfl (.inl rfl)) pgs_nil))))
      (pss_cons (ps_set (i := 4) sc_Machine_step.nd rfl (.inl rfl) (pe_mth C_Machine_line T_Machine.cl hr (pv 0) (pa_cons (pv 2) pa_nil)))
      (pss_cons (ps_if (pt_cmpR (op_eqD hr.units) (pv 4) (pe_glob rfl m_STOP (show RelV (.ref r_STOP) _ from rfl)) (nomark _)) (pss_one (ps_ret pe_non)) pss_nil)
      (pss_cons (ps_if (pt_cmpR op_eq (pe_ix ix_tup (pv 4) pe_int (fun _ _ => rfl)) pe_str (nomark _)) (pss_one (ps_ret (pe_tup (pa_cons (pe_ix ix_tup (pv 4) pe_int (fun _ _ => rfl)) (pa_cons (pe_cal C__changed (hr.mono (by decide)) (by rfl) (pa_cons (pv 3) (pa_cons (pe_ix ix_tup (pv 4) pe_int (fun _ _ => rfl)) (pa_cons pe_int pa_nil)))) pa_nil))))) pss_nil)
      (pss_cons (ps_if (pt_cmpR op_gt (pe_ix ix_tup (pv 3) (pe_ix ix_tup (pv 4) pe_int (fun _ _ => rfl)) (fun _ _ => rfl)) pe_int (nomark _)) (pss_one (ps_ret (pe_tup (pa_cons (pe_ix ix_tup (pv 4) pe_int (fun _ _ => rfl)) (pa_cons (pe_cal C__changed (hr.mono (by decide)) (by rfl) (pa_cons (pv 3) (pa_cons (pe_ix ix_tup (pv 4) pe_int (fun _ _ => rfl)) (pa_cons (pe_un un_neg pe_int) pa_nil)))) pa_nil))))) pss_nil)
      (pss_one (ps_ret (pe_tup (pa_cons (pe_ix ix_tup (pv 4) pe_int (fun _ _ => rfl)) (pa_cons (pe_callTy call_tuple_of (by rfl) m_tuple (by decide +kernel) (pa_cons (pv 3) pa_nil)) pa_nil)))))))))), ?_⟩
    rw [st_Machine_step]
    have f1 : n < ls.length := f1
    have f2 : rs.length = R := f2
    have hc : H c = some (.tup [.int n, .ref t]) := hc
    have ht : H t = some (.tup (rs.map V.int)) := ht
    walk_at "wk"
    dsimp only [List.set]
    walk_at "wk"
    have hM' := hM
    obtain ⟨dx, L, as, hp, hL, hls⟩ := hM'
    refine ⟨p, dx, _, rfl, hp, fM_no _ _ _ (by decide +kernel) (by decide +kernel) (by decide +kernel), ?_⟩
    walk_at "wk"
    have hi : ls[n]? = some ls[n] := List.getElem?_eq_getElem f1
    have hok := M.ok _ (List.getElem_mem f1)
    refine ⟨p, R, n, ls, ls[n], rfl, hM, hi, fun a hla => ?_⟩
    unfold stepM at q0 q1
    dsimp only at q0 q1
    rw [hi] at q0 q1
    generalize ls[n] = l at hla hok q0 q1
    walk_at "wk"
    refine ⟨l.dat, Ln.stop.dat, LsAt.dp hla, .tup (k_STOP.sq H) (.cons (.str _) .nil), (lay_ln l).shaped (by decide), (lay_ln .stop).shaped (by decide), ?_⟩
    rw [eqv_stop]
    cases l with
    | stop =>
      rw [show decide (Ln.stop = Ln.stop) = true from rfl]
      walk_at "wk"
      exact q0 rfl H fun _ _ z => z
    | inc r g =>
      rw [show decide (Ln.inc r g = Ln.stop) = false from decide_eq_false (by intro z; cases z)]
      have hla : H a = some (.tup [.str (Str.ofString "inc"), .int r, .int g]) := hla
      walk_at "wk"
      refine ⟨rfl, _, rfl, ite2 (fun _ => ?_) (fun e => absurd (by decide +kernel) e)⟩
      walk_at "wk"
      refine ⟨t, rs, r, 1, rfl, ht, by have : r < R := hok.1; omega, fun H1 t1 s1 ht1 => ?_⟩
      walk_at "wk"
      intro c1 nc1
      have s2 := same_upd (o := .tup [.int g, .ref t1]) nc1
      exact q1 _ rfl _ c1 (s1.trans s2) ⟨t1, upd_same, s2 _ _ ht1⟩
    | dec r g k =>
      rw [show decide (Ln.dec r g k = Ln.stop) = false from decide_eq_false (by intro z; cases z)]
      have hla : H a = some (.tup [.str (Str.ofString "dec"), .int r, .int g, .int k]) := hla
      have hr3 : r < rs.length := by have : r < R := hok.1; omega
      walk_at "wk"
      refine ⟨rfl, _, rfl, ite2 (fun e => absurd e (by decide +kernel)) (fun _ => ?_)⟩
      walk_at "wk"
      refine ixT_as (sq_of ht) (atI_nat (ints_at hr3)) ?_
      walk_at "wk"
      dsimp only at q1
      refine ite2 (fun e => ?_) (fun e => ?_)
      · have e1 : 0 < rs.getD r 0 := of_decide_eq_true e
        rw [if_pos e1] at q1
        walk_at "wk"
        refine ⟨t, rs, r, -1, rfl, ht, hr3, fun H1 t1 s1 ht1 => ?_⟩
        walk_at "wk"
        intro c1 nc1
        have s2 := same_upd (o := .tup [.int g, .ref t1]) nc1
        exact q1 _ rfl _ c1 (s1.trans s2) ⟨t1, upd_same, s2 _ _ ht1⟩
      · have e1 : ¬ 0 < rs.getD r 0 := fun z => e (decide_eq_true z)
        rw [if_neg e1] at q1
        walk_at "wk"
        refine ⟨t, _, rfl, .inr ⟨sq_of ht, ?_⟩⟩
        walk_at "wk"
        intro c1 nc1
        have s2 := same_upd (o := .tup [.int k, .ref t]) nc1
        exact q1 _ rfl _ c1 s2 ⟨t, upd_same, s2 _ _ ht⟩

def sp_Machine_run (K : PySem.W.Frag) (c_Machine : Addr) : Sp := fun vs H Q _ => ∃ (p t : Addr) (R : Nat) (ls : List Ln) (rs : List Int) (most : Nat), vs = [.ref p, .ref t, .int most] ∧ MA c_Machine H p R ls ∧ MOk R ls ∧ H t = some (.tup (rs.map V.int)) ∧ CfOk R ls (0, rs) ∧ most ≤ 1000 ∧
  ∀ (H' : Hp) (P : Addr) (as : List Addr), Same H H' → H P = none → H' P = some (.lst (as.map V.ref)) → CfsAt H' as (runM ls most (0, rs)) → Q (.ref P) H'
theorem ok_Machine_run {f : Addr} {fd : FuncData} {c_Machine : Addr} (F : Fun K "run" "Machine.run" s_Machine_run f fd) (C_Machine_step : CalM P w K mg base c_Machine "step" 4 ["self", "configuration"] (sp_Machine_step K c_Machine)) (m_tuple : mg "tuple" = none) (m_len : mg "len" = none) (T_Machine : Tx_Machine K c_Machine) : FnOk P w K mg base CX0 5 f fd ["self", "inputs", "most"] (sp_Machine_run K c_Machine) := by
  refine F.ok sc_Machine_run (fun vs H Q E h => ?_) (fun cdv A outer s H vs Q E hr h => ?_)
  · obtain ⟨p, t, R, ls, rs, most, rfl, _⟩ := h
    rfl
  · obtain ⟨p, t, R, ls, rs, most, rfl, hM, M, ht, h0, hmost, q⟩ := h
    refine ⟨_, (pss_cons (ps_set (i := 3) sc_Machine_run.nd rfl (.inl rfl) (pe_lst pa_nil))
      (pss_cons (ps_set (i := 4) sc_Machine_run.nd rfl (.inl rfl) (pe_tup (pa_cons pe_int (pa_cons (pe_callTy call_tuple_of (by rfl) m_tuple (by decide +kernel) (pa_cons (pv 1) pa_nil)) pa_nil))))
      (pss_cons (ps_while PassesOwn.never (PW.pt (pw_and (pt_cmpR op_notN (pv 4) pe_non (nomark _)) (pw_and1 (pt_cmpR op_le (pe_callB call_len_seq (by rfl) m_len (by decide +kernel) (pa_cons (pv 3) pa_nil)) (pv 2) (nomark _))))) (pss_cons (ps_expr (pe_bm PySem.F.plainAttrs_list PySem.F.slot_list_append PySem.F.type_list_append mt_append (pv 3) (pa_cons (pv 4) pa_nil)))
      (pss_one (ps_set (i := 4) sc_Machine_run.nd rfl (.inl rfl) (pe_mth C_Machine_step T_Machine.cl hr (pv 0) (pa_cons (pv 4) pa_nil))))))
      (pss_one (ps_ret (pv 3)))))), ?_⟩
    rw [st_Machine_run]
    walk_at "wk"
    intro P nP
    have s1 := same_upd (o := .lst []) nP
    have hP : (upd H P (.lst [])) P = some (.lst (([] : List Addr).map V.ref)) := upd_same
    have ht1 := s1 _ _ ht
    generalize upd H P (.lst []) = H1 at s1 hP ht1 ⊢
    walk_at "wk"
    refine ⟨t, _, rfl, .inr ⟨sq_of ht1, ?_⟩⟩
    walk_at "wk"
    intro c nc
    have s2 := same_upd (o := .tup [.int 0, .ref t]) nc
    have hc : CfAt (upd H1 c (.tup [.int 0, .ref t])) c (0, rs) := ⟨t, upd_same, s2 _ _ ht1⟩
    have hP2 := s2 _ _ hP
    have s12 := s1.trans s2
    generalize upd H1 c (.tup [.int 0, .ref t]) = H2 at hc hP2 s12 ⊢
    walk_at "wk"
    refine ⟨fun m σ' H' => ∃ (as : List Addr) (fs : List Cfg) (hv : V) (ho : Option Cfg), σ' = [some (.ref p), some (.ref t), some (.int most), some (.ref P), some hv] ∧ H' P = some (.lst (as.map V.ref)) ∧ CfsAt H' as fs ∧ HereAt R ls H' hv ho ∧ Same H H' ∧
      fs ++ restM ls most fs.length ho = runM ls most (0, rs) ∧ fs.length ≤ most + 1 ∧ m = most + 1 - fs.length, ⟨most + 1, [], [], .ref c, some (0, rs), rfl, hP2, .nil, ⟨c, rfl, hc, h0⟩, s12, ?_, by simp, by simp⟩, ?_⟩
    · show restM ls most 0 (some (0, rs)) = _
      rw [restM_le ls (Nat.zero_le _), Nat.sub_zero]
    · rintro m σ' H3 ⟨as, fs, hv, ho, rfl, hP3, hfs, hh, s3, heq, hl, rfl⟩
      have hal : as.length = fs.length := Paired.length hfs
      cases ho with
      | none =>
        obtain rfl : hv = .non := hh
        walk_at "wk"
        refine ⟨rfl, ?_⟩
        rw [show (!decide (V.non = V.non)) = false by simp]
        walk_at "wk"
        rw [show restM ls most fs.length none = [] from rfl, List.append_nil] at heq
        exact q _ P as s3 nP hP3 (by rw [← heq]; exact hfs)
      | some g =>
        obtain ⟨d, rfl, hd, hg⟩ := hh
        walk_at "wk"
        refine ⟨rfl, ?_⟩
        rw [show (!decide (V.ref d = V.non)) = true by simp]
        walk_at "wk"
        refine ⟨P, _, rfl, .inl (.inl (.inl hP3)), ?_⟩
        rw [List.length_map, hal]
        walk_at "wk"
        refine ite2 (fun e => ?_) (fun e => ?_)
        · have le : fs.length ≤ most := by
            have := of_decide_eq_true e
            omega
          rw [rest_step ls le] at heq
          refine ⟨_, fun σ' H' z => z, ?_⟩
          walk_at "wk"
          refine app_go hP3 (by rw [List.length_map, hal]; exact sz_lt (by omega)) ?_
          have hnt := lst_ntup hP3
          have hP4 : (upd H3 P (.lst (as.map V.ref ++ [V.ref d]))) P = some (.lst ((as ++ [d]).map V.ref)) := by rw [upd_same, List.map_append]; rfl
          have hd4 : CfAt (upd H3 P (.lst (as.map V.ref ++ [V.ref d]))) d g := hd.off hnt
          have hf4 : CfsAt (upd H3 P (.lst (as.map V.ref ++ [V.ref d]))) (as ++ [d]) (fs ++ [g]) := Paired.snoc (Paired.mapP hfs fun _ _ r => CfAt.off r hnt) hd4
          have s4 : Same H (upd H3 P (.lst (as.map V.ref ++ [V.ref d]))) := Same.new s3 nP
          generalize upd H3 P (.lst (as.map V.ref ++ [V.ref d])) = H4 at hP4 hd4 hf4 s4 ⊢
          walk_at "wk"
          have hM4 := hM.keep s4
          obtain ⟨dx, L, ml, hp, _, _⟩ := id hM4
          refine ⟨p, dx, _, rfl, hp, fM_no _ _ _ (by decide +kernel) (by decide +kernel) (by decide +kernel), ?_⟩
          walk_at "wk"
          have fin : ∀ (hv : V) (ho : Option Cfg) (H5 : Hp), Same H4 H5 → HereAt R ls H5 hv ho → stepM ls g = ho → ∃ m', m' < most + 1 - fs.length ∧ ∃ (as' : List Addr) (fs' : List Cfg) (hv' : V) (ho' : Option Cfg), [some (V.ref p), some (.ref t), some (.int most), some (.ref P), some hv] = [some (.ref p), some (.ref t), some (.int most), some (.ref P), some hv'] ∧
              H5 P = some (.lst (as'.map V.ref)) ∧ CfsAt H5 as' fs' ∧ HereAt R ls H5 hv' ho' ∧ Same H H5 ∧ fs' ++ restM ls most fs'.length ho' = runM ls most (0, rs) ∧ fs'.length ≤ most + 1 ∧ m' = most + 1 - fs'.length := by
            intro hv ho H5 s5 hh5 e5
            refine ⟨most + 1 - (fs.length + 1), by omega, as ++ [d], fs ++ [g], hv, ho, rfl, s5 _ _ hP4, hf4.keep s5, hh5, s4.trans s5, ?_, by rw [List.length_append]; show fs.length + 1 ≤ _; omega, by rw [List.length_append]; rfl⟩
            rw [List.length_append, List.append_assoc, ← e5]
            exact heq
          refine ⟨p, d, R, ls, g, rfl, hM4, M, hd4, hg, fun e5 H5 s5 => ?_, fun g' e5 H5 c5 s5 hc5 => ?_⟩
          · exact fin .non none H5 s5 rfl e5
          · exact fin (.ref c5) (some g') H5 s5 ⟨c5, rfl, hc5, step_ok M hg e5⟩ e5
        · walk_at "wk"
          have nle : ¬ fs.length ≤ most := fun z => e (decide_eq_true (by omega))
          rw [restM_gt ls nle, List.append_nil] at heq
          exact q _ P as s3 nP hP3 (by rw [← heq]; exact hfs)

def sp__law_nearly (K : PySem.W.Frag) : Sp := fun vs H Q _ => ∃ (P : Addr) (bs : List Addr) (fs : List Cfg) (m : Nat), vs = [.ref P, .int m] ∧ H P = some (.lst (bs.map V.ref)) ∧ CfsAt H bs fs ∧ 1 ≤ fs.length ∧ fs.length ≤ 1000 ∧ (∀ f ∈ fs, 1 ≤ f.2.length ∧ f.2.length ≤ 900) ∧
  ∀ (H' : Hp) (P' : Addr) (as : List Addr) (its : List Itm), Same H H' → H' P' = some (.lst (as.map V.ref)) → ItsAt H' as its → its.length ≤ 1000 → (∀ it ∈ its, it.rs.length ≤ 1000) → Q (.ref P') H'
theorem ok__law_nearly {f : Addr} {fd : FuncData}  (F : Fun K "_law_nearly" "_law_nearly" s__law_nearly f fd) (m_len : mg "len" = none) (m_list : mg "list" = none) : FnOk P w K mg base CX0 1 f fd ["run", "number"] (sp__law_nearly K) := by
  refine F.ok sc__law_nearly (fun vs H Q E h => ?_) (fun cdv A outer s H vs Q E hr h => ?_)
  · obtain ⟨P, bs, fs, m, rfl, _⟩ := h
    rfl
  · obtain ⟨P, bs, fs, m, rfl, hP, hfs, l1, l2, hrl, q⟩ := h
    refine ⟨_, (pss_cons (ps_if (PW.pt (pw_or (pt_cmpR op_eq (pe_op op_mod (pv 1) pe_int) pe_int (nomark _)) (pw_or1 (pt_cmpR op_eq (pe_callB call_len_seq (by rfl) m_len (by decide +kernel) (pa_cons (pv 0) pa_nil)) pe_int (nomark _))))) (pss_one (ps_ret (pe_lst pa_nil))) pss_nil)
      (pss_cons (ps_set (i := 2) sc__law_nearly.nd rfl (.inl rfl) (pe_op op_mod (pe_op op_fdivW (pv 1) pe_int) (pe_callB call_len_seq (by rfl) m_len (by decide +kernel) (pa_cons (pv 0) pa_nil))))
      (pss_cons (ps_set (i := 3) sc__law_nearly.nd rfl (.inl rfl) (pe_ix ix_list (pv 0) (pv 2) (fun _ _ => rfl)))
      (pss_cons (ps_set (i := 4) sc__law_nearly.nd rfl (.inl rfl) (pe_tup (pa_cons (pe_tup (pa_cons (pe_op op_add (pe_ix ix_tup (pv 3) pe_int (fun _ _ => rfl)) pe_int) (pa_cons (pe_ix ix_tup (pv 3) pe_int (fun _ _ => rfl)) pa_nil))) (pa_cons (pe_tup (pa_cons (pe_ix ix_tup (pv 3) pe_int (fun _ _ => rfl)) (pa_cons (pe_op op_catA (pe_tup (pa_cons (pe_op op_add (pe_ix ix_tup (pe_ix ix_tup (pv 3) pe_int (fun _ _ => rfl)) pe_int (fun _ _ => rfl)) pe_int) pa_nil)) (pe_slice sl_tupA (pe_ix ix_tup (pv 3) pe_int (fun _ _ => rfl)) (po_some pe_int) po_none)) pa_nil))) (pa_cons (pe_tup (pa_cons (pe_ix ix_tup (pv 3) pe_int (fun _ _ => rfl)) (pa_cons (pe_op op_catA (pe_ix ix_tup (pv 3) pe_int (fun _ _ => rfl)) (pe_tup (pa_cons pe_int pa_nil))) pa_nil))) (pa_cons (pe_tup (pa_cons (pe_ix ix_tup (pv 3) pe_int (fun _ _ => rfl)) (pa_cons (pe_callTy call_list_of (by rfl) m_list (by decide +kernel) (pa_cons (pe_ix ix_tup (pv 3) pe_int (fun _ _ => rfl)) pa_nil)) pa_nil))) (pa_cons (pe_callTy call_list_of (by rfl) m_list (by decide +kernel) (pa_cons (pv 3) pa_nil)) (pa_cons (pe_tup (pa_cons pe_bl (pa_cons (pe_ix ix_tup (pv 3) pe_int (fun _ _ => rfl)) pa_nil))) (pa_cons (pe_tup (pa_cons (pe_ix ix_tup (pv 3) pe_int (fun _ _ => rfl)) (pa_cons (pe_op op_catA (pe_tup (pa_cons (pe_un un_neg pe_int) pa_nil)) (pe_slice sl_tupA (pe_ix ix_tup (pv 3) pe_int (fun _ _ => rfl)) (po_some pe_int) po_none)) pa_nil))) pa_nil)))))))))
      (pss_one (ps_ret (pe_op op_cat (pe_op op_cat (pe_slice sl_list (pv 0) po_none (po_some (pv 2))) (pe_lst (pa_cons (pe_ix ix_tup (pv 4) (pe_op op_sub (pe_op op_mod (pv 1) pe_int) pe_int) (fun _ _ => rfl)) pa_nil))) (pe_slice sl_list (pv 0) (po_some (pe_op op_add (pv 2) pe_int)) po_none)))))))), ?_⟩
    rw [st__law_nearly]
    have hbl : bs.length = fs.length := Paired.length hfs
    have empty : ∀ D, H D = none → Q (.ref D) (upd H D (.lst [])) := fun D nD => q _ D [] [] (same_upd nD) upd_same .nil (Nat.zero_le _) fun it h => (List.not_mem_nil h).elim
    walk_at "wk"
    rw [dvi]
    refine ite2 (fun e => ?_) (fun e => ?_)
    · walk_at "wk"
      exact empty
    have m8 : ¬ m % 8 = 0 := fun z => e (decide_eq_true (by omega))
    walk_at "wk"
    refine ⟨P, _, rfl, .inl (.inl (.inl hP)), ?_⟩
    rw [List.length_map, hbl]
    walk_at "wk"
    rw [dvi]
    refine ite2 (fun e => absurd (of_decide_eq_true e) (by omega)) (fun _ => ?_)
    walk_at "wk"
    refine ⟨P, _, rfl, .inl (.inl (.inl hP)), ?_⟩
    rw [List.length_map, hbl]
    have fpos : (0 : Int) < (fs.length : Int) := by omega
    walk_at "wk"
    obtain ⟨at', eat⟩ : ∃ at' : Nat, at' = m / 8 % fs.length := ⟨_, rfl⟩
    have hat : at' < fs.length := by rw [eat]; exact Nat.mod_lt _ (by omega)
    rw [show (m : Int) / 8 % (fs.length : Int) = (at' : Int) by rw [eat]; push_cast; rfl]
    have hf : fs[at']? = some fs[at'] := List.getElem?_eq_getElem hat
    obtain ⟨c, hcb, t, hc, ht⟩ := paired_at hfs hf
    obtain ⟨r1, r9⟩ := hrl _ (List.getElem_mem hat)
    generalize fs[at'] = f at hc ht r1 r9
    obtain ⟨n, rs⟩ := f
    have hc : H c = some (.tup [.int n, .ref t]) := hc
    have ht : H t = some (.tup (rs.map V.int)) := ht
    have r1 : 1 ≤ rs.length := r1
    have r9 : rs.length ≤ 900 := r9
    refine ixL_as (.inl (.inl hP)) (atI_nat (by rw [List.getElem?_map, hcb]; rfl)) ?_
    walk_at "wk"
    intro a1 n1
    have s1 := same_upd (o := .tup [.int ((n : Int) + 1), .ref t]) n1
    have i1 : ItAt (upd H a1 (.tup [.int ((n : Int) + 1), .ref t])) a1 ⟨true, .int ((n : Int) + 1), true, rs⟩ := ⟨t, upd_same, s1 _ _ ht, .inl ⟨_, rfl⟩⟩
    generalize upd H a1 (.tup [.int ((n : Int) + 1), .ref t]) = H1 at s1 i1 ⊢
    have hc1 := s1 _ _ hc
    have ht1 := s1 _ _ ht
    walk_at "wk"
    refine ixT_as (sq_of ht1) (show atI _ ((0 : Nat) : Int) = _ from atI_nat (ints_at (by omega))) ?_
    walk_at "wk"
    intro b2 n2
    have s2 := s1.trans (same_upd (o := .tup [.int (rs.getD 0 0 + 1)]) n2)
    have i1 := i1.keep (same_upd (o := .tup [.int (rs.getD 0 0 + 1)]) n2)
    have hb2 : (upd H1 b2 (.tup [.int (rs.getD 0 0 + 1)])) b2 = some (.tup [.int (rs.getD 0 0 + 1)]) := upd_same
    generalize upd H1 b2 (.tup [.int (rs.getD 0 0 + 1)]) = H2 at s2 i1 hb2 ⊢
    have hc2 := s2 _ _ hc
    have ht2 := s2 _ _ ht
    walk_at "wk"
    refine slT ht2 fun H3 u3 y3 hu3 => ?_
    rw [cut_drop] at hu3
    have s3 := s2.trans y3
    have i1 := i1.keep (y3)
    refine catT (y3 _ _ hb2) hu3 (by rw [List.length_drop, List.length_map]; exact Nat.le_of_lt (sz_lt (by show 1 + _ ≤ _; omega))) fun H4 w4 y4 hw4 => ?_
    have s4 := s3.trans y4
    have i1 := i1.keep (y4)
    have hw4 : H4 w4 = some (.tup (((rs.getD 0 0 + 1) :: rs.drop 1).map V.int)) := by rw [hw4, ← List.map_drop]; rfl
    walk_at "wk"
    intro a2 n2'
    have y5 := same_upd (o := .tup [.int n, .ref w4]) n2'
    have i2 : ItAt (upd H4 a2 (.tup [.int n, .ref w4])) a2 ⟨true, .int n, true, ((rs.getD 0 0 + 1) :: rs.drop 1)⟩ := ⟨w4, upd_same, y5 _ _ hw4, .inl ⟨_, rfl⟩⟩
    have s5 := s4.trans y5
    have i1 := i1.keep (y5)
    generalize upd H4 a2 (.tup [.int n, .ref w4]) = H5 at y5 s5 i2 i1 ⊢
    have hc5 := s5 _ _ hc
    have ht5 := s5 _ _ ht
    walk_at "wk"
    intro b6 m6
    have y6 := same_upd (o := .tup [.int 0]) m6
    have hb6 : (upd H5 b6 (.tup [.int 0])) b6 = some (.tup [.int 0]) := upd_same
    have s6 := s5.trans y6
    have i1 := i1.keep (y6)
    have i2 := i2.keep (y6)
    generalize upd H5 b6 (.tup [.int 0]) = H6 at y6 s6 hb6 i1 i2 ⊢
    have hc6 := s6 _ _ hc
    have ht6 := s6 _ _ ht
    walk_at "wk"
    refine catT ht6 hb6 (by rw [List.length_map]; exact Nat.le_of_lt (sz_lt (by show _ + 1 ≤ _; omega))) fun H7 w7 y7 hw7 => ?_
    have s7 := s6.trans y7
    have i1 := i1.keep (y7)
    have i2 := i2.keep (y7)
    have hw7 : H7 w7 = some (.tup ((rs ++ [0]).map V.int)) := by rw [hw7, List.map_append]; rfl
    walk_at "wk"
    intro a3 n3'
    have y8 := same_upd (o := .tup [.int n, .ref w7]) n3'
    have i3 : ItAt (upd H7 a3 (.tup [.int n, .ref w7])) a3 ⟨true, .int n, true, (rs ++ [0])⟩ := ⟨w7, upd_same, y8 _ _ hw7, .inl ⟨_, rfl⟩⟩
    have s8 := s7.trans y8
    have i1 := i1.keep (y8)
    have i2 := i2.keep (y8)
    generalize upd H7 a3 (.tup [.int n, .ref w7]) = H8 at y8 s8 i3 i1 i2 ⊢
    have hc8 := s8 _ _ hc
    have ht8 := s8 _ _ ht
    walk_at "wk"
    refine ⟨t, _, rfl, .inr (sq_of ht8), fun u9 m9 => ?_⟩
    have y9 := same_upd (o := .lst (rs.map V.int)) m9
    have hu9 : (upd H8 u9 (.lst (rs.map V.int))) u9 = some (.lst (rs.map V.int)) := upd_same
    have s9 := s8.trans y9
    have i1 := i1.keep (y9)
    have i2 := i2.keep (y9)
    have i3 := i3.keep (y9)
    generalize upd H8 u9 (.lst (rs.map V.int)) = H9 at y9 s9 hu9 i1 i2 i3 ⊢
    have hc9 := s9 _ _ hc
    have ht9 := s9 _ _ ht
    walk_at "wk"
    intro a4 n4'
    have y10 := same_upd (o := .tup [.int n, .ref u9]) n4'
    have i4 : ItAt (upd H9 a4 (.tup [.int n, .ref u9])) a4 ⟨true, .int n, false, rs⟩ := ⟨u9, upd_same, y10 _ _ hu9, .inl ⟨_, rfl⟩⟩
    have s10 := s9.trans y10
    have i1 := i1.keep (y10)
    have i2 := i2.keep (y10)
    have i3 := i3.keep (y10)
    generalize upd H9 a4 (.tup [.int n, .ref u9]) = H10 at y10 s10 i4 i1 i2 i3 ⊢
    have hc10 := s10 _ _ hc
    have ht10 := s10 _ _ ht
    walk_at "wk"
    refine ⟨c, _, rfl, .inr (sq_of hc10), ?_⟩
    intro a5 n5'
    have y11 := same_upd (o := .lst [.int n, .ref t]) n5'
    have i5 : ItAt (upd H10 a5 (.lst [.int n, .ref t])) a5 ⟨false, .int n, true, rs⟩ := ⟨t, upd_same, y11 _ _ ht10, .inl ⟨_, rfl⟩⟩
    have s11 := s10.trans y11
    have i1 := i1.keep (y11)
    have i2 := i2.keep (y11)
    have i3 := i3.keep (y11)
    have i4 := i4.keep (y11)
    generalize upd H10 a5 (.lst [.int n, .ref t]) = H11 at y11 s11 i5 i1 i2 i3 i4 ⊢
    have hc11 := s11 _ _ hc
    have ht11 := s11 _ _ ht
    walk_at "wk"
    intro a6 n6'
    have y12 := same_upd (o := .tup [.bl true, .ref t]) n6'
    have i6 : ItAt (upd H11 a6 (.tup [.bl true, .ref t])) a6 ⟨true, .bl true, true, rs⟩ := ⟨t, upd_same, y12 _ _ ht11, .inr ⟨_, rfl⟩⟩
    have s12 := s11.trans y12
    have i1 := i1.keep (y12)
    have i2 := i2.keep (y12)
    have i3 := i3.keep (y12)
    have i4 := i4.keep (y12)
    have i5 := i5.keep (y12)
    generalize upd H11 a6 (.tup [.bl true, .ref t]) = H12 at y12 s12 i6 i1 i2 i3 i4 i5 ⊢
    have hc12 := s12 _ _ hc
    have ht12 := s12 _ _ ht
    walk_at "wk"
    intro b13 m13
    have y13 := same_upd (o := .tup [.int (-1)]) m13
    have hb13 : (upd H12 b13 (.tup [.int (-1)])) b13 = some (.tup [.int (-1)]) := upd_same
    have s13 := s12.trans y13
    have i1 := i1.keep (y13)
    have i2 := i2.keep (y13)
    have i3 := i3.keep (y13)
    have i4 := i4.keep (y13)
    have i5 := i5.keep (y13)
    have i6 := i6.keep (y13)
    generalize upd H12 b13 (.tup [.int (-1)]) = H13 at y13 s13 hb13 i1 i2 i3 i4 i5 i6 ⊢
    have hc13 := s13 _ _ hc
    have ht13 := s13 _ _ ht
    walk_at "wk"
    refine slT ht13 fun H14 u14 y14 hu14 => ?_
    rw [cut_drop] at hu14
    have s14 := s13.trans y14
    have i1 := i1.keep (y14)
    have i2 := i2.keep (y14)
    have i3 := i3.keep (y14)
    have i4 := i4.keep (y14)
    have i5 := i5.keep (y14)
    have i6 := i6.keep (y14)
    refine catT (y14 _ _ hb13) hu14 (by rw [List.length_drop, List.length_map]; exact Nat.le_of_lt (sz_lt (by show 1 + _ ≤ _; omega))) fun H15 w15 y15 hw15 => ?_
    have s15 := s14.trans y15
    have i1 := i1.keep (y15)
    have i2 := i2.keep (y15)
    have i3 := i3.keep (y15)
    have i4 := i4.keep (y15)
    have i5 := i5.keep (y15)
    have i6 := i6.keep (y15)
    have hw15 : H15 w15 = some (.tup (((-1) :: rs.drop 1).map V.int)) := by rw [hw15, ← List.map_drop]; rfl
    walk_at "wk"
    intro a7 n7'
    have y16 := same_upd (o := .tup [.int n, .ref w15]) n7'
    have i7 : ItAt (upd H15 a7 (.tup [.int n, .ref w15])) a7 ⟨true, .int n, true, ((-1) :: rs.drop 1)⟩ := ⟨w15, upd_same, y16 _ _ hw15, .inl ⟨_, rfl⟩⟩
    have s16 := s15.trans y16
    have i1 := i1.keep (y16)
    have i2 := i2.keep (y16)
    have i3 := i3.keep (y16)
    have i4 := i4.keep (y16)
    have i5 := i5.keep (y16)
    have i6 := i6.keep (y16)
    generalize upd H15 a7 (.tup [.int n, .ref w15]) = H16 at y16 s16 i7 i1 i2 i3 i4 i5 i6 ⊢
    have hc16 := s16 _ _ hc
    have ht16 := s16 _ _ ht
    walk_at "wk"
    intro X nX
    have y17 := same_upd (o := .tup [V.ref a1, V.ref a2, V.ref a3, V.ref a4, V.ref a5, V.ref a6, V.ref a7]) nX
    have hX : (upd H16 X (.tup [V.ref a1, V.ref a2, V.ref a3, V.ref a4, V.ref a5, V.ref a6, V.ref a7])) X = some (.tup ([a1, a2, a3, a4, a5, a6, a7].map V.ref)) := upd_same
    have s17 := s16.trans y17
    obtain ⟨j, ej⟩ : ∃ j : Nat, m % 8 = j + 1 := ⟨m % 8 - 1, by omega⟩
    have hj : j < 7 := by omega
    have dl : (rs.drop 1).length + 1 ≤ 1000 := by rw [List.length_drop]; omega
    obtain ⟨a, it, haj, hit, hitl⟩ : ∃ (a : Addr) (it : Itm), [a1, a2, a3, a4, a5, a6, a7][j]? = some a ∧ ItAt H16 a it ∧ it.rs.length ≤ 1000 := by
      have : j = 0 ∨ j = 1 ∨ j = 2 ∨ j = 3 ∨ j = 4 ∨ j = 5 ∨ j = 6 := by omega
      rcases this with rfl | rfl | rfl | rfl | rfl | rfl | rfl
      · exact ⟨a1, _, rfl, i1, by show rs.length ≤ 1000; omega⟩
      · exact ⟨a2, _, rfl, i2, dl⟩
      · exact ⟨a3, _, rfl, i3, by show (rs ++ [0]).length ≤ 1000; rw [List.length_append]; show rs.length + 1 ≤ _; omega⟩
      · exact ⟨a4, _, rfl, i4, by show rs.length ≤ 1000; omega⟩
      · exact ⟨a5, _, rfl, i5, by show rs.length ≤ 1000; omega⟩
      · exact ⟨a6, _, rfl, i6, by show rs.length ≤ 1000; omega⟩
      · exact ⟨a7, _, rfl, i7, dl⟩
    have hit := hit.keep y17
    clear i1 i2 i3 i4 i5 i6 i7
    generalize upd H16 X (.tup [V.ref a1, V.ref a2, V.ref a3, V.ref a4, V.ref a5, V.ref a6, V.ref a7]) = H17 at y17 s17 hX hit ⊢
    have hP17 := s17 _ _ hP
    walk_at "wk"
    refine ⟨P, _, rfl, .inl (.inl hP17), fun p1 np1 => ?_⟩
    rw [cut_take _ _ (by rw [List.length_map]; omega), ← List.map_take]
    have z1 := same_upd (o := .lst ((bs.take at').map V.ref)) np1
    have hp1 : (upd H17 p1 (.lst ((bs.take at').map V.ref))) p1 = some (.lst ((bs.take at').map V.ref)) := upd_same
    have s18 := s17.trans z1
    have hX := z1 _ _ hX
    have hit := hit.keep z1
    generalize upd H17 p1 (.lst ((bs.take at').map V.ref)) = H18 at s18 hp1 hX hit ⊢
    walk_at "wk"
    rw [show (m : Int) % 8 - 1 = ((j : Nat) : Int) by omega]
    refine ixT_as (sq_of hX) (atI_nat (by rw [List.getElem?_map, haj]; rfl)) ?_
    walk_at "wk"
    intro p2 np2
    have z2 := same_upd (o := .lst [V.ref a]) np2
    have hp2 : (upd H18 p2 (.lst [V.ref a])) p2 = some (.lst (([a] : List Addr).map V.ref)) := upd_same
    have s19 := s18.trans z2
    have hp1 := z2 _ _ hp1
    have hit := hit.keep z2
    generalize upd H18 p2 (.lst [V.ref a]) = H19 at s19 hp1 hp2 hit ⊢
    walk_at "wk"
    refine ⟨p1, p2, (bs.take at').map V.ref, ([a] : List Addr).map V.ref, rfl, rfl, hp1, hp2, by rw [List.length_map, List.length_map, List.length_take]; exact Nat.le_of_lt (sz_lt (by show _ + 1 ≤ _; omega)), fun p3 np3 => ?_⟩
    rw [← List.map_append]
    have z3 := same_upd (o := .lst ((bs.take at' ++ [a]).map V.ref)) np3
    have hp3 : (upd H19 p3 (.lst ((bs.take at' ++ [a]).map V.ref))) p3 = some (.lst ((bs.take at' ++ [a]).map V.ref)) := upd_same
    have s20 := s19.trans z3
    have hit := hit.keep z3
    generalize upd H19 p3 (.lst ((bs.take at' ++ [a]).map V.ref)) = H20 at s20 hp3 hit ⊢
    have hP20 := s20 _ _ hP
    walk_at "wk"
    refine ⟨P, _, rfl, .inl (.inl hP20), fun p4 np4 => ?_⟩
    rw [show ((at' : Int) + 1) = ((at' + 1 : Nat) : Int) by omega, cut_from _ (by rw [List.length_map]; omega), ← List.map_drop]
    have z4 := same_upd (o := .lst ((bs.drop (at' + 1)).map V.ref)) np4
    have hp4 : (upd H20 p4 (.lst ((bs.drop (at' + 1)).map V.ref))) p4 = some (.lst ((bs.drop (at' + 1)).map V.ref)) := upd_same
    have s21 := s20.trans z4
    have hp3 := z4 _ _ hp3
    have hit := hit.keep z4
    generalize upd H20 p4 (.lst ((bs.drop (at' + 1)).map V.ref)) = H21 at s21 hp3 hp4 hit ⊢
    walk_at "wk"
    have lens : (bs.take at' ++ [a]).length + (bs.drop (at' + 1)).length ≤ 1000 := by
      rw [List.length_append, List.length_take, List.length_drop]
      show _ + 1 + _ ≤ _
      omega
    refine ⟨p3, p4, (bs.take at' ++ [a]).map V.ref, (bs.drop (at' + 1)).map V.ref, rfl, rfl, hp3, hp4, by rw [List.length_map, List.length_map]; exact Nat.le_of_lt (sz_lt (by omega)), fun p5 np5 => ?_⟩
    rw [← List.map_append]
    have z5 := same_upd (o := .lst ((bs.take at' ++ [a] ++ bs.drop (at' + 1)).map V.ref)) np5
    have hfs2 := hfs.keep (s21.trans z5)
    have hall : ItsAt (upd H21 p5 (.lst ((bs.take at' ++ [a] ++ bs.drop (at' + 1)).map V.ref))) bs (fs.map itOf) := by
      refine paired_of (by rw [List.length_map]; exact hbl) fun i x y hx hy => ?_
      rw [List.getElem?_map] at hy
      obtain ⟨g, hg, rfl⟩ := Option.map_eq_some_iff.mp hy
      obtain ⟨x', hx', hxg⟩ := paired_at hfs2 hg
      obtain rfl : x = x' := Option.some.inj (hx.symm.trans hx')
      exact itOf_at hxg
    refine q _ p5 _ ((fs.map itOf).take at' ++ [it] ++ (fs.map itOf).drop (at' + 1)) (s21.trans z5) upd_same (pr_app (pr_app (pr_take at' hall) (.cons (hit.keep z5) .nil)) (pr_drop (at' + 1) hall)) ?_ ?_
    · rw [List.length_append, List.length_append, List.length_take, List.length_drop, List.length_map]
      show _ + 1 + _ ≤ _
      omega
    · have hfa : ∀ y ∈ fs.map itOf, y.rs.length ≤ 1000 := fun y hy => by
        obtain ⟨g, hg, rfl⟩ := List.mem_map.mp hy
        have := (hrl g hg).2
        show g.2.length ≤ 1000
        omega
      intro y hy
      rcases List.mem_append.mp hy with hy | hy
      · rcases List.mem_append.mp hy with hy | hy
        · exact hfa y (List.mem_of_mem_take hy)
        · rw [List.mem_singleton.mp hy]
          exact hitl
      · exact hfa y (List.mem_of_mem_drop hy)

def SmD : Nat → Hp → V → V → Prop
  | 0, _, u, v => (∃ i, u = .int i ∧ v = .int i) ∨ (u = .non ∧ v = .non)
  | n + 1, H, u, v => (∃ i, u = .int i ∧ v = .int i) ∨ (u = .non ∧ v = .non) ∨ ∃ (a b : Addr) (xs ys : List V), u = .ref a ∧ v = .ref b ∧ H a = some (.tup xs) ∧ H b = some (.tup ys) ∧ xs.length = ys.length ∧ ys.length ≤ 2000 ∧ ∀ (i : Nat) (x y : V), xs[i]? = some x → ys[i]? = some y → SmD n H x y
theorem smD_ints {H : Hp} {a b : Addr} {rs : List Int} (n : Nat) (ha : H a = some (.tup (rs.map V.int))) (hb : H b = some (.tup (rs.map V.int))) (hl : rs.length ≤ 2000) : SmD (n + 1) H (.ref a) (.ref b) := by
  refine .inr (.inr ⟨a, b, _, _, rfl, rfl, ha, hb, rfl, by rw [List.length_map]; exact hl, fun i x y hx hy => ?_⟩)
  obtain rfl : x = y := Option.some.inj (hx.symm.trans hy)
  rw [List.getElem?_map] at hx
  obtain ⟨z, hz, rfl⟩ := Option.map_eq_some_iff.mp hx
  cases n with
  | zero => exact .inl ⟨z, rfl, rfl⟩
  | succ n => exact .inl ⟨z, rfl, rfl⟩
theorem smD_cfg {H : Hp} {a b : Addr} {f : Cfg} (n : Nat) (ha : CfAt H a f) (hb : CfAt H b f) (hl : f.2.length ≤ 2000) : SmD (n + 2) H (.ref a) (.ref b) := by
  obtain ⟨t, h1, h2⟩ := ha
  obtain ⟨u, h3, h4⟩ := hb
  refine .inr (.inr ⟨a, b, _, _, rfl, rfl, h1, h3, rfl, Nat.le_of_ble_eq_true rfl, fun i x y hx hy => ?_⟩)
  match i with
  | 0 => cases hx; cases hy; exact .inl ⟨_, rfl, rfl⟩
  | 1 => cases hx; cases hy; exact smD_ints n h2 h4 hl
  | i + 2 => simp at hx
theorem smD_run {H : Hp} {a b : Addr} {xs ys : List Addr} {fs : List Cfg} (ha : H a = some (.tup (xs.map V.ref))) (hb : H b = some (.tup (ys.map V.ref))) (h1 : CfsAt H xs fs) (h2 : CfsAt H ys fs) (hl : fs.length ≤ 2000) (hr : ∀ f ∈ fs, f.2.length ≤ 2000) : SmD 3 H (.ref a) (.ref b) := by
  have e1 := Paired.length h1
  have e2 := Paired.length h2
  refine .inr (.inr ⟨a, b, _, _, rfl, rfl, ha, hb, by rw [List.length_map, List.length_map]; omega, by rw [List.length_map]; omega, fun i x y hx hy => ?_⟩)
  obtain ⟨u, hu, rfl⟩ := ref_at hx
  obtain ⟨v, hv, rfl⟩ := ref_at hy
  have li : i < fs.length := by have := (List.getElem?_eq_some_iff.mp hu).1; omega
  have hf : fs[i]? = some fs[i] := List.getElem?_eq_getElem li
  obtain ⟨u', hu', g1⟩ := paired_at h1 hf
  obtain ⟨v', hv', g2⟩ := paired_at h2 hf
  obtain rfl : u = u' := Option.some.inj (hu.symm.trans hu')
  obtain rfl : v = v' := Option.some.inj (hv.symm.trans hv')
  exact smD_cfg 0 g1 g2 (hr _ (List.mem_of_getElem? hf))
def spSame (n : Nat) (K : PySem.W.Frag) : Sp := fun vs H Q _ => ∃ u v, vs = [u, v] ∧ SmD n H u v ∧ Q (.bl true) H
def sp__law_same (K : PySem.W.Frag) : Sp := spSame 3 K
theorem same_n {f : Addr} {fd : FuncData} (F : Fun K "_law_same" "_law_same" s__law_same f fd) (m_isinstance : mg "isinstance" = none) (m_tuple : mg "tuple" = none) (m_str : mg "str" = none) (m_range : mg "range" = none) (m_int : mg "int" = none) (m_len : mg "len" = none) (m_bool : mg "bool" = none)
    (g_self : mg "_law_same" = some (.ref f)) (kp_self : PySem.W.keepIn K (.ref f) = true) (b_self : Binds K fd ["actual", "expected"] []) : ∀ n : Nat, FnOk P w K mg base CX0 (n + 1) f fd ["actual", "expected"] (spSame n K)
  | 0 => by
    refine F.ok sc__law_same (fun vs H Q E h => ?_) (fun cdv A outer s H vs Q E hr h => ?_)
    · obtain ⟨u, v, rfl, _⟩ := h
      rfl
    · obtain ⟨u, v, rfl, hS, q⟩ := h
      refine ⟨_, (pss_cons (ps_if (pt_val (pe_callB call_isi (by rfl) m_isinstance (by decide +kernel) (pa_cons (pv 1) (pa_cons (pe_bltn (v := .ty "tuple") rfl m_tuple (by decide +kernel) rfl) pa_nil)))) (pss_cons (ps_if (PW.pt (pw_or (pt_not (pt_val (pe_callB call_isi (by rfl) m_isinstance (by decide +kernel) (pa_cons (pv 0) (pa_cons (pe_bltn (v := .ty "tuple") rfl m_tuple (by decide +kernel) rfl) pa_nil))))) (pw_or1 (pt_cmpR op_ne (pe_callB call_len_seq (by rfl) m_len (by decide +kernel) (pa_cons (pv 0) pa_nil)) (pe_callB call_len_seq (by rfl) m_len (by decide +kernel) (pa_cons (pv 1) pa_nil)) (nomark _))))) (pss_one (ps_ret pe_bl)) pss_nil)
      (pss_cons (ps_for PassesOwn.never rfl (pi_range1 (by rfl) m_range (pa_cons (pe_callB call_len_seq (by rfl) m_len (by decide +kernel) (pa_cons (pv 1) pa_nil)) pa_nil)) (pg_name (i := 2) sc__law_same.nd rfl (.inl rfl)) (pss_one (ps_if (pt_not (pt_val pe_dead)) (pss_one (ps_ret pe_bl)) pss_nil)))
      (pss_one (ps_ret pe_bl)))) pss_nil)
      (pss_cons (ps_if (pt_cmpR op_isN (pv 1) pe_non (nomark _)) (pss_one (ps_ret (pe_cmpR op_isN (pv 0) pe_non (nomark _)))) pss_nil)
      (pss_cons (ps_if (pt_val (pe_callB call_isi (by rfl) m_isinstance (by decide +kernel) (pa_cons (pv 1) (pa_cons (pe_bltn (v := .ty "str") rfl m_str (by decide +kernel) rfl) pa_nil)))) (pss_one (ps_ret (pe_and (pe_callB call_isi (by rfl) m_isinstance (by decide +kernel) (pa_cons (pv 0) (pa_cons (pe_bltn (v := .ty "str") rfl m_str (by decide +kernel) rfl) pa_nil))) (pe_one (pe_cmpR op_eq (pv 0) (pv 1) (nomark _)))))) pss_nil)
      (pss_one (ps_ret (pe_and (pe_callB call_isi (by rfl) m_isinstance (by decide +kernel) (pa_cons (pv 0) (pa_cons (pe_bltn (v := .ty "int") rfl m_int (by decide +kernel) rfl) pa_nil))) (pe_and (pe_not (pe_callB call_isi (by rfl) m_isinstance (by decide +kernel) (pa_cons (pv 0) (pa_cons (pe_bltn (v := .ty "bool") rfl m_bool (by decide +kernel) rfl) pa_nil)))) (pe_one (pe_cmpR op_eq (pv 0) (pv 1) (nomark _)))))))))), ?_⟩
      rw [st__law_same]
      walk_at "wk"
      rcases hS with ⟨i, rfl, rfl⟩ | ⟨rfl, rfl⟩
      · refine isiB (b := false) (.int _) (kit_ty (by decide +kernel)) ?_
        walk_at "wk"
        refine ⟨rfl, ?_⟩
        rw [show decide (V.int i = V.non) = false by simp]
        walk_at "wk"
        refine isiB (b := false) (.int _) (kit_ty (by decide +kernel)) ?_
        walk_at "wk"
        refine isiB (b := true) (.int _) (kit_ty (by decide +kernel)) ?_
        walk_at "wk"
        refine isiB (b := false) (.int _) (kit_ty (by decide +kernel)) ?_
        walk_at "wk"
        rw [decide_eq_true rfl]
        exact q
      · refine isiB (b := false) .non (kit_ty (by decide +kernel)) ?_
        walk_at "wk"
        refine ⟨rfl, ?_⟩
        rw [show decide (V.non = V.non) = true by simp]
        walk_at "wk"
        refine ⟨rfl, ?_⟩
        rw [show decide (V.non = V.non) = true by simp]
        exact q
  | n + 1 => by
    have C__law_same : Cal P w K mg base "_law_same" (n + 1) ["actual", "expected"] (spSame n K) := ⟨_, _, same_n F m_isinstance m_tuple m_str m_range m_int m_len m_bool g_self kp_self b_self n, g_self, kp_self, b_self⟩
    refine F.ok sc__law_same (fun vs H Q E h => ?_) (fun cdv A outer s H vs Q E hr h => ?_)
    · obtain ⟨u, v, rfl, _⟩ := h
      rfl
    · obtain ⟨u, v, rfl, hS, q⟩ := h
      refine ⟨_, (pss_cons (ps_if (pt_val (pe_callB call_isi (by rfl) m_isinstance (by decide +kernel) (pa_cons (pv 1) (pa_cons (pe_bltn (v := .ty "tuple") rfl m_tuple (by decide +kernel) rfl) pa_nil)))) (pss_cons (ps_if (PW.pt (pw_or (pt_not (pt_val (pe_callB call_isi (by rfl) m_isinstance (by decide +kernel) (pa_cons (pv 0) (pa_cons (pe_bltn (v := .ty "tuple") rfl m_tuple (by decide +kernel) rfl) pa_nil))))) (pw_or1 (pt_cmpR op_ne (pe_callB call_len_seq (by rfl) m_len (by decide +kernel) (pa_cons (pv 0) pa_nil)) (pe_callB call_len_seq (by rfl) m_len (by decide +kernel) (pa_cons (pv 1) pa_nil)) (nomark _))))) (pss_one (ps_ret pe_bl)) pss_nil)
      (pss_cons (ps_for PassesOwn.never rfl (pi_range1 (by rfl) m_range (pa_cons (pe_callB call_len_seq (by rfl) m_len (by decide +kernel) (pa_cons (pv 1) pa_nil)) pa_nil)) (pg_name (i := 2) sc__law_same.nd rfl (.inl rfl)) (pss_one (ps_if (pt_not (pt_val (pe_cal C__law_same hr (by rfl) (pa_cons (pe_ix ix_tup (pv 0) (pv 2) (fun _ _ => rfl)) (pa_cons (pe_ix ix_tup (pv 1) (pv 2) (fun _ _ => rfl)) pa_nil))))) (pss_one (ps_ret pe_bl)) pss_nil)))
      (pss_one (ps_ret pe_bl)))) pss_nil)
      (pss_cons (ps_if (pt_cmpR op_isN (pv 1) pe_non (nomark _)) (pss_one (ps_ret (pe_cmpR op_isN (pv 0) pe_non (nomark _)))) pss_nil)
      (pss_cons (ps_if (pt_val (pe_callB call_isi (by rfl) m_isinstance (by decide +kernel) (pa_cons (pv 1) (pa_cons (pe_bltn (v := .ty "str") rfl m_str (by decide +kernel) rfl) pa_nil)))) (pss_one (ps_ret (pe_and (pe_callB call_isi (by rfl) m_isinstance (by decide +kernel) (pa_cons (pv 0) (pa_cons (pe_bltn (v := .ty "str") rfl m_str (by decide +kernel) rfl) pa_nil))) (pe_one (pe_cmpR op_eq (pv 0) (pv 1) (nomark _)))))) pss_nil)
      (pss_one (ps_ret (pe_and (pe_callB call_isi (by rfl) m_isinstance (by decide +kernel) (pa_cons (pv 0) (pa_cons (pe_bltn (v := .ty "int") rfl m_int (by decide +kernel) rfl) pa_nil))) (pe_and (pe_not (pe_callB call_isi (by rfl) m_isinstance (by decide +kernel) (pa_cons (pv 0) (pa_cons (pe_bltn (v := .ty "bool") rfl m_bool (by decide +kernel) rfl) pa_nil)))) (pe_one (pe_cmpR op_eq (pv 0) (pv 1) (nomark _)))))))))), ?_⟩
      rw [st__law_same]
      walk_at "wk"
      rcases hS with ⟨i, rfl, rfl⟩ | ⟨rfl, rfl⟩ | ⟨a, b, xs, ys, rfl, rfl, ha, hb, hl, hle, hxy⟩
      · refine isiB (b := false) (.int _) (kit_ty (by decide +kernel)) ?_
        walk_at "wk"
        refine ⟨rfl, ?_⟩
        rw [show decide (V.int i = V.non) = false by simp]
        walk_at "wk"
        refine isiB (b := false) (.int _) (kit_ty (by decide +kernel)) ?_
        walk_at "wk"
        refine isiB (b := true) (.int _) (kit_ty (by decide +kernel)) ?_
        walk_at "wk"
        refine isiB (b := false) (.int _) (kit_ty (by decide +kernel)) ?_
        walk_at "wk"
        rw [decide_eq_true rfl]
        exact q
      · refine isiB (b := false) .non (kit_ty (by decide +kernel)) ?_
        walk_at "wk"
        refine ⟨rfl, ?_⟩
        rw [show decide (V.non = V.non) = true by simp]
        walk_at "wk"
        refine ⟨rfl, ?_⟩
        rw [show decide (V.non = V.non) = true by simp]
        exact q
      · refine isiB (b := true) (.tup hb) (kit_ty (by decide +kernel)) ?_
        walk_at "wk"
        refine isiB (b := true) (.tup ha) (kit_ty (by decide +kernel)) ?_
        walk_at "wk"
        refine ⟨a, _, rfl, .inr (sq_of ha), ?_⟩
        walk_at "wk"
        refine ⟨b, _, rfl, .inr (sq_of hb), ?_⟩
        rw [hl]
        walk_at "wk"
        refine ite2 (fun e => ?_) (fun _ => ?_)
        · rw [decide_eq_true rfl] at e
          exact absurd e (by decide)
        walk_at "wk"
        refine ⟨b, _, rfl, .inr (sq_of hb), ?_⟩
        walk_at "wk"
        rw [Int.toNat_natCast]
        refine for_rng (n := ys.length) (fun i σ' H' => ∃ c2 : Option V, σ' = [some (.ref a), some (.ref b), c2] ∧ H = H') ?_ ?_ ?_
        · exact ⟨none, rfl, rfl⟩
        · rintro i σ' H' hi ⟨c2, rfl, rfl⟩
          have hx : xs[i]? = some (xs[i]'(by omega)) := List.getElem?_eq_getElem (by omega)
          have hy : ys[i]? = some ys[i] := List.getElem?_eq_getElem hi
          walk_at "wk"
          refine ixT_as (sq_of ha) (atI_nat hx) ?_
          walk_at "wk"
          refine ixT_as (sq_of hb) (atI_nat hy) ?_
          walk_at "wk"
          refine ⟨_, _, rfl, hxy i _ _ hx hy, ?_⟩
          walk_at "wk"
          exact ⟨_, rfl, rfl⟩
        · rintro σ' H' ⟨c2, rfl, rfl⟩
          walk_at "wk"
          exact q
theorem ok__law_same {f : Addr} {fd : FuncData}  (F : Fun K "_law_same" "_law_same" s__law_same f fd) (m_isinstance : mg "isinstance" = none) (m_tuple : mg "tuple" = none) (m_len : mg "len" = none) (m_range : mg "range" = none) (m_str : mg "str" = none) (m_int : mg "int" = none) (m_bool : mg "bool" = none) (g_self : mg "_law_same" = some (.ref f)) (kp_self : PySem.W.keepIn K (.ref f) = true) (b_self : Binds K fd ["actual", "expected"] []) : FnOk P w K mg base CX0 4 f fd ["actual", "expected"] (sp__law_same K) := same_n F m_isinstance m_tuple m_str m_range m_int m_len m_bool g_self kp_self b_self 3

def sp_stops (K : PySem.W.Frag) (c_Machine : Addr) : Sp := fun vs H Q _ => ∃ (p P a : Addr) (R n : Nat) (ls : List Ln) (as : List Addr) (u : V), vs = [.ref p, .ref P] ∧ MA c_Machine H p R ls ∧ H P = some (.lst (as.map V.ref)) ∧ 0 < as.length ∧ as[as.length - 1]? = some a ∧ H a = some (.tup [.int n, u]) ∧ n < ls.length ∧
  ∀ H', Same H H' → Q (.bl (decide (ls[n]? = some .stop))) H'
theorem ok_stops {f : Addr} {fd : FuncData} {c_Machine : Addr} (F : Fun K "stops" "stops" s_stops f fd) (C_Machine_line : CalM P w K mg base c_Machine "line" 3 ["self", "number"] (sp_Machine_line K c_Machine)) (m_len : mg "len" = none) {r_STOP : Addr} (m_STOP : mg "STOP" = some (.ref r_STOP)) (k_STOP : TupK K r_STOP [V.str "stop"]) (T_Machine : Tx_Machine K c_Machine) : FnOk P w K mg base CX0 4 f fd ["machine", "run"] (sp_stops K c_Machine) := by
  refine F.ok sc_stops (fun vs H Q E h => ?_) (fun cdv A outer s H vs Q E hr h => ?_)
  · obtain ⟨p, P, a, R, n, ls, as, u, rfl, _⟩ := h
    rfl
  · obtain ⟨p, P, a, R, n, ls, as, u, rfl, hM, hP, h0, ha, hu, hn, q⟩ := h
    refine ⟨_, (pss_one (ps_ret (pe_and (pe_cmpR op_gt (pe_callB call_len_seq (by rfl) m_len (by decide +kernel) (pa_cons (pv 1) pa_nil)) pe_int (nomark _)) (pe_one (pe_cmpR (op_eqD hr.units) (pe_mth C_Machine_line T_Machine.cl hr (pv 0) (pa_cons (pe_ix ix_tup (pe_ix ix_list (pv 1) (pe_un un_neg pe_int) (fun _ _ => rfl)) pe_int (fun _ _ => rfl)) pa_nil)) (pe_glob rfl m_STOP (show RelV (.ref r_STOP) _ from rfl)) (nomark _)))))), ?_⟩
    rw [st_stops]
    walk_at "wk"
    refine ⟨P, _, rfl, .inl (.inl (.inl hP)), ?_⟩
    rw [List.length_map]
    walk_at "wk"
    refine ite2 (fun _ => ?_) (fun e => absurd (decide_eq_true (show (0 : Int) < (as.length : Int) by omega)) e)
    obtain ⟨dx, L, ml, hp, _, _⟩ := id hM
    walk_at "wk"
    refine ⟨p, dx, _, rfl, hp, fM_no _ _ _ (by decide +kernel) (by decide +kernel) (by decide +kernel), ?_⟩
    walk_at "wk"
    refine ixL_as (.inl (.inl hP)) (show atI _ (-((1 : Nat) : Int)) = _ from atI_neg (by decide) (by rw [List.length_map]; omega) (by rw [List.length_map, List.getElem?_map, ha]; rfl)) ?_
    walk_at "wk"
    have hi : ls[n]? = some ls[n] := List.getElem?_eq_getElem hn
    refine ⟨p, R, n, ls, ls[n], rfl, hM, hi, fun c hc => ?_⟩
    walk_at "wk"
    rw [hi] at q
    generalize ls[n] = l at hc q
    refine ⟨l.dat, Ln.stop.dat, LsAt.dp hc, .tup (k_STOP.sq H) (.cons (.str _) .nil), (lay_ln l).shaped (by decide), (lay_ln .stop).shaped (by decide), ?_⟩
    rw [eqv_stop]
    rw [show decide (some l = some Ln.stop) = decide (l = Ln.stop) from decide_eq_decide.mpr ⟨fun z => Option.some.inj z, fun z => by rw [z]⟩] at q
    exact q H fun _ _ z => z

def sp_is_tuple_of (K : PySem.W.Frag) : Sp := fun vs H Q _ => ∃ (t : Addr) (rt : Bool) (rs : List Int) (R : Nat), vs = [.ref t, .int R] ∧ H t = some (seqO rt (rs.map V.int)) ∧ rs.length ≤ 1000 ∧ ∀ H', Same H H' → Q (.bl (regOk R rt rs)) H'
theorem ok_is_tuple_of {f : Addr} {fd : FuncData}  (F : Fun K "is_tuple_of" "is_tuple_of" s_is_tuple_of f fd) (C_is_natural : Cal P w K mg base "is_natural" 2 ["value"] (sp_is_natural K)) (m_isinstance : mg "isinstance" = none) (m_tuple : mg "tuple" = none) (m_len : mg "len" = none) (m_all : mg "all" = none) : FnOk P w K mg base CX0 3 f fd ["value", "count"] (sp_is_tuple_of K) := by
  refine F.ok sc_is_tuple_of (fun vs H Q E h => ?_) (fun cdv A outer s H vs Q E hr h => ?_)
  · obtain ⟨t, rt, rs, R, rfl, _⟩ := h
    rfl
  · obtain ⟨t, rt, rs, R, rfl, ht, hlen, q⟩ := h
    refine ⟨_, (pss_cons (ps_if (PW.pt (pw_or (pt_not (pt_val (pe_callB call_isi (by rfl) m_isinstance (by decide +kernel) (pa_cons (pv 0) (pa_cons (pe_bltn (v := .ty "tuple") rfl m_tuple (by decide +kernel) rfl) pa_nil))))) (pw_or1 (pt_cmpR op_ne (pe_callB call_len_seq (by rfl) m_len (by decide +kernel) (pa_cons (pv 0) pa_nil)) (pv 1) (nomark _))))) (pss_one (ps_ret pe_bl)) pss_nil)
      (pss_one (ps_ret (pe_callB (cr_all rfl) (by rfl) m_all (by decide +kernel) (pa_cons (pe_lc (own := [("item", 2)]) (g := (gName 2)) (by rfl) sc_is_tuple_of.nd (pi_tup (pv 0)) (blkOk_by (own := [("item", 2)]) (N := ["value", "count", "item"]) (sc := defScope s_is_tuple_of) (by decide +kernel)) (fun _ _ _ _ _ => (pg_name (i := 2) sc_is_tuple_of.nd rfl (Or.inl rfl))) (fun _ _ _ _ _ => pts_nil) (fun _ _ _ _ _ => (pe_cal C_is_natural hr (by rfl) (pa_cons (pv 2) pa_nil)))) pa_nil))))), ?_⟩
    rw [st_is_tuple_of]
    walk_at "wk"
    cases rt with
    | false =>
      refine isiB (b := false) (.lst ht) (kit_ty (by decide +kernel)) ?_
      walk_at "wk"
      exact q H fun _ _ z => z
    | true =>
      have ht : H t = some (.tup (rs.map V.int)) := ht
      refine isiB (b := true) (.tup ht) (kit_ty (by decide +kernel)) ?_
      walk_at "wk"
      refine ⟨t, _, rfl, .inr (sq_of ht), ?_⟩
      rw [List.length_map]
      walk_at "wk"
      rw [dvi]
      refine ite2 (fun e => ?_) (fun e => ?_)
      · have ne : ¬ rs.length = R := by
          intro z
          rw [decide_eq_true (show (rs.length : Int) = (R : Int) by omega)] at e
          exact absurd e (by decide)
        rw [show regOk R true rs = false by unfold regOk; rw [decide_eq_false ne]; rfl] at q
        walk_at "wk"
        exact q H fun _ _ z => z
      · have eR : rs.length = R := by
          by_cases z : rs.length = R
          · exact z
          · rw [decide_eq_false (show ¬ (rs.length : Int) = (R : Int) by omega)] at e
            exact absurd rfl e
        walk_at "wk"
        refine ⟨t, rfl, ⟨_, sq_of ht⟩, fun D nD => ?_⟩
        refine lc_it (walk_tup (K := K) (a := t) (xs := rs.map V.int)) (fun i H' => H' D = some (.lst (((rs.take i).map fun x => decide (0 ≤ x)).map V.bl)) ∧ Same H H') ?_ ?_ ?_ ?_
        · exact ⟨upd_same, same_upd nD⟩
        · rintro i H' _ ⟨_, s3⟩
          exact sq_of (s3 _ _ ht)
        · rintro i x H3 H4 li ⟨hD, s3⟩ ⟨rfl, hx⟩
          rw [List.getElem?_map] at hx
          obtain ⟨z, hz, rfl⟩ := Option.map_eq_some_iff.mp hx
          refine ⟨rfl, WK.yes (WK.ift ?_)⟩
          refine ⟨_, rfl, _, rfl, .inl ⟨_, rfl⟩, ?_⟩
          refine ⟨_, hD, by rw [List.length_map, List.length_map, List.length_take]; exact sz_lt (by omega), ?_, Same.new s3 nD⟩
          rw [upd_same, List.take_add_one, hz, List.map_append, List.map_append]
          rfl
        · rintro H3 ⟨hD, s3⟩
          walk_at "wk"
          rw [List.length_map, List.take_of_length_le (Nat.le_refl _)] at hD
          refine ⟨D, _, rfl, .inl (.inl hD), ?_⟩
          have e1 : (List.map (fun x => decide (0 ≤ x)) rs).all id = rs.all fun x => decide (0 ≤ x) := by rw [List.all_map]; rfl
          rw [e1]
          rw [show regOk R true rs = rs.all fun x => decide (0 ≤ x) by unfold regOk; rw [decide_eq_true eR]; rfl] at q
          exact q _ s3

def sp__is_configuration (K : PySem.W.Frag) (c_Machine : Addr) : Sp := fun vs H Q _ => ∃ (p a : Addr) (R : Nat) (ls : List Ln) (it : Itm), vs = [.ref p, .ref a] ∧ MA c_Machine H p R ls ∧ ItAt H a it ∧ it.rs.length ≤ 1000 ∧ ∀ H', Same H H' → Q (.bl (it.good R ls.length)) H'
theorem ok__is_configuration {f : Addr} {fd : FuncData} {c_Machine : Addr} (F : Fun K "_is_configuration" "_is_configuration" s__is_configuration f fd) (C_is_natural : Cal P w K mg base "is_natural" 2 ["value"] (sp_is_natural K)) (C_is_tuple_of : Cal P w K mg base "is_tuple_of" 3 ["value", "count"] (sp_is_tuple_of K)) (m_isinstance : mg "isinstance" = none) (m_tuple : mg "tuple" = none) (m_len : mg "len" = none) (T_Machine : Tx_Machine K c_Machine) : FnOk P w K mg base CX0 4 f fd ["machine", "value"] (sp__is_configuration K c_Machine) := by
  refine F.ok sc__is_configuration (fun vs H Q E h => ?_) (fun cdv A outer s H vs Q E hr h => ?_)
  · obtain ⟨p, a, R, ls, it, rfl, _⟩ := h
    rfl
  · obtain ⟨p, a, R, ls, ⟨tp, num, rt, rs⟩, rfl, hM, ⟨t, ha, ht, hn⟩, hlen, q⟩ := h
    refine ⟨_, (pss_cons (ps_if (PW.pt (pw_or (pt_not (pt_val (pe_callB call_isi (by rfl) m_isinstance (by decide +kernel) (pa_cons (pv 1) (pa_cons (pe_bltn (v := .ty "tuple") rfl m_tuple (by decide +kernel) rfl) pa_nil))))) (pw_or1 (pt_cmpR op_ne (pe_callB call_len_seq (by rfl) m_len (by decide +kernel) (pa_cons (pv 1) pa_nil)) pe_int (nomark _))))) (pss_one (ps_ret pe_bl)) pss_nil)
      (pss_cons (ps_asg (pv 1) (pg_tup (by rfl) (pgs_cons (pg_name (i := 2) sc__is_configuration.nd rfl (.inl rfl)) (pgs_cons (pg_name (i := 3) sc__is_configuration.nd rfl (.inl rfl)) pgs_nil))))
      (pss_one (ps_ret (pe_and (pe_cal C_is_natural (hr.mono (by decide)) (by rfl) (pa_cons (pv 2) pa_nil)) (pe_and (pe_cmpR op_lt (pv 2) (pe_fld (pv 0) rfl) (nomark _)) (pe_one (pe_cal C_is_tuple_of hr (by rfl) (pa_cons (pv 3) (pa_cons (pe_fld (pv 0) rfl) pa_nil)))))))))), ?_⟩
    rw [st__is_configuration]
    have ha : H a = some (seqO tp [num, .ref t]) := ha
    have ht : H t = some (seqO rt (rs.map V.int)) := ht
    have q : ∀ H', Same H H' → Q (.bl (tp && (numOk ls.length num && regOk R rt rs))) H' := q
    have s0 : Same H H := fun _ _ z => z
    walk_at "wk"
    cases tp with
    | false =>
      refine isiB (b := false) (.lst ha) (kit_ty (by decide +kernel)) ?_
      walk_at "wk"
      exact q H s0
    | true =>
      have ha : H a = some (.tup [num, .ref t]) := ha
      rw [Bool.true_and] at q
      refine isiB (b := true) (.tup ha) (kit_ty (by decide +kernel)) ?_
      walk_at "wk"
      refine ⟨a, _, rfl, .inr (sq_of ha), ?_⟩
      walk_at "wk"
      rw [show ([num, V.ref t] : List V).length = 2 from rfl]
      refine ite2 (fun e => absurd e (by decide +kernel)) (fun _ => ?_)
      walk_at "wk"
      dsimp only [List.set]
      walk_at "wk"
      obtain ⟨dx, L, ml, hp, _, _⟩ := id hM
      rcases hn with ⟨i, hi⟩ | ⟨b, hb⟩
      · have hi : num = .int i := hi
        subst hi
        refine ⟨_, rfl, .inl ⟨_, rfl⟩, ?_⟩
        rw [show isNat (.int i) = decide (0 ≤ i) from rfl]
        have q : ∀ H', Same H H' → Q (.bl ((decide (0 ≤ i) && decide (i < (ls.length : Int))) && regOk R rt rs)) H' := q
        walk_at "wk"
        refine ite2 (fun e => ?_) (fun e => ?_)
        · rw [e, Bool.true_and] at q
          walk_at "wk"
          refine ⟨p, c_Machine, dx, _, _, rfl, hp, T_Machine.cl, T_Machine.n_size, fM_s _ _ _, ?_⟩
          walk_at "wk"
          refine ite2 (fun e => ?_) (fun e => ?_)
          · rw [e, Bool.true_and] at q
            walk_at "wk"
            refine ⟨p, c_Machine, dx, _, _, rfl, hp, T_Machine.cl, T_Machine.n_registers, fM_r _ _ _, ?_⟩
            walk_at "wk"
            exact ⟨t, rt, rs, R, rfl, ht, hlen, q⟩
          · rw [Bool.eq_false_iff.mpr e, Bool.false_and] at q
            exact q H s0
        · rw [Bool.eq_false_iff.mpr e, Bool.false_and, Bool.false_and] at q
          exact q H s0
      · have hb : num = .bl b := hb
        subst hb
        refine ⟨_, rfl, .inr (.inl ⟨_, rfl⟩), ?_⟩
        rw [show isNat (.bl b) = false from rfl]
        walk_at "wk"
        exact q H s0

def sp_is_run (K : PySem.W.Frag) (c_Machine : Addr) : Sp := fun vs H Q _ => ∃ (p : Addr) (v : V) (R : Nat) (ls : List Ln), vs = [.ref p, v] ∧ MA c_Machine H p R ls ∧ MOk R ls ∧
  (((v = .non ∨ ∃ t, v = .ref t ∧ H t = some (.tup [])) ∧ Q (.bl false) H) ∨ ∃ (P : Addr) (as : List Addr) (its : List Itm), v = .ref P ∧ H P = some (.lst (as.map V.ref)) ∧ ItsAt H as its ∧ its.length ≤ 1000 ∧ (∀ it ∈ its, it.rs.length ≤ 1000) ∧ ∀ H', Same H H' → Q (.bl (isRunI R ls its)) H')
theorem ok_is_run {f : Addr} {fd : FuncData} {c_Machine : Addr} (F : Fun K "is_run" "is_run" s_is_run f fd) (C_stops : Cal P w K mg base "stops" 4 ["machine", "run"] (sp_stops K c_Machine)) (C__is_configuration : Cal P w K mg base "_is_configuration" 4 ["machine", "value"] (sp__is_configuration K c_Machine)) (C_Machine_step : CalM P w K mg base c_Machine "step" 4 ["self", "configuration"] (sp_Machine_step K c_Machine)) (m_isinstance : mg "isinstance" = none) (m_list : mg "list" = none) (m_all : mg "all" = none) (m_zip : mg "zip" = none) (T_Machine : Tx_Machine K c_Machine) : FnOk P w K mg base CX0 5 f fd ["machine", "value"] (sp_is_run K c_Machine) := by
  refine F.ok sc_is_run (fun vs H Q E h => ?_) (fun cdv A outer s H vs Q E hr h => ?_)
  · obtain ⟨p, v, R, ls, rfl, _⟩ := h
    rfl
  · obtain ⟨p, v, R, ls, rfl, hM, M, h⟩ := h
    refine ⟨_, (pss_cons (ps_if (PW.pt (pw_or (pt_not (pt_val (pe_callB call_isi (by rfl) m_isinstance (by decide +kernel) (pa_cons (pv 1) (pa_cons (pe_bltn (v := .ty "list") rfl m_list (by decide +kernel) rfl) pa_nil))))) (pw_or1 (pt_not (pt_truth (pv 1) (by intro _; rfl)))))) (pss_one (ps_ret pe_bl)) pss_nil)
      (pss_cons (ps_if (pt_not (pt_val (pe_callB (cr_all rfl) (by rfl) m_all (by decide +kernel) (pa_cons (pe_lc (own := [("item", 4)]) (g := (gName 4)) (by rfl) sc_is_run.nd (pi_list (pv 1)) (blkOk_by (own := [("item", 4)]) (N := ["machine", "value", "before", "after", "item"]) (sc := defScope s_is_run) (by decide +kernel)) (fun _ _ _ _ _ => (pg_name (i := 4) sc_is_run.nd rfl (Or.inl rfl))) (fun _ _ _ _ _ => pts_nil) (fun _ _ _ _ _ => (pe_cal C__is_configuration hr (by rfl) (pa_cons (pv 0) (pa_cons (pv 4) pa_nil))))) pa_nil)))) (pss_one (ps_ret pe_bl)) pss_nil)
      (pss_cons (ps_if (PW.pt (pw_or (pt_cmpR op_ne (pe_ix ix_tup (pe_ix ix_list (pv 1) pe_int (fun _ _ => rfl)) pe_int (fun _ _ => rfl)) pe_int (nomark _)) (pw_or1 (pt_not (pt_val (pe_cal C_stops hr (by rfl) (pa_cons (pv 0) (pa_cons (pv 1) pa_nil)))))))) (pss_one (ps_ret pe_bl)) pss_nil)
      (pss_one (ps_ret (pe_callB (cr_all rfl) (by rfl) m_all (by decide +kernel) (pa_cons (pe_lc (own := [("before", 2), ("after", 3)]) (g := (gTup K 2 (gCons (gName 2) (gCons (gName 3) gNil)))) (by rfl) sc_is_run.nd (pi_zip (by rfl) m_zip (pa_cons (pv 1) (pa_cons (pe_slice sl_list (pv 1) (po_some pe_int) po_none) pa_nil))) (blkOk_by (own := [("before", 2), ("after", 3)]) (N := ["machine", "value", "before", "after", "item"]) (sc := defScope s_is_run) (by decide +kernel)) (fun _ _ _ _ _ => (pg_tup (by rfl) (pgs_cons (pg_name (i := 2) sc_is_run.nd rfl (Or.inl rfl)) (pgs_cons (pg_name (i := 3) sc_is_run.nd rfl (Or.inl rfl)) pgs_nil)))) (fun _ _ _ _ _ => pts_nil) (fun _ _ _ _ _ => (pe_cmpR (show OpR _ _ (rEqD K) from op_eqD hr.units) (pe_mth C_Machine_step T_Machine.cl hr (pv 0) (pa_cons (pv 2) pa_nil)) (pv 3) (nomark _)))) pa_nil))))))), ?_⟩
    rw [st_is_run]
    walk_at "wk"
    rcases h with ⟨rfl | ⟨t, rfl, ht⟩, q⟩ | ⟨P, as, its, rfl, hP, hits, hlen, hrl, q⟩
    · refine isiB (b := false) .non (kit_ty (by decide +kernel)) ?_
      walk_at "wk"
      exact q
    · refine isiB (b := false) (.tup ht) (kit_ty (by decide +kernel)) ?_
      walk_at "wk"
      exact q
    have hal : as.length = its.length := Paired.length hits
    have s0 : Same H H := fun _ _ z => z
    refine isiB (b := true) (.lst hP) (kit_ty (by decide +kernel)) ?_
    walk_at "wk"
    by_cases h0 : its.length = 0
    · have e1 : its = [] := List.eq_nil_of_length_eq_zero h0
      subst e1
      have e2 : as = [] := List.eq_nil_of_length_eq_zero hal
      subst e2
      refine ⟨false, .inl ⟨_, .inl (.inl hP), rfl⟩, ?_⟩
      walk_at "wk"
      exact q H s0
    have e3 : (!(as.map V.ref).isEmpty) = true := by
      cases as with
      | nil => exact absurd hal.symm h0
      | cons => rfl
    refine ⟨true, .inl ⟨_, .inl (.inl hP), e3.symm⟩, ?_⟩
    walk_at "wk"
    refine ⟨P, rfl, ⟨_, .inl (.inl hP)⟩, fun D nD => ?_⟩
    refine lc_it (walk_list (K := K) (a := P) (xs := as.map V.ref)) (fun i H' => H' D = some (.lst (((its.take i).map (Itm.good R ls.length)).map V.bl)) ∧ Same H H') ?_ ?_ ?_ ?_
    · exact ⟨upd_same, same_upd nD⟩
    · rintro i H' _ ⟨_, s3⟩
      exact .inl (.inl (s3 _ _ hP))
    · rintro i x H3 H4 li ⟨hD, s3⟩ ⟨rfl, hx⟩
      obtain ⟨a, ha, rfl⟩ := ref_at hx
      rw [List.length_map, hal] at li
      have hi : its[i]? = some its[i] := List.getElem?_eq_getElem li
      obtain ⟨a', ha', hit⟩ := paired_at hits hi
      obtain rfl : a = a' := Option.some.inj (ha.symm.trans ha')
      refine ⟨rfl, WK.yes (WK.ift ?_)⟩
      refine ⟨_, rfl, _, rfl, p, a, R, ls, its[i], rfl, hM.keep s3, hit.keep s3, hrl _ (List.mem_of_getElem? hi), fun H5 s5 => ?_⟩
      refine ⟨_, s5 _ _ hD, by rw [List.length_map, List.length_map, List.length_take]; exact sz_lt (by omega), ?_, Same.new (s3.trans s5) nD⟩
      rw [upd_same, List.take_add_one, hi, List.map_append, List.map_append]
      rfl
    · rintro H3 ⟨hD, s3⟩
      rw [List.length_map, hal, List.take_of_length_le (Nat.le_refl _)] at hD
      walk_at "wk"
      refine ⟨D, _, rfl, .inl (.inl hD), ?_⟩
      have e4 : (List.map (Itm.good R ls.length) its).all id = its.all (Itm.good R ls.length) := by rw [List.all_map]; rfl
      rw [e4]
      walk_at "wk"
      have hM3 := hM.keep s3
      have hP3 := s3 _ _ hP
      refine ite2 (fun e => ?_) (fun e => ?_)
      · have e5 : its.all (Itm.good R ls.length) = false := by simpa using e
        rw [show isRunI R ls its = false by unfold isRunI; rw [e5]; rfl] at q
        walk_at "wk"
        exact q H3 s3
      have e5 : its.all (Itm.good R ls.length) = true := by simpa using e
      have hg : ∀ it ∈ its, it.good R ls.length = true := fun it h => List.all_eq_true.mp e5 it h
      have q : ∀ H', Same H3 H' → Q (.bl (chkM ls (its.map Itm.cfg))) H' := fun H' s' => by
        have := q H' (s3.trans s')
        unfold isRunI at this
        rw [e5, Bool.true_and] at this
        exact this
      have hcf : ∀ (i : Nat) (a : Addr), as[i]? = some a → ∃ f, (its.map Itm.cfg)[i]? = some f ∧ CfAt H3 a f ∧ CfOk R ls f := by
        intro i a hi
        have li : i < its.length := by have := (List.getElem?_eq_some_iff.mp hi).1; omega
        have hi2 : its[i]? = some its[i] := List.getElem?_eq_getElem li
        obtain ⟨a', ha', hit⟩ := paired_at hits hi2
        obtain rfl : a = a' := Option.some.inj (hi.symm.trans ha')
        obtain ⟨g1, g2⟩ := good_of (hg _ (List.mem_of_getElem? hi2)) (hit.keep s3)
        exact ⟨_, by rw [List.getElem?_map, hi2]; rfl, g1, g2⟩
      have hfl : (its.map Itm.cfg).length = as.length := by rw [List.length_map, hal]
      generalize its.map Itm.cfg = fs at q hcf hfl
      have a0 : as[0]? = some (as[0]'(by omega)) := List.getElem?_eq_getElem (by omega)
      obtain ⟨f0, hf0, ⟨t0, hc0, ht0⟩, hk0⟩ := hcf 0 _ a0
      generalize as[0]'(by omega) = b0 at a0 hc0
      walk_at "wk"
      refine ixL_as (.inl (.inl hP3)) (show atI _ ((0 : Nat) : Int) = _ from atI_nat (by rw [List.getElem?_map, a0]; rfl)) ?_
      walk_at "wk"
      rw [dvi]
      have ef : ∃ r, fs = f0 :: r := by
        cases fs with
        | nil => simp at hf0
        | cons f r => exact ⟨r, by simp at hf0; rw [hf0]⟩
      have ech : chkM ls fs = (decide (f0.1 = 0) && (lastStop ls fs && consec ls fs)) := by
        obtain ⟨rr, hfs⟩ := ef
        rw [hfs]
        rfl
      rw [ech] at q
      rw [show decide ((f0.1 : Int) = 0) = decide (f0.1 = 0) from decide_eq_decide.mpr (by omega)]
      refine ite2 (fun e => ?_) (fun e => ?_)
      · have e6 : decide (f0.1 = 0) = false := by simpa using e
        rw [e6, Bool.false_and] at q
        walk_at "wk"
        exact q H3 fun _ _ z => z
      have e6 : decide (f0.1 = 0) = true := by simpa using e
      rw [e6, Bool.true_and] at q
      have al : as[as.length - 1]? = some (as[as.length - 1]'(by omega)) := List.getElem?_eq_getElem (by omega)
      obtain ⟨fl, hfl2, ⟨tl, hcl, _⟩, hkl⟩ := hcf _ _ al
      generalize as[as.length - 1]'(by omega) = bl at al hcl
      have els : lastStop ls fs = decide (ls[fl.1]? = some .stop) := by
        unfold lastStop
        rw [hfl, hfl2]
      walk_at "wk"
      refine ⟨p, P, bl, R, fl.1, ls, as, _, rfl, hM3, hP3, by omega, al, hcl, hkl.1, fun H4 s4 => ?_⟩
      rw [els] at q
      walk_at "wk"
      refine ite2 (fun e => ?_) (fun e => ?_)
      · have e7 : decide (ls[fl.1]? = some .stop) = false := by simpa using e
        rw [e7, Bool.false_and] at q
        walk_at "wk"
        exact q H4 s4
      have e7 : decide (ls[fl.1]? = some .stop) = true := by simpa using e
      rw [e7, Bool.true_and] at q
      have hM4 := hM3.keep s4
      have hP4 := s4 _ _ hP3
      have hcf4 : ∀ (i : Nat) (a : Addr), as[i]? = some a → ∃ f, fs[i]? = some f ∧ CfAt H4 a f ∧ CfOk R ls f := fun i a hi => let ⟨f, x, y, z⟩ := hcf i a hi; ⟨f, x, y.keep s4, z⟩
      walk_at "wk"
      refine ⟨P, _, rfl, .inl (.inl hP4), fun P2 nP2 => ?_⟩
      rw [cut_drop, ← List.map_drop]
      have s5 := same_upd (o := .lst ((as.drop 1).map V.ref)) nP2
      have hP5 : (upd H4 P2 (.lst ((as.drop 1).map V.ref))) P2 = some (.lst ((as.drop 1).map V.ref)) := upd_same
      generalize upd H4 P2 (.lst ((as.drop 1).map V.ref)) = H5 at s5 hP5 ⊢
      walk_at "wk"
      refine ⟨P, P2, _, _, rfl, .inl (.inl (s5 _ _ hP4)), .inl (.inl hP5), fun D2 nD2 => ?_⟩
      have hn : as.length - 1 = min (as.map V.ref).length ((as.drop 1).map V.ref).length := by
        rw [List.length_map, List.length_map, List.length_drop]
        omega
      refine lc_it (walk_zip (K := K) (a := P) (b := P2) hn) (fun i H' => H' D2 = some (.lst (((stepsOk ls fs).take i).map V.bl)) ∧ Same H5 H') ?_ ?_ ?_ ?_
      · exact ⟨upd_same, same_upd nD2⟩
      · rintro i H' _ ⟨_, s6⟩
        exact ⟨.inl (.inl (s6 _ _ (s5 _ _ hP4))), .inl (.inl (s6 _ _ hP5))⟩
      · rintro i x H6 H7 li ⟨hD2, s6⟩ ⟨T, u, v, rfl, nT, rfl, hu, hv⟩
        obtain ⟨a, ha, rfl⟩ := ref_at hu
        obtain ⟨b, hb, rfl⟩ := ref_at hv
        rw [List.getElem?_drop, Nat.add_comm 1 i] at hb
        obtain ⟨f, hf, hca, hka⟩ := hcf4 i a ha
        obtain ⟨g, hg', hcb, _⟩ := hcf4 (i + 1) b hb
        refine gTup_new rfl ⟨_, _, rfl, _, _, rfl, rfl, ?_⟩
        have s7 := s6.trans (same_upd (o := .tup [.ref a, .ref b]) nT)
        have s8 := s5.trans s7
        have hM7 := hM4.keep s8
        obtain ⟨dx, L, ml, hp, _, _⟩ := id hM7
        have done : ∀ (w : V) (d : PyData) (H8 : Hp), Same (upd H6 T (.tup [.ref a, .ref b])) H8 → Dp K H8 w d → SeqAt.shaped d = true → PyData.eqv d (cDat g) = decide (stepM ls f = some g) → rEqD K w (.ref b) H8 fun y H4 =>
            ∃ acc, H4 D2 = some (.lst acc) ∧ acc.length < sizeLine ∧ upd H4 D2 (.lst (acc ++ [y])) D2 = some (.lst (((stepsOk ls fs).take (i + 1)).map V.bl)) ∧ Same H5 (upd H4 D2 (.lst (acc ++ [y]))) := by
          intro w d H8 s9 hd hsh hev
          refine ⟨d, cDat g, hd, cDat_dp (hcb.keep (s8.trans s9)), hsh, (cDat_lay g).shaped (by decide), ?_⟩
          rw [hev]
          refine ⟨_, s9 _ _ (same_upd nT _ _ hD2), by rw [List.length_map, List.length_take]; exact sz_lt (by omega), ?_, Same.new (s7.trans s9) nD2⟩
          rw [upd_same, stepsOk_take ls hf hg', List.map_append]
          rfl
        refine ⟨rfl, WK.yes (WK.ift ?_)⟩
        refine ⟨_, rfl, p, dx, _, rfl, hp, fM_no _ _ _ (by decide +kernel) (by decide +kernel) (by decide +kernel), _, rfl, p, a, R, ls, f, rfl, hM7, M, hca.keep s8, hka, fun e8 H8 s9 => ?_, fun g' e8 H8 c8 s9 hc8 => ?_⟩
        · refine ⟨_, rfl, done .non .none H8 s9 .non (by decide +kernel) ?_⟩
          rw [eqv_none, e8]
          rfl
        · refine ⟨_, rfl, done (.ref c8) (cDat g') H8 s9 (cDat_dp hc8) ((cDat_lay g').shaped (by decide)) ?_⟩
          rw [cDat_eqv, e8]
          exact decide_eq_decide.mpr ⟨fun z => by rw [z], fun z => Option.some.inj z⟩
      · rintro H6 ⟨hD2, s6⟩
        rw [List.take_of_length_le (by rw [stepsOk_len]; omega)] at hD2
        walk_at "wk"
        refine ⟨D2, _, rfl, .inl (.inl hD2), ?_⟩
        rw [stepsOk_all]
        exact q _ ((s4.trans s5).trans s6)

def sp__law_is_run (K : PySem.W.Frag) : Sp := fun vs H Q _ => ∃ (L P : Addr) (R : Nat) (ml : List Addr) (ls : List Ln) (as : List Addr) (its : List Itm), vs = [.ref L, .int R, .ref P] ∧ LL H L ml ls ∧ MOk R ls ∧ H P = some (.lst (as.map V.ref)) ∧ ItsAt H as its ∧ its.length ≤ 1000 ∧
  ∀ H', Same H H' → Q (.bl (isRunI R ls its)) H'
theorem ok__law_is_run {f : Addr} {fd : FuncData}  (F : Fun K "_law_is_run" "_law_is_run" s__law_is_run f fd) (C__law_step : Cal P w K mg base "_law_step" 1 ["lines", "spot"] (sp__law_step K)) (m_isinstance : mg "isinstance" = none) (m_list : mg "list" = none) (m_len : mg "len" = none) (m_range : mg "range" = none) (m_tuple : mg "tuple" = none) (m_int : mg "int" = none) (m_bool : mg "bool" = none) (m_min : mg "min" = none) : FnOk P w K mg base CX0 2 f fd ["lines", "registers", "run"] (sp__law_is_run K) := by
  refine F.ok sc__law_is_run (fun vs H Q E h => ?_) (fun cdv A outer s H vs Q E hr h => ?_)
  · obtain ⟨L, P, R, ml, ls, as, its, rfl, _⟩ := h
    rfl
  · obtain ⟨L, P, R, ml, ls, as, its, rfl, hL, M, hP, hits, hlen, q⟩ := h
    refine ⟨_, (pss_cons (ps_if (PW.pt (pw_or (pt_not (pt_val (pe_callB call_isi (by rfl) m_isinstance (by decide +kernel) (pa_cons (pv 2) (pa_cons (pe_bltn (v := .ty "list") rfl m_list (by decide +kernel) rfl) pa_nil))))) (pw_or1 (pt_cmpR op_eq (pe_callB call_len_seq (by rfl) m_len (by decide +kernel) (pa_cons (pv 2) pa_nil)) pe_int (nomark _))))) (pss_one (ps_ret pe_bl)) pss_nil)
      (pss_cons (ps_for PassesOwn.never rfl (pi_range1 (by rfl) m_range (pa_cons (pe_callB call_len_seq (by rfl) m_len (by decide +kernel) (pa_cons (pv 2) pa_nil)) pa_nil)) (pg_name (i := 3) sc__law_is_run.nd rfl (.inl rfl)) (pss_cons (ps_set (i := 4) sc__law_is_run.nd rfl (.inl rfl) (pe_ix ix_list (pv 2) (pv 3) (fun _ _ => rfl)))
      (pss_cons (ps_if (PW.pt (pw_or (pt_not (pt_val (pe_callB call_isi (by rfl) m_isinstance (by decide +kernel) (pa_cons (pv 4) (pa_cons (pe_bltn (v := .ty "tuple") rfl m_tuple (by decide +kernel) rfl) pa_nil))))) (pw_or (pt_cmpR op_ne (pe_callB call_len_seq (by rfl) m_len (by decide +kernel) (pa_cons (pv 4) pa_nil)) pe_int (nomark _)) (pw_or (pt_not (pt_val (pe_callB call_isi (by rfl) m_isinstance (by decide +kernel) (pa_cons (pe_ix ix_tup (pv 4) pe_int (fun _ _ => rfl)) (pa_cons (pe_bltn (v := .ty "int") rfl m_int (by decide +kernel) rfl) pa_nil))))) (pw_or1 (pt_val (pe_callB call_isi (by rfl) m_isinstance (by decide +kernel) (pa_cons (pe_ix ix_tup (pv 4) pe_int (fun _ _ => rfl)) (pa_cons (pe_bltn (v := .ty "bool") rfl m_bool (by decide +kernel) rfl) pa_nil))))))))) (pss_one (ps_ret pe_bl)) pss_nil)
      (pss_cons (ps_if (PW.pt (pw_or (pt_cmpR op_lt (pe_ix ix_tup (pv 4) pe_int (fun _ _ => rfl)) pe_int (nomark _)) (pw_or (pt_cmpR op_ge (pe_ix ix_tup (pv 4) pe_int (fun _ _ => rfl)) (pe_callB call_len_seq (by rfl) m_len (by decide +kernel) (pa_cons (pv 0) pa_nil)) (nomark _)) (pw_or (pt_not (pt_val (pe_callB call_isi (by rfl) m_isinstance (by decide +kernel) (pa_cons (pe_ix ix_tup (pv 4) pe_int (fun _ _ => rfl)) (pa_cons (pe_bltn (v := .ty "tuple") rfl m_tuple (by decide +kernel) rfl) pa_nil))))) (pw_or1 (pt_cmpR op_ne (pe_callB call_len_seq (by rfl) m_len (by decide +kernel) (pa_cons (pe_ix ix_tup (pv 4) pe_int (fun _ _ => rfl)) pa_nil)) (pv 1) (nomark _))))))) (pss_one (ps_ret pe_bl)) pss_nil)
      (pss_cons (ps_if (pt_cmpR op_lt (pe_callB (cr_minT rfl) (by rfl) m_min (by decide +kernel) (pa_cons (pe_ix ix_tup (pv 4) pe_int (fun _ _ => rfl)) pa_nil)) pe_int (nomark _)) (pss_one (ps_ret pe_bl)) pss_nil)
      (pss_one (ps_if (PW.pt (pw_and (pt_cmpR op_gt (pv 3) pe_int (nomark _)) (pw_and1 (pt_cmpR (op_neD hr.units) (pe_cal C__law_step hr (by rfl) (pa_cons (pv 0) (pa_cons (pe_ix ix_list (pv 2) (pe_op op_sub (pv 3) pe_int) (fun _ _ => rfl)) pa_nil))) (pv 4) (nomark _))))) (pss_one (ps_ret pe_bl)) pss_nil)))))))
      (pss_one (ps_ret (pe_and (pe_cmpR op_eq (pe_ix ix_tup (pe_ix ix_list (pv 2) pe_int (fun _ _ => rfl)) pe_int (fun _ _ => rfl)) pe_int (nomark _)) (pe_one (pe_cmpR (op_eqD hr.units) (pe_ix ix_list (pv 0) (pe_ix ix_tup (pe_ix ix_list (pv 2) (pe_un un_neg pe_int) (fun _ _ => rfl)) pe_int (fun _ _ => rfl)) (fun _ _ => rfl)) (pe_tup (pa_cons pe_str pa_nil)) (nomark _)))))))), ?_⟩
    rw [st__law_is_run]
    have hal : as.length = its.length := Paired.length hits
    have s0 : Same H H := fun _ _ z => z
    walk_at "wk"
    refine isiB (b := true) (.lst hP) (kit_ty (by decide +kernel)) ?_
    walk_at "wk"
    refine ⟨P, _, rfl, .inl (.inl (.inl hP)), ?_⟩
    rw [List.length_map, hal]
    walk_at "wk"
    rw [dvi]
    refine ite2 (fun e => ?_) (fun e => ?_)
    · have h0 : its.length = 0 := by have := of_decide_eq_true e; omega
      have e1 : its = [] := List.eq_nil_of_length_eq_zero h0
      subst e1
      walk_at "wk"
      exact q H s0
    have l1 : 1 ≤ its.length := by
      by_cases c : its.length = 0
      · exact absurd (decide_eq_true (by omega)) e
      · omega
    walk_at "wk"
    refine ⟨P, _, rfl, .inl (.inl (.inl hP)), ?_⟩
    rw [List.length_map, hal]
    walk_at "wk"
    rw [Int.toNat_natCast]
    refine for_rng (n := its.length) (fun i σ' H' => ∃ c3 c4 : Option V, σ' = [some (.ref L), some (.int R), some (.ref P), c3, c4] ∧ Same H H' ∧ (its.take i).all (Itm.good R ls.length) = true ∧ consec ls ((its.take i).map Itm.cfg) = true) ?_ ?_ ?_
    · exact ⟨none, none, rfl, s0, rfl, rfl⟩
    · rintro i σ' H1 hi ⟨c3, c4, rfl, s1, hg, hcs⟩
      have hI : its[i]? = some its[i] := List.getElem?_eq_getElem hi
      obtain ⟨a, ha, t, haO, htO, hn⟩ := paired_at hits hI
      have tk : its.take (i + 1) = its.take i ++ [its[i]] := by rw [List.take_add_one, hI]; rfl
      have s00 := s1 _ _ haO
      have t00 := s1 _ _ htO
      have ait : ItAt H1 a its[i] := ⟨t, s00, t00, hn⟩
      have q2 : ∀ z, isRunI R ls its = z → ∀ H', Same H1 H' → Q (.bl z) H' := fun z hz H' s' => by rw [← hz]; exact q H' (s1.trans s')
      have s10 : Same H1 H1 := fun _ _ z => z
      have hP1 := s1 _ _ hP
      have hL1 := hL.keep s1
      generalize its[i] = it at hI s00 t00 hn tk ait
      obtain ⟨tp, num, rt, rs⟩ := it
      have s00 : H1 a = some (seqO tp [num, .ref t]) := s00
      have t00 : H1 t = some (seqO rt (rs.map V.int)) := t00
      have bad : (⟨tp, num, rt, rs⟩ : Itm).good R ls.length = false → ∀ H', Same H1 H' → Q (.bl false) H' := fun e => q2 _ (isRunI_not_good hI e)
      have bad : (tp && (numOk ls.length num && regOk R rt rs)) = false → ∀ H', Same H1 H' → Q (.bl false) H' := bad
      walk_at "wk"
      refine ixL_as (.inl (.inl hP1)) (atI_nat (by rw [List.getElem?_map, ha]; rfl)) ?_
      walk_at "wk"
      cases tp with
      | false =>
        refine isiB (b := false) (.lst s00) (kit_ty (by decide +kernel)) ?_
        walk_at "wk"
        exact bad rfl H1 s10
      | true =>
      have s00 : H1 a = some (.tup [num, .ref t]) := s00
      refine isiB (b := true) (.tup s00) (kit_ty (by decide +kernel)) ?_
      walk_at "wk"
      refine ⟨a, _, rfl, .inr (sq_of s00), ?_⟩
      walk_at "wk"
      rw [show ([num, V.ref t] : List V).length = 2 from rfl]
      refine ite2 (fun e => absurd e (by decide +kernel)) (fun _ => ?_)
      walk_at "wk"
      rcases hn with ⟨i0, hi0⟩ | ⟨b, hb⟩
      case inr =>
        have hb : num = .bl b := hb
        subst hb
        refine isiB (b := true) (.bl _) (kit_ty (by decide +kernel)) ?_
        walk_at "wk"
        refine isiB (b := true) (.bl _) (kit_ty (by decide +kernel)) ?_
        walk_at "wk"
        exact bad rfl H1 s10
      have hi0 : num = .int i0 := hi0
      subst hi0
      refine isiB (b := true) (.int _) (kit_ty (by decide +kernel)) ?_
      walk_at "wk"
      refine isiB (b := false) (.int _) (kit_ty (by decide +kernel)) ?_
      walk_at "wk"
      have bad : ((decide (0 ≤ i0) && decide (i0 < (ls.length : Int))) && regOk R rt rs) = false → ∀ H', Same H1 H' → Q (.bl false) H' := bad
      refine ite2 (fun e => ?_) (fun e => ?_)
      · walk_at "wk"
        exact bad (by rw [decide_eq_false (show ¬ 0 ≤ i0 by have := of_decide_eq_true e; omega)]; rfl) H1 s10
      have i00 : 0 ≤ i0 := by
        by_cases z : i0 < 0
        · exact absurd (decide_eq_true z) e
        · omega
      rw [decide_eq_true i00, Bool.true_and] at bad
      walk_at "wk"
      refine ⟨L, _, rfl, .inl (.inl (.inl hL1.1)), ?_⟩
      rw [List.length_map, Paired.length hL1.2]
      walk_at "wk"
      refine ite2 (fun e => ?_) (fun e => ?_)
      · walk_at "wk"
        exact bad (by rw [decide_eq_false (show ¬ i0 < (ls.length : Int) by have := of_decide_eq_true e; omega)]; rfl) H1 s10
      have i01 : i0 < (ls.length : Int) := by
        by_cases z : i0 < (ls.length : Int)
        · exact z
        · exact absurd (decide_eq_true (show i0 ≥ (ls.length : Int) by omega)) e
      rw [decide_eq_true i01, Bool.true_and] at bad
      walk_at "wk"
      cases rt with
      | false =>
        refine isiB (b := false) (.lst t00) (kit_ty (by decide +kernel)) ?_
        walk_at "wk"
        exact bad rfl H1 s10
      | true =>
      have t00 : H1 t = some (.tup (rs.map V.int)) := t00
      have bad : (decide (rs.length = R) && rs.all fun x => decide (0 ≤ x)) = false → ∀ H', Same H1 H' → Q (.bl false) H' := bad
      refine isiB (b := true) (.tup t00) (kit_ty (by decide +kernel)) ?_
      walk_at "wk"
      refine ⟨t, _, rfl, .inr (sq_of t00), ?_⟩
      rw [List.length_map]
      walk_at "wk"
      rw [dvi]
      refine ite2 (fun e => ?_) (fun e => ?_)
      · have ne : ¬ rs.length = R := by
          intro z
          rw [decide_eq_true (show (rs.length : Int) = (R : Int) by omega)] at e
          exact absurd e (by decide)
        walk_at "wk"
        exact bad (by rw [decide_eq_false ne]; rfl) H1 s10
      have eR : rs.length = R := by
        by_cases z : rs.length = R
        · exact z
        · rw [decide_eq_false (show ¬ (rs.length : Int) = (R : Int) by omega)] at e
          exact absurd rfl e
      rw [decide_eq_true eR, Bool.true_and] at bad
      walk_at "wk"
      have r1 := M.r1
      refine ⟨t, rs, rfl, sq_of t00, by omega, fun m hm hle => ?_⟩
      walk_at "wk"
      refine ite2 (fun e => ?_) (fun e => ?_)
      · walk_at "wk"
        refine bad (Bool.eq_false_iff.mpr fun z => ?_) H1 s10
        have h1 := of_decide_eq_true (List.all_eq_true.mp z m hm)
        have h2 : m < 0 := of_decide_eq_true e
        omega
      have m0 : 0 ≤ m := by
        by_cases z : m < 0
        · exact absurd (decide_eq_true z) e
        · omega
      have hall : ∀ x ∈ rs, 0 ≤ x := fun x hx => by have := hle x hx; omega
      have hgood : (⟨true, .int i0, true, rs⟩ : Itm).good R ls.length = true := by
        show (true && ((decide (0 ≤ i0) && decide (i0 < (ls.length : Int))) && (true && (decide (rs.length = R) && rs.all fun x => decide (0 ≤ x))))) = true
        rw [decide_eq_true i00, decide_eq_true i01, decide_eq_true eR, List.all_eq_true.mpr fun x hx => decide_eq_true (hall x hx)]
        rfl
      obtain ⟨cfa, cfo⟩ := good_of hgood ait
      have hg2 : (its.take (i + 1)).all (Itm.good R ls.length) = true := by rw [tk, List.all_append, hg]; simp [hgood]
      walk_at "wk"
      cases i with
      | zero =>
        refine ite2 (fun e => absurd (of_decide_eq_true e) (by decide)) (fun _ => ?_)
        walk_at "wk"
        refine ⟨_, _, rfl, s1, hg2, ?_⟩
        rw [tk]
        rfl
      | succ i =>
        refine ite2 (fun _ => ?_) (fun e => absurd (decide_eq_true (show ((i + 1 : Nat) : Int) > 0 by omega)) e)
        have hI' : its[i]? = some (its[i]'(by omega)) := List.getElem?_eq_getElem (by omega)
        obtain ⟨a', ha', hit'⟩ := paired_at hits hI'
        have hgp : (its[i]'(by omega)).good R ls.length = true := List.all_eq_true.mp hg _ (List.mem_of_getElem? (show (its.take (i + 1))[i]? = _ by rw [List.getElem?_take_of_lt (by omega)]; exact hI'))
        obtain ⟨cfa', cfo'⟩ := good_of hgp (hit'.keep s1)
        generalize its[i]'(by omega) = it' at hI' hit' hgp cfa' cfo'
        have tk' : its.take (i + 1) = its.take i ++ [it'] := by rw [List.take_add_one, hI']; rfl
        walk_at "wk"
        refine ixL_as (.inl (.inl hP1)) (show atI _ _ = _ by rw [show ((i + 1 : Nat) : Int) - 1 = ((i : Nat) : Int) by omega]; exact atI_nat (by rw [List.getElem?_map, ha']; rfl)) ?_
        have q3 : ¬ stepM ls it'.cfg = some (⟨true, .int i0, true, rs⟩ : Itm).cfg → ∀ H', Same H1 H' → Q (.bl false) H' := fun e => q2 _ (isRunI_not_step hI' hI e)
        generalize (⟨true, .int i0, true, rs⟩ : Itm) = it at q3 cfa tk
        refine ⟨L, a', R, ml, ls, it'.cfg, rfl, hL1, M, cfa', cfo', fun e5 H5 s5 => ?_, fun g e5 H5 c5 s5 hc5 => ?_⟩
        · walk_at "wk"
          refine ⟨.none, cDat it.cfg, .non, cDat_dp (cfa.keep s5), by decide +kernel, (cDat_lay _).shaped (by decide), ?_⟩
          rw [eqv_none]
          walk_at "wk"
          exact q3 (by rw [e5]; intro z; cases z) _ s5
        · walk_at "wk"
          refine ⟨cDat g, cDat it.cfg, cDat_dp hc5, cDat_dp (cfa.keep s5), (cDat_lay _).shaped (by decide), (cDat_lay _).shaped (by decide), ?_⟩
          rw [cDat_eqv]
          walk_at "wk"
          refine ite2 (fun e => ?_) (fun e => ?_)
          · have ne : ¬ g = it.cfg := by
              intro z
              rw [decide_eq_true z] at e
              exact absurd e (by decide)
            walk_at "wk"
            exact q3 (by rw [e5]; intro z; exact ne (Option.some.inj z)) _ s5
          · have eg : g = it.cfg := by
              by_cases z : g = it.cfg
              · exact z
              · rw [decide_eq_false z] at e
                exact absurd rfl e
            walk_at "wk"
            refine ⟨_, _, rfl, s1.trans s5, hg2, ?_⟩
            rw [tk, tk', List.map_append, List.map_append, List.append_assoc]
            show consec ls ((its.take i).map Itm.cfg ++ [it'.cfg, it.cfg]) = true
            rw [consec_snoc, e5, eg, decide_eq_true rfl, Bool.and_true]
            rw [tk', List.map_append] at hcs
            exact hcs
    · rintro σ' H1 ⟨c3, c4, rfl, s1, hg, hcs⟩
      rw [List.take_of_length_le (Nat.le_refl _)] at hg hcs
      have hP1 := s1 _ _ hP
      have hL1 := hL.keep s1
      have hcf : ∀ (i : Nat) (a : Addr), as[i]? = some a → ∃ f, (its.map Itm.cfg)[i]? = some f ∧ CfAt H1 a f ∧ CfOk R ls f := by
        intro i a hi
        have li : i < its.length := by have := (List.getElem?_eq_some_iff.mp hi).1; omega
        have hi2 : its[i]? = some its[i] := List.getElem?_eq_getElem li
        obtain ⟨a', ha', hit⟩ := paired_at hits hi2
        obtain rfl : a = a' := Option.some.inj (hi.symm.trans ha')
        obtain ⟨g1, g2⟩ := good_of (List.all_eq_true.mp hg _ (List.mem_of_getElem? hi2)) (hit.keep s1)
        exact ⟨_, by rw [List.getElem?_map, hi2]; rfl, g1, g2⟩
      have q : ∀ H', Same H1 H' → Q (.bl (chkM ls (its.map Itm.cfg))) H' := fun H' s' => by
        have := q H' (s1.trans s')
        unfold isRunI at this
        rw [hg, Bool.true_and] at this
        exact this
      have hfl : (its.map Itm.cfg).length = as.length := by rw [List.length_map, hal]
      generalize its.map Itm.cfg = fs at q hcf hfl hcs
      have a0 : as[0]? = some (as[0]'(by omega)) := List.getElem?_eq_getElem (by omega)
      obtain ⟨f0, hf0, ⟨t0, hc0, ht0⟩, hk0⟩ := hcf 0 _ a0
      generalize as[0]'(by omega) = b0 at a0 hc0
      have al : as[as.length - 1]? = some (as[as.length - 1]'(by omega)) := List.getElem?_eq_getElem (by omega)
      obtain ⟨fl, hfl2, ⟨tl, hcl, _⟩, hkl⟩ := hcf _ _ al
      generalize as[as.length - 1]'(by omega) = bl at al hcl
      have els : lastStop ls fs = decide (ls[fl.1]? = some .stop) := by
        unfold lastStop
        rw [hfl, hfl2]
      have ech : chkM ls fs = (decide (f0.1 = 0) && decide (ls[fl.1]? = some .stop)) := by
        rw [← els]
        cases fs with
        | nil => simp at hf0
        | cons f r =>
          simp at hf0
          subst hf0
          show (decide (f.1 = 0) && (lastStop ls (f :: r) && consec ls (f :: r))) = _
          rw [hcs, Bool.and_true]
      rw [ech] at q
      walk_at "wk"
      refine ixL_as (.inl (.inl hP1)) (show atI _ ((0 : Nat) : Int) = _ from atI_nat (by rw [List.getElem?_map, a0]; rfl)) ?_
      walk_at "wk"
      rw [dvi, show decide ((f0.1 : Int) = 0) = decide (f0.1 = 0) from decide_eq_decide.mpr (by omega)]
      refine ite2 (fun e => ?_) (fun e => ?_)
      · rw [e, Bool.true_and] at q
        walk_at "wk"
        refine ixL_as (.inl (.inl hP1)) (show atI _ (-((1 : Nat) : Int)) = _ from atI_neg (by decide) (by rw [List.length_map]; omega) (by rw [List.length_map, List.getElem?_map, al]; rfl)) ?_
        walk_at "wk"
        have hi : ls[fl.1]? = some (ls[fl.1]'hkl.1) := List.getElem?_eq_getElem hkl.1
        obtain ⟨a, ha, hla⟩ := paired_at hL1.2 hi
        rw [hi] at q
        generalize ls[fl.1]'hkl.1 = l at hla q
        refine ixL_as (.inl (.inl hL1.1)) (atI_nat (by rw [List.getElem?_map, ha]; rfl)) ?_
        walk_at "wk"
        intro z nz
        have s2 := same_upd (o := .tup [V.str (Str.ofString "stop")]) nz
        refine ⟨l.dat, Ln.stop.dat, LsAt.dp (s2 _ _ hla), LsAt.dp (l := .stop) upd_same, (lay_ln l).shaped (by decide), (lay_ln .stop).shaped (by decide), ?_⟩
        rw [eqv_stop]
        rw [show decide (some l = some Ln.stop) = decide (l = Ln.stop) from decide_eq_decide.mpr ⟨fun z => Option.some.inj z, fun z => by rw [z]⟩] at q
        exact q _ s2
      · rw [Bool.eq_false_iff.mpr e, Bool.false_and] at q
        exact q H1 fun _ _ z => z

def sp_law (K : PySem.W.Frag) : Sp := fun vs H Q _ => ∃ (a : Addr) (ns : List Int), vs = [.ref a] ∧ SqL K H a (ns.map V.int) ∧ ns.length ≤ 63 ∧ ∀ H', Q (.bl true) H'
theorem ok_law {f : Addr} {fd : FuncData} {c_Machine : Addr} (F : Fun K "law" "law" s_law f fd) (C__law_numbers : Cal P w K mg base "_law_numbers" 1 ["script", "many"] (sp__law_numbers K)) (C__law_machine : Cal P w K mg base "_law_machine" 2 ["numbers", "place"] (sp__law_machine K)) (C_Machine___init__ : CalI P w K mg base c_Machine "Machine" 5 ["self", "registers", "lines"] (sp_Machine___init__ K c_Machine)) (C_Machine_table : CalM P w K mg base c_Machine "table" 1 ["self"] (sp_Machine_table K c_Machine)) (C__law_inputs : Cal P w K mg base "_law_inputs" 2 ["numbers", "place", "registers"] (sp__law_inputs K)) (C__law_run : Cal P w K mg base "_law_run" 2 ["lines", "inputs", "most"] (sp__law_run K)) (C_Machine_run : CalM P w K mg base c_Machine "run" 5 ["self", "inputs", "most"] (sp_Machine_run K c_Machine)) (C__law_nearly : Cal P w K mg base "_law_nearly" 1 ["run", "number"] (sp__law_nearly K)) (C__law_take : Cal P w K mg base "_law_take" 1 ["numbers", "place"] (sp__law_take K)) (C__law_same : Cal P w K mg base "_law_same" 4 ["actual", "expected"] (sp__law_same K)) (C_is_run : Cal P w K mg base "is_run" 5 ["machine", "value"] (sp_is_run K c_Machine)) (C__law_is_run : Cal P w K mg base "_law_is_run" 2 ["lines", "registers", "run"] (sp__law_is_run K)) (C_Machine_line : CalM P w K mg base c_Machine "line" 3 ["self", "number"] (sp_Machine_line K c_Machine)) (C_Machine_step : CalM P w K mg base c_Machine "step" 4 ["self", "configuration"] (sp_Machine_step K c_Machine)) (C__law_step : Cal P w K mg base "_law_step" 1 ["lines", "spot"] (sp__law_step K)) (C_stops : Cal P w K mg base "stops" 4 ["machine", "run"] (sp_stops K c_Machine)) (m_list : mg "list" = none) (m_range : mg "range" = none) (m_len : mg "len" = none) (m_isinstance : mg "isinstance" = none) (m_tuple : mg "tuple" = none) (T_Machine : Tx_Machine K c_Machine) : FnOk P w K mg base CX0 7 f fd ["script"] (sp_law K) := by
  refine F.ok sc_law (fun vs H Q E h => ?_) (fun cdv A outer s H vs Q E hr h => ?_)
  · obtain ⟨a, ns, rfl, _⟩ := h
    rfl
  · obtain ⟨sa, ns, rfl, hS, hlen, q⟩ := h
    refine ⟨_, (pss_cons (ps_set (i := 1) sc_law.nd rfl (.inl rfl) (pe_cal C__law_numbers (hr.mono (by decide)) (by rfl) (pa_cons (pv 0) (pa_cons pe_int pa_nil))))
      (pss_cons (ps_set (i := 2) sc_law.nd rfl (.inl rfl) (pe_lst (pa_cons pe_int pa_nil)))
      (pss_cons (ps_set (i := 3) sc_law.nd rfl (.inr rfl) (pe_lst (pa_cons (pe_cal C__law_machine (hr.mono (by decide)) (by rfl) (pa_cons (pv 1) (pa_cons (pv 2) pa_nil))) (pa_cons (pe_cal C__law_machine (hr.mono (by decide)) (by rfl) (pa_cons (pv 1) (pa_cons (pv 2) pa_nil))) pa_nil))))
      (pss_cons (ps_set (i := 4) sc_law.nd rfl (.inr rfl) (pe_lst (pa_cons (pe_callTy call_list_of (by rfl) m_list (by decide +kernel) (pa_cons (pe_ix ix_tup (pe_ix ix_list (pv 3) pe_int (fun _ _ => rfl)) pe_int (fun _ _ => rfl)) pa_nil)) (pa_cons (pe_callTy call_list_of (by rfl) m_list (by decide +kernel) (pa_cons (pe_ix ix_tup (pe_ix ix_list (pv 3) pe_int (fun _ _ => rfl)) pe_int (fun _ _ => rfl)) pa_nil)) pa_nil))))
      (pss_cons (ps_setLc (i := 6) (own := [("k", 5)]) (g := (gName 5)) (by rfl) sc_law.nd rfl rfl (sw_true rfl rfl rfl (by decide +kernel)) (pi_range1 (by rfl) m_range (pa_cons pe_int pa_nil)) (blkOk_by (own := [("k", 5)]) (N := ["script", "numbers", "place", "drawn", "given", "k", "machines", "registers", "lines", "machine", "table", "inputs", "most", "expected", "actual", "done", "changed", "j"]) (sc := defScope s_law) (by decide +kernel)) (fun _ _ _ _ _ => (pg_name (i := 5) sc_law.nd rfl (Or.inl rfl))) (fun _ _ _ _ _ => pts_nil) (fun _ _ _ _ _ => (pe_mk C_Machine___init__ hr (by rfl) (pa_cons (pe_ix (show IxR _ (rIxT K) from ix_tup) (pe_ix (show IxR _ (rIxL K) from ix_list) (pv 3) (pv 5) (fun _ _ => rfl)) pe_int (fun _ _ => rfl)) (pa_cons (pe_ix (show IxR _ (rIxL K) from ix_list) (pv 4) (pv 5) (fun _ _ => rfl)) pa_nil)))))
      (pss_cons (ps_expr (pe_bm PySem.F.plainAttrs_list PySem.F.slot_list_append PySem.F.type_list_append mt_append (pe_ix ix_list (pv 4) pe_int (fun _ _ => rfl)) (pa_cons (pe_tup (pa_cons pe_str pa_nil)) pa_nil)))
      (pss_cons (ps_for PassesOwn.never rfl (pi_tup (pe_tup (pa_cons pe_int (pa_cons pe_int (pa_cons pe_int pa_nil))))) (pg_name (i := 5) sc_law.nd rfl (.inl rfl)) (pss_cons (ps_set (i := 7) sc_law.nd rfl (.inl rfl) (pe_ix ix_tup (pe_ix ix_list (pv 3) (pv 5) (fun _ _ => rfl)) pe_int (fun _ _ => rfl)))
      (pss_cons (ps_set (i := 8) sc_law.nd rfl (.inl rfl) (pe_ix ix_tup (pe_ix ix_list (pv 3) (pv 5) (fun _ _ => rfl)) pe_int (fun _ _ => rfl)))
      (pss_cons (ps_set (i := 9) sc_law.nd rfl (.inr rfl) (pe_ix ix_list (pv 6) (pv 5) (fun _ _ => rfl)))
      (pss_cons (ps_set (i := 10) sc_law.nd rfl (.inl rfl) (pe_mth0 C_Machine_table T_Machine.cl (hr.mono (by decide)) (pv 9)))
      (pss_cons (ps_if (PW.pt (pw_or (pt_cmpR op_ne (pe_fld (pv 9) rfl) (pv 7) (nomark _)) (pw_or (pt_cmpR op_ne (pe_fld (pv 9) rfl) (pe_callB call_len_seq (by rfl) m_len (by decide +kernel) (pa_cons (pv 8) pa_nil)) (nomark _)) (pw_or1 (pt_cmpR (op_neD hr.units) (pv 10) (pv 8) (nomark _)))))) (pss_one (ps_ret pe_bl)) pss_nil)
      (pss_cons (ps_expr (pe_bm PySem.F.plainAttrs_list PySem.F.slot_list_append PySem.F.type_list_append mt_append (pv 10) (pa_cons (pe_tup (pa_cons pe_str pa_nil)) pa_nil)))
      (pss_cons (ps_if (pt_cmpR (op_neD hr.units) (pe_lc (own := [("j", 17)]) (g := (gName 17)) (by rfl) sc_law.nd (pi_range1 (by rfl) m_range (pa_cons (pe_callB call_len_seq (by rfl) m_len (by decide +kernel) (pa_cons (pv 8) pa_nil)) pa_nil)) (blkOk_by (own := [("j", 17)]) (N := ["script", "numbers", "place", "drawn", "given", "k", "machines", "registers", "lines", "machine", "table", "inputs", "most", "expected", "actual", "done", "changed", "j"]) (sc := defScope s_law) (by decide +kernel)) (fun _ _ _ _ _ => (pg_name (i := 17) sc_law.nd rfl (Or.inl rfl))) (fun _ _ _ _ _ => pts_nil) (fun _ _ _ _ _ => (pe_mth C_Machine_line T_Machine.cl (hr.mono (by decide)) (pv 9) (pa_cons (pv 17) pa_nil)))) (pv 8) (nomark _)) (pss_one (ps_ret pe_bl)) pss_nil)
      (pss_cons (ps_set (i := 11) sc_law.nd rfl (.inl rfl) (pe_cal C__law_inputs (hr.mono (by decide)) (by rfl) (pa_cons (pv 1) (pa_cons (pv 2) (pa_cons (pv 7) pa_nil)))))
      (pss_cons (ps_set (i := 12) sc_law.nd rfl (.inl rfl) (pe_op op_mod (pe_cal C__law_take (hr.mono (by decide)) (by rfl) (pa_cons (pv 1) (pa_cons (pv 2) pa_nil))) pe_int))
      (pss_cons (ps_set (i := 13) sc_law.nd rfl (.inl rfl) (pe_cal C__law_run (hr.mono (by decide)) (by rfl) (pa_cons (pv 8) (pa_cons (pv 11) (pa_cons (pv 12) pa_nil)))))
      (pss_cons (ps_set (i := 14) sc_law.nd rfl (.inl rfl) (pe_mth C_Machine_run T_Machine.cl (hr.mono (by decide)) (pv 9) (pa_cons (pv 11) (pa_cons (pv 12) pa_nil))))
      (pss_cons (ps_if (PW.pt (pw_or (pt_not (pt_val (pe_callB call_isi (by rfl) m_isinstance (by decide +kernel) (pa_cons (pv 14) (pa_cons (pe_bltn (v := .ty "list") rfl m_list (by decide +kernel) rfl) pa_nil))))) (pw_or1 (pt_not (pt_val (pe_cal C__law_same (hr.mono (by decide)) (by rfl) (pa_cons (pe_callTy call_tuple_of (by rfl) m_tuple (by decide +kernel) (pa_cons (pv 14) pa_nil)) (pa_cons (pe_callTy call_tuple_of (by rfl) m_tuple (by decide +kernel) (pa_cons (pv 13) pa_nil)) pa_nil)))))))) (pss_one (ps_ret pe_bl)) pss_nil)
      (pss_cons (ps_if (pt_not (pt_val (pe_cal C__law_same (hr.mono (by decide)) (by rfl) (pa_cons (pe_mth C_Machine_step T_Machine.cl (hr.mono (by decide)) (pv 9) (pa_cons (pe_ix ix_list (pv 13) (pe_un un_neg pe_int) (fun _ _ => rfl)) pa_nil)) (pa_cons (pe_cal C__law_step (hr.mono (by decide)) (by rfl) (pa_cons (pv 8) (pa_cons (pe_ix ix_list (pv 13) (pe_un un_neg pe_int) (fun _ _ => rfl)) pa_nil))) pa_nil))))) (pss_one (ps_ret pe_bl)) pss_nil)
      (pss_cons (ps_set (i := 15) sc_law.nd rfl (.inl rfl) (pe_cmpR (op_eqD hr.units) (pe_ix ix_list (pv 8) (pe_ix ix_tup (pe_ix ix_list (pv 13) (pe_un un_neg pe_int) (fun _ _ => rfl)) pe_int (fun _ _ => rfl)) (fun _ _ => rfl)) (pe_tup (pa_cons pe_str pa_nil)) (nomark _)))
      (pss_cons (ps_if (PW.pt (pw_or (pt_cmpR op_ne (pe_cal C_stops (hr.mono (by decide)) (by rfl) (pa_cons (pv 9) (pa_cons (pv 13) pa_nil))) (pv 15) (nomark _)) (pw_or1 (pt_cmpR op_ne (pe_cal C_is_run (hr.mono (by decide)) (by rfl) (pa_cons (pv 9) (pa_cons (pv 13) pa_nil))) (pv 15) (nomark _))))) (pss_one (ps_ret pe_bl)) pss_nil)
      (pss_cons (ps_set (i := 16) sc_law.nd rfl (.inl rfl) (pe_cal C__law_nearly (hr.mono (by decide)) (by rfl) (pa_cons (pv 13) (pa_cons (pe_cal C__law_take (hr.mono (by decide)) (by rfl) (pa_cons (pv 1) (pa_cons (pv 2) pa_nil))) pa_nil))))
      (pss_one (ps_if (pt_cmpR op_ne (pe_cal C_is_run (hr.mono (by decide)) (by rfl) (pa_cons (pv 9) (pa_cons (pv 16) pa_nil))) (pe_cal C__law_is_run (hr.mono (by decide)) (by rfl) (pa_cons (pv 8) (pa_cons (pv 7) (pa_cons (pv 16) pa_nil)))) (nomark _)) (pss_one (ps_ret pe_bl)) pss_nil)))))))))))))))))))
      (pss_one (ps_ret (pe_and (pe_cmpR op_is_bl (pe_cal C_is_run (hr.mono (by decide)) (by rfl) (pa_cons (pe_ix ix_list (pv 6) pe_int (fun _ _ => rfl)) (pa_cons pe_non pa_nil))) pe_bl (nomark _)) (pe_one (pe_cmpR op_is_bl (pe_cal C_is_run (hr.mono (by decide)) (by rfl) (pa_cons (pe_ix ix_list (pv 6) pe_int (fun _ _ => rfl)) (pa_cons (pe_tup pa_nil) pa_nil))) pe_bl (nomark _))))))))))))), ?_⟩
    rw [st_law]
    walk_at "wk"
    refine ⟨sa, ns, 110, rfl, hS, hlen, by decide, fun H1 l ds s1 nl hl hdl hds => ?_⟩
    walk_at "wk"
    intro p np
    have T0 : TK (upd H1 p (.lst [.int 0])) l p ds := ⟨by rw [upd_ne (ne_of_none hl np)]; exact hl, ne_of_none hl np, by omega, ⟨0, upd_same⟩, hds⟩
    generalize upd H1 p (.lst [.int 0]) = H2 at T0 ⊢
    walk_at "wk"
    refine ⟨l, p, ds, rfl, T0, fun Ta La Ra aa la H3 K3 x3 nTa nLa hTa hLa Ma => ?_⟩
    walk_at "wk"
    refine ⟨l, p, ds, rfl, K3, fun Tb Lb Rb ab lb H4 K4 x4 nTb nLb hTb hLb Mb => ?_⟩
    walk_at "wk"
    have Lap : La ≠ p := T0.newp nLa
    have Lbp : Lb ≠ p := K3.newp nLb
    have Tap : Ta ≠ p := T0.newp nTa
    have hTa := x4 _ _ Tap hTa
    have hLa := hLa.ex x4 Lap K3.pl
    clear K3 x3 x4 nTa nTb
    intro Dr nDr
    have Drp := K4.newp nDr
    have s5 := same_upd (o := .lst [.ref Ta, .ref Tb]) nDr
    have hDr : (upd H4 Dr (.lst [.ref Ta, .ref Tb])) Dr = some (.lst [.ref Ta, .ref Tb]) := upd_same
    have K5 := K4.keep s5
    have hTa := s5 _ _ hTa
    have hTb := s5 _ _ hTb
    have hLa := hLa.keep s5
    have hLb := hLb.keep s5
    generalize upd H4 Dr (.lst [.ref Ta, .ref Tb]) = H5 at s5 hDr K5 hTa hTb hLa hLb ⊢
    walk_at "wk"
    refine ⟨La, _, rfl, .inl (.inl (.inl hLa.1)), fun Ga nGa => ?_⟩
    have s6 := same_upd (o := .lst (aa.map V.ref)) nGa
    have hGa : LL (upd H5 Ga (.lst (aa.map V.ref))) Ga aa la := ⟨upd_same, LsAt.keep hLa.2 s6⟩
    have Gap := K5.newp nGa
    have nlGa := ne_at K5.l_ nGa
    have nGaDr : Ga ≠ Dr := (ne_at hDr nGa).symm
    have hDr : (upd H5 Ga (.lst (aa.map V.ref))) Dr = some (.lst (([Ta, Tb] : List Addr).map V.ref)) := s6 _ _ hDr
    have K6 := K5.keep s6
    have hTa := s6 _ _ hTa
    have hTb := s6 _ _ hTb
    have nLa6 := ne_at hLa.1 nGa
    have nLb6 := ne_at hLb.1 nGa
    have hLa := hLa.keep s6
    have hLb := hLb.keep s6
    generalize upd H5 Ga (.lst (aa.map V.ref)) = H6 at s6 hGa hDr K6 hTa hTb hLa hLb ⊢
    dsimp only
    walk_at "wk"
    refine ⟨Lb, _, rfl, .inl (.inl (.inl hLb.1)), fun Gb nGb => ?_⟩
    have s7 := same_upd (o := .lst (ab.map V.ref)) nGb
    have hGb : LL (upd H6 Gb (.lst (ab.map V.ref))) Gb ab lb := ⟨upd_same, LsAt.keep hLb.2 s7⟩
    have nGG := ne_at hGa.1 nGb
    have hGa := hGa.keep s7
    have hDr := s7 _ _ hDr
    have K7 := K6.keep s7
    have hTa := s7 _ _ hTa
    have hTb := s7 _ _ hTb
    have hLa := hLa.keep s7
    have hLb := hLb.keep s7
    generalize upd H6 Gb (.lst (ab.map V.ref)) = H7 at s7 hGa hGb hDr K7 hTa hTb hLa hLb ⊢
    dsimp only
    walk_at "wk"
    intro Gv nGv
    have s8 := same_upd (o := .lst [.ref Ga, .ref Gb]) nGv
    have hGv : (upd H7 Gv (.lst [.ref Ga, .ref Gb])) Gv = some (.lst (([Ga, Gb] : List Addr).map V.ref)) := upd_same
    have nGaGv := ne_at hGa.1 nGv
    have hGa := hGa.keep s8
    have hGb := hGb.keep s8
    have hDr := s8 _ _ hDr
    have K8 := K7.keep s8
    have hTa := s8 _ _ hTa
    have hTb := s8 _ _ hTb
    have hLa := hLa.keep s8
    have hLb := hLb.keep s8
    generalize upd H7 Gv (.lst [.ref Ga, .ref Gb]) = H8 at s8 hGv hGa hGb hDr K8 hTa hTb hLa hLb ⊢
    have pick : ∀ i, i < 2 → ∃ (T L G : Addr) (R : Nat) (as : List Addr) (ls : List Ln), ([Ta, Tb] : List Addr)[i]? = some T ∧ ([Ga, Gb] : List Addr)[i]? = some G ∧ H8 T = some (.tup [.int R, .ref L]) ∧ LL H8 L as ls ∧ LL H8 G as ls ∧ MOk R ls ∧ ((i = 0 ∧ T = Ta ∧ L = La ∧ R = Ra ∧ as = aa ∧ ls = la) ∨ (i = 1 ∧ T = Tb ∧ L = Lb ∧ R = Rb ∧ as = ab ∧ ls = lb)) := by
      intro i hi
      match i, hi with
      | 0, _ => exact ⟨Ta, La, Ga, Ra, aa, la, rfl, rfl, hTa, hLa, hGa, Ma, .inl ⟨rfl, rfl, rfl, rfl, rfl, rfl⟩⟩
      | 1, _ => exact ⟨Tb, Lb, Gb, Rb, ab, lb, rfl, rfl, hTb, hLb, hGb, Mb, .inr ⟨rfl, rfl, rfl, rfl, rfl, rfl⟩⟩
    have hDr8 := hDr
    walk_at "wk"
    intro Mc nMc
    have McGa := ne_at hGa.1 nMc
    refine lc_it (walk_range (lo := 0) (n := 2)) (fun i H' => ∃ ms : List Addr, ms.length = i ∧ H' Mc = some (.lst (ms.map V.ref)) ∧ Same H8 H' ∧ (∀ m, ms[0]? = some m → MA c_Machine H' m Ra la) ∧ (∀ m, ms[1]? = some m → MA c_Machine H' m Rb lb)) ?_ (fun _ _ _ _ => trivial) ?_ ?_
    · exact ⟨[], rfl, upd_same, same_upd nMc, fun m e => by simp at e, fun m e => by simp at e⟩
    · rintro i x H9 H9' li ⟨ms, hml, hMc, s9, hm0, hm1⟩ ⟨rfl, rfl⟩
      obtain ⟨T, L, G, R, as, ls, hT, hG, hTt, hLL, hGL, hMO, hwh⟩ := pick i li
      refine ⟨rfl, WK.yes (WK.ift ?_)⟩
      have ei : V.int (0 + ((i : Nat) : Int)) = V.int (i : Nat) := by congr 1; omega
      dsimp only
      rw [ei]
      refine ⟨_, rfl, _, rfl, ixL_as (.inl (.inl (s9 _ _ hDr))) (atI_nat (by rw [List.getElem?_map, hT]; rfl)) ?_⟩
      refine WK.cst (ixT_as (sq_of (s9 _ _ hTt)) at0 ?_)
      refine ⟨_, rfl, _, rfl, ixL_as (.inl (.inl (s9 _ _ hGv))) (atI_nat (by rw [List.getElem?_map, hG]; rfl)) (fun m dx nm ndx ne => ?_)⟩
      have nm2 : (upd H9' dx (.own m)) m = none := by rw [upd_ne ne.symm]; exact nm
      have s10 := (same_upd (o := .own m) ndx).trans (same_upd (o := .ins c_Machine dx []) nm2)
      refine ⟨m, dx, G, R, as, ls, rfl, upd_same, (hGL.keep s9).keep s10, hMO, fun H10 hMA kp => ⟨rfl, ?_⟩⟩
      have s11 : Same H9' H10 := fun b o e => kp b o (s10 _ _ e) (ne_at e nm)
      have hMc10 := s11 _ _ hMc
      have ex : Ex Mc H10 (upd H10 Mc (.lst (ms.map V.ref ++ [.ref m]))) := fun b o n e => by rw [upd_ne n]; exact e
      have mx : ∀ {m' : Addr} {R' : Nat} {l' : List Ln}, MA c_Machine H10 m' R' l' → MA c_Machine (upd H10 Mc (.lst (ms.map V.ref ++ [.ref m]))) m' R' l' := fun h => h.ex ex (lst_ntup hMc10) (fun c d f e => by rw [hMc10] at e; cases e)
      refine ⟨_, hMc10, by rw [List.length_map]; exact sz_lt (by omega), ms ++ [m], by rw [List.length_append, hml]; rfl, by rw [upd_same, List.map_append]; rfl, Same.new (s9.trans s11) nMc, fun m' e => ?_, fun m' e => ?_⟩
      · rcases hwh with ⟨rfl, _, _, rfl, rfl, rfl⟩ | ⟨rfl, _, _, rfl, rfl, rfl⟩
        · have : ms = [] := List.eq_nil_of_length_eq_zero hml
          subst this
          obtain rfl : m = m' := Option.some.inj e
          exact mx hMA
        · rw [List.getElem?_append_left (by omega)] at e
          exact mx ((hm0 m' e).keep s11)
      · rcases hwh with ⟨rfl, _, _, rfl, rfl, rfl⟩ | ⟨rfl, _, _, rfl, rfl, rfl⟩
        · have : ms = [] := List.eq_nil_of_length_eq_zero hml
          subst this
          simp at e
        · rw [List.getElem?_append_right (by omega), hml] at e
          obtain rfl : m = m' := Option.some.inj e
          exact mx hMA
    · rintro H9 ⟨ms, hml, hMc, s9, hm0, hm1⟩
      obtain ⟨ma, mb, rfl⟩ : ∃ ma mb, ms = [ma, mb] := by
        match ms, hml with
        | [ma, mb], _ => exact ⟨ma, mb, rfl⟩
      have hma := hm0 ma rfl
      have hmb := hm1 mb rfl
      have K9 := K8.keep s9
      have Ba : MB c_Machine H9 Ta La ma Ra aa la := ⟨s9 _ _ hTa, hLa.keep s9, hma⟩
      have Bb : MB c_Machine H9 Tb Lb mb Rb ab lb := ⟨s9 _ _ hTb, hLb.keep s9, hmb⟩
      have hDr := s9 _ _ hDr
      have hGv := s9 _ _ hGv
      have hGa1 := s9 _ _ hGa.1
      have Gal : aa.length < 100 := by rw [Paired.length hLa.2]; have := Ma.l12; omega
      have McDr : Mc ≠ Dr := (ne_at hDr8 nMc).symm
      have Mcp : Mc ≠ p := K8.newp nMc
      have GaDr : Ga ≠ Dr := nGaDr
      have lGa : l ≠ Ga := nlGa
      clear hm0 hm1 hml pick nMc s9 hma hmb hTa hTb hLa hLb hGa hGb K8 nGv nGG nGaGv nLa nLb T0
      walk_at "wk"
      intro tt ntt
      have s10 := same_upd (o := .tup [V.str (Str.ofString "stop")]) ntt
      walk_at "wk"
      refine app_go (s10 _ _ hGa1) (by rw [List.length_map]; exact sz_lt (by omega)) ?_
      have B : LB c_Machine (upd (upd H9 tt (.tup [V.str (Str.ofString "stop")])) Ga (.lst (aa.map V.ref ++ [.ref tt]))) l p Dr Mc Ta La ma Tb Lb mb ds Ra Rb aa ab la lb :=
        ⟨K9.off s10 lGa Gap.symm, by rw [upd_ne GaDr.symm]; exact s10 _ _ hDr, by rw [upd_ne McGa.symm]; exact s10 _ _ hMc, (Ba.keep s10).off (s10 _ _ hGa1) nLa6, (Bb.keep s10).off (s10 _ _ hGa1) nLb6, Drp, Mcp, Lap, Lbp⟩
      clear hDr hMc Ba Bb K9 s10 hGa1 hGv ntt
      generalize upd (upd H9 tt (.tup [V.str (Str.ofString "stop")])) Ga (.lst (aa.map V.ref ++ [.ref tt])) = H10 at B ⊢
      walk_at "wk"
      intro K3 nK3
      have s11 := same_upd (o := .tup [.int 0, .int 1, .int 0]) nK3
      have hK3 : (upd H10 K3 (.tup [.int 0, .int 1, .int 0])) K3 = some (.tup [.int 0, .int 1, .int 0]) := upd_same
      have B := B.keep s11
      have K3p : K3 ≠ p := by
        intro e
        have := B.k.pl
        exact this _ (by rw [← e]; exact hK3)
      generalize upd H10 K3 (.tup [.int 0, .int 1, .int 0]) = H11 at B hK3 ⊢
      walk_at "wk"
      refine ⟨K3, rfl, ⟨_, sq_of hK3⟩, ?_⟩
      refine for_it (walk_tup (K := K) (a := K3) (xs := [.int 0, .int 1, .int 0])) (fun i σ' H' => ∃ c5 c7 c8 c9 c10 c11 c12 c13 c14 c15 c16 : Option V, σ' = [some (.ref sa), some (.ref l), some (.ref p), some (.ref Dr), some (.ref Gv), c5, some (.ref Mc), c7, c8, c9, c10, c11, c12, c13, c14, c15, c16, none] ∧
        LB c_Machine H' l p Dr Mc Ta La ma Tb Lb mb ds Ra Rb aa ab la lb ∧ H' K3 = some (.tup [.int 0, .int 1, .int 0])) ?_ ?_ ?_ ?_
      · exact ⟨_, _, _, _, _, _, _, _, _, _, _, rfl, B, hK3⟩
      · rintro i σ' H' _ ⟨_, _, _, _, _, _, _, _, _, _, _, _, _, h⟩
        exact sq_of h
      · rintro i x σ' H12 H13 li ⟨c5, c7, c8, c9, c10, c11, c12, c13, c14, c15, c16, rfl, B, hK3⟩ ⟨rfl, hx⟩
        obtain ⟨z, hz, rfl⟩ : ∃ z : Int, (z = 0 ∨ z = 1) ∧ x = .int z := by
          match i with
          | 0 => exact ⟨0, .inl rfl, (Option.some.inj hx).symm⟩
          | 1 => exact ⟨1, .inr rfl, (Option.some.inj hx).symm⟩
          | 2 => exact ⟨0, .inl rfl, (Option.some.inj hx).symm⟩
          | i + 3 => exact absurd li (by show ¬ i + 3 < 3; omega)
        obtain ⟨T, L, m, R, as, ls, hT, hm, MO, hB⟩ := B.pick Ma Mb hz
        have B0 := hB B
        walk_at "wk"
        refine ixL_as (.inl (.inl B.d)) hT ?_
        refine WK.cst (ixT_as (sq_of B0.t) at0 ?_)
        walk_at "wk"
        refine ixL_as (.inl (.inl B.d)) hT ?_
        refine WK.cst (ixT_as (sq_of B0.t) at1 ?_)
        walk_at "wk"
        refine ixL_as (.inl (.inl B.c)) hm ?_
        walk_at "wk"
        have no : ∀ (R S : Nat) (L : Addr), (fM R S L).lookup ("table" : Str) = none ∧ (fM R S L).lookup ("line" : Str) = none ∧ (fM R S L).lookup ("run" : Str) = none ∧ (fM R S L).lookup ("step" : Str) = none := fun R S L =>
          ⟨fM_no R S L (by decide +kernel) (by decide +kernel) (by decide +kernel), fM_no R S L (by decide +kernel) (by decide +kernel) (by decide +kernel), fM_no R S L (by decide +kernel) (by decide +kernel) (by decide +kernel), fM_no R S L (by decide +kernel) (by decide +kernel) (by decide +kernel)⟩
        obtain ⟨dx, Lm, am, hp, _, _⟩ := B0.m
        refine ⟨m, dx, _, rfl, hp, (no _ _ _).1, ?_⟩
        walk_at "wk"
        refine ⟨m, R, ls, rfl, B0.m, fun H14 tb ta s14 ntb LLt => ?_⟩
        have hp14 := s14 _ _ hp
        have B14 := B.keep s14
        have B014 := hB B14
        walk_at "wk"
        refine ⟨m, c_Machine, dx, _, _, rfl, hp14, T_Machine.cl, T_Machine.n_registers, fM_r _ _ _, ?_⟩
        walk_at "wk"
        rw [dvi, decide_eq_true rfl]
        walk_at "wk"
        refine ⟨m, c_Machine, dx, _, _, rfl, hp14, T_Machine.cl, T_Machine.n_size, fM_s _ _ _, ?_⟩
        walk_at "wk"
        refine ⟨L, _, rfl, .inl (.inl (.inl B014.l.1)), ?_⟩
        rw [List.length_map, Paired.length B014.l.2]
        walk_at "wk"
        rw [dvi, decide_eq_true rfl]
        walk_at "wk"
        refine ⟨.list (ls.map Ln.dat), .list (ls.map Ln.dat), .lst (.inl (.inl LLt.1)) (lns_all LLt.2), .lst (.inl (.inl B014.l.1)) (lns_all B014.l.2), (lay_lns ls).shaped (by decide), (lay_lns ls).shaped (by decide), ?_⟩
        rw [lns_eqv]
        have htb := LLt.1
        have hta : ta.length < 100 := by rw [Paired.length LLt.2]; have := MO.l12; omega
        walk_at "wk"
        intro st nst
        have s15 := same_upd (o := .tup [V.str (Str.ofString "stop")]) nst
        walk_at "wk"
        refine app_go (s15 _ _ htb) (by rw [List.length_map]; exact sz_lt (by omega)) ?_
        have s16 : Same H13 (upd (upd H14 st (.tup [V.str (Str.ofString "stop")])) tb (.lst (ta.map V.ref ++ [.ref st]))) := Same.new (s14.trans s15) ntb
        clear s14 s15 LLt htb nst ntb B14 B014 hp14
        generalize upd (upd H14 st (.tup [V.str (Str.ofString "stop")])) tb (.lst (ta.map V.ref ++ [.ref st])) = H16 at s16 ⊢
        have hK3 := s16 _ _ hK3
        have hp := s16 _ _ hp
        have B := B.keep s16
        have B0 := hB B
        clear s16
        have l12 := MO.l12
        walk_at "wk"
        refine ⟨L, _, rfl, .inl (.inl (.inl B0.l.1)), ?_⟩
        rw [List.length_map, Paired.length B0.l.2]
        walk_at "wk"
        rw [Int.toNat_natCast]
        try walk_at "wk"
        intro D nD
        refine lc_it (walk_range (lo := 0) (n := ls.length)) (fun i H' => ∃ xs : List Addr, H' D = some (.lst (xs.map V.ref)) ∧ LsAt H' xs (ls.take i) ∧ Same H16 H') ?_ (fun _ _ _ _ => trivial) ?_ ?_
        · exact ⟨[], upd_same, .nil, same_upd nD⟩
        · rintro i x H17 H18 li ⟨xs, hD, hxs, s17⟩ ⟨rfl, rfl⟩
          have ei : V.int (0 + ((i : Nat) : Int)) = V.int (i : Nat) := by congr 1; omega
          dsimp only
          rw [ei]
          have hxl : xs.length = i := by rw [Paired.length hxs, List.length_take]; omega
          have hli : ls[i]? = some ls[i] := List.getElem?_eq_getElem li
          refine ⟨rfl, WK.yes (WK.ift ⟨_, rfl, m, dx, _, rfl, s17 _ _ hp, (no _ _ _).2.1, _, rfl, m, R, i, ls, ls[i], rfl, B0.m.keep s17, hli, fun a ha => ?_⟩)⟩
          refine ⟨_, hD, by rw [List.length_map, hxl]; exact sz_lt (by omega), xs ++ [a], by rw [upd_same, List.map_append]; rfl, ?_, Same.new s17 nD⟩
          rw [List.take_add_one, hli]
          exact LsAt.off (Paired.snoc hxs ha) (lst_ntup hD)
        · rintro H17 ⟨xs, hD, hxs, s17⟩
          rw [List.take_of_length_le (Nat.le_refl _)] at hxs
          have hK3 := s17 _ _ hK3
          have hp := s17 _ _ hp
          have B := B.keep s17
          have B0 := hB B
          walk_at "wk"
          refine ⟨.list (ls.map Ln.dat), .list (ls.map Ln.dat), .lst (.inl (.inl hD)) (lns_all hxs), .lst (.inl (.inl B0.l.1)) (lns_all B0.l.2), (lay_lns ls).shaped (by decide), (lay_lns ls).shaped (by decide), ?_⟩
          rw [lns_eqv]
          clear hD hxs s17
          walk_at "wk"
          refine ⟨l, p, ds, R, rfl, B.k, MO.r4, fun t rs H18 K18 x18 nt ht hrl hrn => ?_⟩
          have nK3 : K3 ≠ p := fun e => B.k.pl _ (by rw [← e]; exact hK3)
          have hK3 := x18 _ _ nK3 hK3
          have B := B.ex K18 x18
          have B0 := hB B
          walk_at "wk"
          refine ⟨l, p, ds, rfl, B.k, fun mn H19 fm K19 x19 => ?_⟩
          have tp : t ≠ p := fun e => B.k.pl _ (by rw [← e]; exact ht)
          have ht := x19 _ _ tp ht
          have hK3 := x19 _ _ nK3 hK3
          have B := B.ex K19 x19
          have B0 := hB B
          clear K18 x18 K19 x19 nt
          walk_at "wk"
          obtain ⟨mo, emo⟩ : ∃ mo : Nat, mo = mn % 31 := ⟨_, rfl⟩
          rw [show (mn : Int) % 31 = ((mo : Nat) : Int) by omega]
          have hmo : mo ≤ 1000 := by omega
          have hcf : CfOk R ls (0, rs) := ⟨MO.l1, hrl, hrn⟩
          refine ⟨L, t, R, as, ls, rs, mo, rfl, B0.l, MO, ht, hcf, hmo, fun H20 P bs s20 nP hP hbs => ?_⟩
          have ht := s20 _ _ ht
          have hK3 := s20 _ _ hK3
          have B := B.keep s20
          have B0 := hB B
          have hp20 : ∃ dx L', H20 m = some (.ins c_Machine dx (fM R ls.length L')) := let ⟨dx, L', _, h, _, _⟩ := B0.m; ⟨dx, L', h⟩
          obtain ⟨dx2, Lm2, hp⟩ := hp20
          clear s20 nP
          walk_at "wk"
          refine ⟨m, dx2, _, rfl, hp, (no _ _ _).2.2.1, ?_⟩
          walk_at "wk"
          refine ⟨m, t, R, ls, rs, mo, rfl, B0.m, MO, ht, hcf, hmo, fun H21 P2 cs s21 nP2 hP2 hcs => ?_⟩
          have hK3 := s21 _ _ hK3
          have hp := s21 _ _ hp
          have hP := s21 _ _ hP
          have hbs := hbs.keep s21
          have B := B.keep s21
          have B0 := hB B
          clear s21 nP2 ht
          have hfok : ∀ f ∈ runM ls mo (0, rs), CfOk R ls f := runM_ok MO hcf
          have hisr := isRunI_run MO (k := mo) hcf
          obtain ⟨fl1, fl2⟩ := runM_len ls mo (0, rs)
          generalize runM ls mo (0, rs) = fs at hbs hcs hfok fl1 fl2 hisr
          have r4 := MO.r4
          have r1 := MO.r1
          have hf9 : ∀ f ∈ fs, f.2.length ≤ 2000 := fun f h => by have := (hfok f h).2.1; omega
          have hbl : bs.length = fs.length := Paired.length hbs
          have hcl : cs.length = fs.length := Paired.length hcs
          walk_at "wk"
          refine isiB (b := true) (.lst hP2) (kit_ty (by decide +kernel)) ?_
          walk_at "wk"
          refine ⟨P2, _, rfl, .inl ⟨.inl (.inl hP2), fun u1 nu1 => ?_⟩⟩
          have s22 := same_upd (o := .tup (cs.map V.ref)) nu1
          have hu1 : (upd H21 u1 (.tup (cs.map V.ref))) u1 = some (.tup (cs.map V.ref)) := upd_same
          have hP22 := s22 _ _ hP
          have B22 := B.keep s22
          have hb22 := hbs.keep s22
          have hc22 := hcs.keep s22
          generalize upd H21 u1 (.tup (cs.map V.ref)) = H22 at s22 hu1 hP22 B22 hb22 hc22 ⊢
          dsimp only
          walk_at "wk"
          refine ⟨P, _, rfl, .inl ⟨.inl (.inl hP22), fun u2 nu2 => ?_⟩⟩
          have s23 := same_upd (o := .tup (bs.map V.ref)) nu2
          have hu2 : (upd H22 u2 (.tup (bs.map V.ref))) u2 = some (.tup (bs.map V.ref)) := upd_same
          have hu1 := s23 _ _ hu1
          have hP := s23 _ _ hP22
          have B := B22.keep s23
          have hbs := hb22.keep s23
          have hcs := hc22.keep s23
          have hK3 := s23 _ _ (s22 _ _ hK3)
          have hp := s23 _ _ (s22 _ _ hp)
          clear hP22 B22 hb22 hc22 s22 nu1 hP2
          generalize upd H22 u2 (.tup (bs.map V.ref)) = H23 at s23 hu1 hu2 hP B hbs hcs hK3 hp ⊢
          clear s23 nu2
          have B0 := hB B
          dsimp only
          walk_at "wk"
          refine ⟨_, _, rfl, smD_run hu1 hu2 hcs hbs (by omega) hf9, ?_⟩
          have hfl : fs[fs.length - 1]? = some (fs[fs.length - 1]'(by omega)) := List.getElem?_eq_getElem (by omega)
          obtain ⟨b', hb', hcl0⟩ := paired_at hbs hfl
          have hko := hfok _ (List.getElem_mem (show fs.length - 1 < fs.length by omega))
          have els : lastStop ls fs = decide (ls[(fs[fs.length - 1]'(by omega)).1]? = some .stop) := by
            unfold lastStop
            rw [hfl]
          generalize fs[fs.length - 1]'(by omega) = f at hfl hcl0 hko els
          have idx : atI (bs.map V.ref) (-((1 : Nat) : Int)) = some (.ref b') := atI_neg (by decide) (by rw [List.length_map]; omega) (by rw [List.length_map, List.getElem?_map, hbl, hb']; rfl)
          have hidx : bs[bs.length - 1]? = some b' := by rw [hbl]; exact hb'
          clear hu1 hu2 hcs hcl hf9
          refine ⟨_, rfl, WK.nift (WK.nxt ?_)⟩
          dsimp only
          with_reducible refine seq_cut (fun σ' H' => σ' = [some (.ref sa), some (.ref l), some (.ref p), some (.ref Dr), some (.ref Gv), some (.int z), some (.ref Mc), some (.int R), some (.ref L), some (.ref m), some (.ref tb), some (.ref t), some (.int mo), some (.ref P), some (.ref P2), c15, c16, none] ∧ Same H23 H') ?_ ?_
          · rintro σ' H25 ⟨rfl, s25⟩
            have hP := s25 _ _ hP
            have hbs := hbs.keep s25
            have B := B.keep s25
            have hK3 := s25 _ _ hK3
            have hcl0 := hcl0.keep s25
            have B0 := hB B
            clear s25 hp
            obtain ⟨tf, hcf1, _⟩ := hcl0
            have hli : ls[f.1]? = some (ls[f.1]'hko.1) := List.getElem?_eq_getElem hko.1
            obtain ⟨al, hal, hlal⟩ := paired_at B0.l.2 hli
            rw [hli] at els
            have hlok := hko.1
            generalize ls[f.1]'hko.1 = ll at hli hlal els
            walk_at "wk"
            refine ixL_as (.inl (.inl hP)) idx ?_
            walk_at "wk"
            refine ixL_as (.inl (.inl B0.l.1)) (atI_nat (by rw [List.getElem?_map, hal]; rfl)) ?_
            walk_at "wk"
            intro zt nzt
            have s26 := same_upd (o := .tup [V.str (Str.ofString "stop")]) nzt
            refine ⟨ll.dat, Ln.stop.dat, LsAt.dp (s26 _ _ hlal), LsAt.dp (l := .stop) upd_same, (lay_ln ll).shaped (by decide), (lay_ln .stop).shaped (by decide), ?_⟩
            rw [eqv_stop]
            have hP := s26 _ _ hP
            have hbs := hbs.keep s26
            have B := B.keep s26
            have hK3 := s26 _ _ hK3
            have hcf1 := s26 _ _ hcf1
            have B0 := hB B
            generalize upd H25 zt (.tup [V.str (Str.ofString "stop")]) = H26 at s26 hP hbs B hK3 hcf1 B0 ⊢
            clear s26 hlal
            have edec : decide (some ll = some Ln.stop) = decide (ll = Ln.stop) := decide_eq_decide.mpr ⟨fun z => Option.some.inj z, fun z => by rw [z]⟩
            walk_at "wk"
            refine ⟨m, P, b', R, f.1, ls, bs, _, rfl, B0.m, hP, by omega, hidx, hcf1, hlok, fun H27 s27 => ?_⟩
            rw [hli, edec]
            have hP := s27 _ _ hP
            have hbs := hbs.keep s27
            have B := B.keep s27
            have hK3 := s27 _ _ hK3
            have B0 := hB B
            clear s27 hcf1
            walk_at "wk"
            refine ⟨rfl, ?_⟩
            rw [decide_eq_true (rfl : V.bl (decide (ll = Ln.stop)) = V.bl (decide (ll = Ln.stop)))]
            walk_at "wk"
            refine ⟨m, .ref P, R, ls, rfl, B0.m, MO, .inr ⟨P, bs, fs.map itOf, rfl, hP, itsOf hbs, by rw [List.length_map]; omega, fun it h => ?_, fun H28 s28 => ?_⟩⟩
            · obtain ⟨g, hg, rfl⟩ := List.mem_map.mp h
              have := (hfok g hg).2.1
              show g.2.length ≤ 1000
              omega
            rw [hisr, els, edec]
            have hP := s28 _ _ hP
            have hbs := hbs.keep s28
            have B := B.keep s28
            have hK3 := s28 _ _ hK3
            clear s28
            walk_at "wk"
            refine ⟨rfl, ?_⟩
            rw [decide_eq_true (rfl : V.bl (decide (ll = Ln.stop)) = V.bl (decide (ll = Ln.stop)))]
            walk_at "wk"
            refine ⟨l, p, ds, rfl, B.k, fun nn H29 fn K29 x29 => ?_⟩
            have nPp : P ≠ p := fun e => by
              obtain ⟨w9, e9⟩ := B.k.at_
              rw [← e, hP] at e9
              have e10 := HO.lst.inj (Option.some.inj e9)
              have : bs.length = 1 := by have := congrArg List.length e10; rw [List.length_map] at this; exact this
              match bs, this with
              | [q], _ => cases e10
            have hP := x29 _ _ nPp hP
            have hbs := hbs.ex B.k x29
            have hK3 := x29 _ _ nK3 hK3
            have B := B.ex K29 x29
            clear x29 K29
            walk_at "wk"
            refine ⟨P, bs, fs, nn, rfl, hP, hbs, fl1, by omega, fun g hg => ?_, fun H30 P' as' its s30 hP' hits hil hirl => ?_⟩
            · have := (hfok g hg).2.1
              omega
            have B := B.keep s30
            have hK3 := s30 _ _ hK3
            have B0 := hB B
            clear s30 hP hbs
            walk_at "wk"
            refine ⟨m, .ref P', R, ls, rfl, B0.m, MO, .inr ⟨P', as', its, rfl, hP', hits, hil, hirl, fun H31 s31 => ?_⟩⟩
            have B := B.keep s31
            have hK3 := s31 _ _ hK3
            have B0 := hB B
            walk_at "wk"
            refine ⟨L, P', R, as, ls, as', its, rfl, B0.l, MO, s31 _ _ hP', (Paired.mapP hits fun _ _ r => ItAt.keep r s31), hil, fun H32 s32 => ?_⟩
            refine ⟨rfl, ?_⟩
            rw [decide_eq_true (rfl : V.bl (isRunI R ls its) = V.bl (isRunI R ls its))]
            walk_at "wk"
            exact ⟨_, _, _, _, _, _, _, _, _, _, _, rfl, B.keep s32, s32 _ _ hK3⟩
          · intro nx hnx
            obtain ⟨dx3, Lm3, am3, hp3, _, _⟩ := B0.m
            walk_at "wk"
            refine ⟨m, dx3, _, rfl, hp3, (no _ _ _).2.2.2, ?_⟩
            walk_at "wk"
            refine ixL_as (.inl (.inl hP)) idx ?_
            walk_at "wk"
            refine ⟨m, b', R, ls, f, rfl, B0.m, MO, hcl0, hko, fun e5 H24 s24 => ?_, fun g e5 H24 c5 s24 hc5 => ?_⟩
            · walk_at "wk"
              refine ixL_as (.inl (.inl (s24 _ _ hP))) idx ?_
              walk_at "wk"
              refine ⟨L, b', R, as, ls, f, rfl, B0.l.keep s24, MO, hcl0.keep s24, hko, fun e6 H25 s25 => ?_, fun g e6 => ?_⟩
              · walk_at "wk"
                refine ⟨_, _, rfl, .inr (.inl ⟨rfl, rfl⟩), ?_⟩
                walk_at "wk"
                exact hnx _ _ ⟨rfl, s24.trans s25⟩
              · rw [e5] at e6
                cases e6
            · walk_at "wk"
              refine ixL_as (.inl (.inl (s24 _ _ hP))) idx ?_
              walk_at "wk"
              refine ⟨L, b', R, as, ls, f, rfl, B0.l.keep s24, MO, hcl0.keep s24, hko, fun e6 => ?_, fun g' e6 H25 c6 s25 hc6 => ?_⟩
              · rw [e5] at e6
                cases e6
              · obtain rfl : g = g' := Option.some.inj (e5.symm.trans e6)
                walk_at "wk"
                have := (step_ok MO hko e5).2.1
                refine ⟨_, _, rfl, smD_cfg 1 (hc5.keep s25) hc6 (by omega), ?_⟩
                walk_at "wk"
                exact hnx _ _ ⟨rfl, s24.trans s25⟩
      · rintro σ' H12 ⟨c5, c7, c8, c9, c10, c11, c12, c13, c14, c15, c16, rfl, B, hK3⟩
        walk_at "wk"
        refine ixL_as (.inl (.inl B.c)) rfl ?_
        walk_at "wk"
        refine ⟨ma, .non, Ra, la, rfl, B.a.m, Ma, .inl ⟨.inl rfl, ?_⟩⟩
        walk_at "wk"
        refine ⟨_, _, rfl, rfl, _, rfl, ?_⟩
        rw [decide_eq_true rfl]
        walk_at "wk"
        refine ixL_as (.inl (.inl B.c)) rfl ?_
        walk_at "wk"
        intro et net
        have s13 := same_upd (o := .tup []) net
        refine ⟨ma, .ref et, Ra, la, rfl, B.a.m.keep s13, Ma, .inl ⟨.inr ⟨et, rfl, upd_same⟩, ?_⟩⟩
        walk_at "wk"
        refine ⟨_, _, rfl, rfl, ?_⟩
        rw [decide_eq_true rfl]
        exact q _

end
end RR

namespace RR
open PySem PySem.Spec PyProof.Rows L2
theorem all_mk {l : PySem.W.OpenLaw} {w : World} {K : PySem.W.Frag} {h : Heap} {mg : Str → Option Value} {fa : Addr} (X : K.In h) (G : h.Ns mainGlobals mg) (hfa : mg "law" = some (.ref fa))
    {c_Machine : Addr}
    {f0 : Addr} {od0 an0 : Option Addr} {sl0 : Array (Option Value)} {oc0 kV0 dc0 pm0 cd0 ct0 : Value}
    {f1 : Addr} {od1 an1 : Option Addr} {sl1 : Array (Option Value)} {oc1 kV1 dc1 pm1 cd1 ct1 : Value}
    {f2 : Addr} {od2 an2 : Option Addr} {sl2 : Array (Option Value)} {oc2 kV2 dc2 pm2 cd2 ct2 : Value}
    {f3 : Addr} {od3 an3 : Option Addr} {sl3 : Array (Option Value)} {oc3 kV3 dc3 pm3 cd3 ct3 : Value}
    {f4 : Addr} {od4 an4 : Option Addr} {sl4 : Array (Option Value)} {oc4 kV4 dc4 pm4 cd4 ct4 : Value}
    {f5 : Addr} {od5 an5 : Option Addr} {sl5 : Array (Option Value)} {oc5 kV5 dc5 pm5 cd5 ct5 : Value}
    {f6 : Addr} {od6 an6 : Option Addr} {sl6 : Array (Option Value)} {oc6 kV6 dc6 pm6 cd6 ct6 : Value}
    {f7 : Addr} {od7 an7 : Option Addr} {sl7 : Array (Option Value)} {oc7 kV7 dc7 pm7 cd7 ct7 : Value}
    {f8 : Addr} {od8 an8 : Option Addr} {sl8 : Array (Option Value)} {oc8 kV8 dc8 pm8 cd8 ct8 : Value}
    {f9 : Addr} {od9 an9 : Option Addr} {sl9 : Array (Option Value)} {oc9 kV9 dc9 pm9 cd9 ct9 : Value}
    {f10 : Addr} {od10 an10 : Option Addr} {sl10 : Array (Option Value)} {oc10 kV10 dc10 pm10 cd10 ct10 : Value}
    {f11 : Addr} {od11 an11 : Option Addr} {sl11 : Array (Option Value)} {oc11 kV11 dc11 pm11 cd11 ct11 : Value}
    {f12 : Addr} {od12 an12 : Option Addr} {sl12 : Array (Option Value)} {oc12 kV12 dc12 pm12 cd12 ct12 : Value}
    {f13 : Addr} {od13 an13 : Option Addr} {sl13 : Array (Option Value)} {oc13 kV13 dc13 pm13 cd13 ct13 : Value}
    {f14 : Addr} {od14 an14 : Option Addr} {sl14 : Array (Option Value)} {oc14 kV14 dc14 pm14 cd14 ct14 : Value}
    {f15 : Addr} {od15 an15 : Option Addr} {sl15 : Array (Option Value)} {oc15 kV15 dc15 pm15 cd15 ct15 : Value}
    {f16 : Addr} {od16 an16 : Option Addr} {sl16 : Array (Option Value)} {oc16 kV16 dc16 pm16 cd16 ct16 : Value}
    {f17 : Addr} {od17 an17 : Option Addr} {sl17 : Array (Option Value)} {oc17 kV17 dc17 pm17 cd17 ct17 : Value}
    {f18 : Addr} {od18 an18 : Option Addr} {sl18 : Array (Option Value)} {oc18 kV18 dc18 pm18 cd18 ct18 : Value}
    {f19 : Addr} {od19 an19 : Option Addr} {sl19 : Array (Option Value)} {oc19 kV19 dc19 pm19 cd19 ct19 : Value}
    {f20 : Addr} {od20 an20 : Option Addr} {sl20 : Array (Option Value)} {oc20 kV20 dc20 pm20 cd20 ct20 : Value}
    {f21 : Addr} {od21 an21 : Option Addr} {sl21 : Array (Option Value)} {oc21 kV21 dc21 pm21 cd21 ct21 : Value}
    {f22 : Addr} {od22 an22 : Option Addr} {sl22 : Array (Option Value)} {oc22 kV22 dc22 pm22 cd22 ct22 : Value}
    {f23 : Addr} {od23 an23 : Option Addr} {sl23 : Array (Option Value)} {oc23 kV23 dc23 pm23 cd23 ct23 : Value}
    (a0 : PySem.W.nsIn K mainGlobals "_law_numbers" = some (some (.ref f0)))
    (l0 : K.lookup f0 = some ⟨oc0, od0, .func (PySem.W.fnOf "_law_numbers" "_law_numbers" (defArgs s__law_numbers) (defBody s__law_numbers) (defScope s__law_numbers) .none kV0 dc0 pm0 an0 cd0 ct0), sl0⟩)
    (c0 : PySem.W.codeIn K cd0 "_law_numbers" = true)
    (k0 : PySem.W.keepIn K (.ref f0) = true)
    (a1 : PySem.W.nsIn K mainGlobals "_law_take" = some (some (.ref f1)))
    (l1 : K.lookup f1 = some ⟨oc1, od1, .func (PySem.W.fnOf "_law_take" "_law_take" (defArgs s__law_take) (defBody s__law_take) (defScope s__law_take) .none kV1 dc1 pm1 an1 cd1 ct1), sl1⟩)
    (c1 : PySem.W.codeIn K cd1 "_law_take" = true)
    (k1 : PySem.W.keepIn K (.ref f1) = true)
    (a2 : PySem.W.nsIn K mainGlobals "_law_machine" = some (some (.ref f2)))
    (l2 : K.lookup f2 = some ⟨oc2, od2, .func (PySem.W.fnOf "_law_machine" "_law_machine" (defArgs s__law_machine) (defBody s__law_machine) (defScope s__law_machine) .none kV2 dc2 pm2 an2 cd2 ct2), sl2⟩)
    (c2 : PySem.W.codeIn K cd2 "_law_machine" = true)
    (k2 : PySem.W.keepIn K (.ref f2) = true)
    (a3 : PySem.W.nsIn K mainGlobals "is_number" = some (some (.ref f3)))
    (l3 : K.lookup f3 = some ⟨oc3, od3, .func (PySem.W.fnOf "is_number" "is_number" (defArgs s_is_number) (defBody s_is_number) (defScope s_is_number) .none kV3 dc3 pm3 an3 cd3 ct3), sl3⟩)
    (c3 : PySem.W.codeIn K cd3 "is_number" = true)
    (k3 : PySem.W.keepIn K (.ref f3) = true)
    (a4 : PySem.W.nsIn K mainGlobals "is_natural" = some (some (.ref f4)))
    (l4 : K.lookup f4 = some ⟨oc4, od4, .func (PySem.W.fnOf "is_natural" "is_natural" (defArgs s_is_natural) (defBody s_is_natural) (defScope s_is_natural) .none kV4 dc4 pm4 an4 cd4 ct4), sl4⟩)
    (c4 : PySem.W.codeIn K cd4 "is_natural" = true)
    (k4 : PySem.W.keepIn K (.ref f4) = true)
    (a5 : PySem.W.nsIn K mainGlobals "is_line" = some (some (.ref f5)))
    (l5 : K.lookup f5 = some ⟨oc5, od5, .func (PySem.W.fnOf "is_line" "is_line" (defArgs s_is_line) (defBody s_is_line) (defScope s_is_line) .none kV5 dc5 pm5 an5 cd5 ct5), sl5⟩)
    (c5 : PySem.W.codeIn K cd5 "is_line" = true)
    (k5 : PySem.W.keepIn K (.ref f5) = true)
    (a6 : PySem.W.nsIn K mainGlobals "_demand_machine" = some (some (.ref f6)))
    (l6 : K.lookup f6 = some ⟨oc6, od6, .func (PySem.W.fnOf "_demand_machine" "_demand_machine" (defArgs s__demand_machine) (defBody s__demand_machine) (defScope s__demand_machine) .none kV6 dc6 pm6 an6 cd6 ct6), sl6⟩)
    (c6 : PySem.W.codeIn K cd6 "_demand_machine" = true)
    (k6 : PySem.W.keepIn K (.ref f6) = true)
    (a7 : PySem.W.findIn K (.ref c_Machine) "__init__" = some (some (.ref f7)))
    (i7 : PySem.W.isFn K (.ref f7) = true)
    (l7 : K.lookup f7 = some ⟨oc7, od7, .func (PySem.W.fnOf "__init__" "Machine.__init__" (defArgs s_Machine___init__) (defBody s_Machine___init__) (defScope s_Machine___init__) .none kV7 dc7 pm7 an7 cd7 ct7), sl7⟩)
    (c7 : PySem.W.codeIn K cd7 "Machine.__init__" = true)
    (k7 : PySem.W.keepIn K (.ref f7) = true)
    (a8 : PySem.W.findIn K (.ref c_Machine) "table" = some (some (.ref f8)))
    (i8 : PySem.W.isFn K (.ref f8) = true)
    (l8 : K.lookup f8 = some ⟨oc8, od8, .func (PySem.W.fnOf "table" "Machine.table" (defArgs s_Machine_table) (defBody s_Machine_table) (defScope s_Machine_table) .none kV8 dc8 pm8 an8 cd8 ct8), sl8⟩)
    (c8 : PySem.W.codeIn K cd8 "Machine.table" = true)
    (k8 : PySem.W.keepIn K (.ref f8) = true)
    (a9 : PySem.W.nsIn K mainGlobals "_law_inputs" = some (some (.ref f9)))
    (l9 : K.lookup f9 = some ⟨oc9, od9, .func (PySem.W.fnOf "_law_inputs" "_law_inputs" (defArgs s__law_inputs) (defBody s__law_inputs) (defScope s__law_inputs) .none kV9 dc9 pm9 an9 cd9 ct9), sl9⟩)
    (c9 : PySem.W.codeIn K cd9 "_law_inputs" = true)
    (k9 : PySem.W.keepIn K (.ref f9) = true)
    (a10 : PySem.W.nsIn K mainGlobals "_law_step" = some (some (.ref f10)))
    (l10 : K.lookup f10 = some ⟨oc10, od10, .func (PySem.W.fnOf "_law_step" "_law_step" (defArgs s__law_step) (defBody s__law_step) (defScope s__law_step) .none kV10 dc10 pm10 an10 cd10 ct10), sl10⟩)
    (c10 : PySem.W.codeIn K cd10 "_law_step" = true)
    (k10 : PySem.W.keepIn K (.ref f10) = true)
    (a11 : PySem.W.nsIn K mainGlobals "_law_run" = some (some (.ref f11)))
    (l11 : K.lookup f11 = some ⟨oc11, od11, .func (PySem.W.fnOf "_law_run" "_law_run" (defArgs s__law_run) (defBody s__law_run) (defScope s__law_run) .none kV11 dc11 pm11 an11 cd11 ct11), sl11⟩)
    (c11 : PySem.W.codeIn K cd11 "_law_run" = true)
    (k11 : PySem.W.keepIn K (.ref f11) = true)
    (a12 : PySem.W.findIn K (.ref c_Machine) "line" = some (some (.ref f12)))
    (i12 : PySem.W.isFn K (.ref f12) = true)
    (l12 : K.lookup f12 = some ⟨oc12, od12, .func (PySem.W.fnOf "line" "Machine.line" (defArgs s_Machine_line) (defBody s_Machine_line) (defScope s_Machine_line) .none kV12 dc12 pm12 an12 cd12 ct12), sl12⟩)
    (c12 : PySem.W.codeIn K cd12 "Machine.line" = true)
    (k12 : PySem.W.keepIn K (.ref f12) = true)
    (a13 : PySem.W.nsIn K mainGlobals "_changed" = some (some (.ref f13)))
    (l13 : K.lookup f13 = some ⟨oc13, od13, .func (PySem.W.fnOf "_changed" "_changed" (defArgs s__changed) (defBody s__changed) (defScope s__changed) .none kV13 dc13 pm13 an13 cd13 ct13), sl13⟩)
    (c13 : PySem.W.codeIn K cd13 "_changed" = true)
    (k13 : PySem.W.keepIn K (.ref f13) = true)
    (a14 : PySem.W.findIn K (.ref c_Machine) "step" = some (some (.ref f14)))
    (i14 : PySem.W.isFn K (.ref f14) = true)
    (l14 : K.lookup f14 = some ⟨oc14, od14, .func (PySem.W.fnOf "step" "Machine.step" (defArgs s_Machine_step) (defBody s_Machine_step) (defScope s_Machine_step) .none kV14 dc14 pm14 an14 cd14 ct14), sl14⟩)
    (c14 : PySem.W.codeIn K cd14 "Machine.step" = true)
    (k14 : PySem.W.keepIn K (.ref f14) = true)
    (a15 : PySem.W.findIn K (.ref c_Machine) "run" = some (some (.ref f15)))
    (i15 : PySem.W.isFn K (.ref f15) = true)
    (l15 : K.lookup f15 = some ⟨oc15, od15, .func (PySem.W.fnOf "run" "Machine.run" (defArgs s_Machine_run) (defBody s_Machine_run) (defScope s_Machine_run) .none kV15 dc15 pm15 an15 cd15 ct15), sl15⟩)
    (c15 : PySem.W.codeIn K cd15 "Machine.run" = true)
    (k15 : PySem.W.keepIn K (.ref f15) = true)
    (a16 : PySem.W.nsIn K mainGlobals "_law_nearly" = some (some (.ref f16)))
    (l16 : K.lookup f16 = some ⟨oc16, od16, .func (PySem.W.fnOf "_law_nearly" "_law_nearly" (defArgs s__law_nearly) (defBody s__law_nearly) (defScope s__law_nearly) .none kV16 dc16 pm16 an16 cd16 ct16), sl16⟩)
    (c16 : PySem.W.codeIn K cd16 "_law_nearly" = true)
    (k16 : PySem.W.keepIn K (.ref f16) = true)
    (a17 : PySem.W.nsIn K mainGlobals "_law_same" = some (some (.ref f17)))
    (l17 : K.lookup f17 = some ⟨oc17, od17, .func (PySem.W.fnOf "_law_same" "_law_same" (defArgs s__law_same) (defBody s__law_same) (defScope s__law_same) .none kV17 dc17 pm17 an17 cd17 ct17), sl17⟩)
    (c17 : PySem.W.codeIn K cd17 "_law_same" = true)
    (k17 : PySem.W.keepIn K (.ref f17) = true)
    (a18 : PySem.W.nsIn K mainGlobals "stops" = some (some (.ref f18)))
    (l18 : K.lookup f18 = some ⟨oc18, od18, .func (PySem.W.fnOf "stops" "stops" (defArgs s_stops) (defBody s_stops) (defScope s_stops) .none kV18 dc18 pm18 an18 cd18 ct18), sl18⟩)
    (c18 : PySem.W.codeIn K cd18 "stops" = true)
    (k18 : PySem.W.keepIn K (.ref f18) = true)
    (a19 : PySem.W.nsIn K mainGlobals "is_tuple_of" = some (some (.ref f19)))
    (l19 : K.lookup f19 = some ⟨oc19, od19, .func (PySem.W.fnOf "is_tuple_of" "is_tuple_of" (defArgs s_is_tuple_of) (defBody s_is_tuple_of) (defScope s_is_tuple_of) .none kV19 dc19 pm19 an19 cd19 ct19), sl19⟩)
    (c19 : PySem.W.codeIn K cd19 "is_tuple_of" = true)
    (k19 : PySem.W.keepIn K (.ref f19) = true)
    (a20 : PySem.W.nsIn K mainGlobals "_is_configuration" = some (some (.ref f20)))
    (l20 : K.lookup f20 = some ⟨oc20, od20, .func (PySem.W.fnOf "_is_configuration" "_is_configuration" (defArgs s__is_configuration) (defBody s__is_configuration) (defScope s__is_configuration) .none kV20 dc20 pm20 an20 cd20 ct20), sl20⟩)
    (c20 : PySem.W.codeIn K cd20 "_is_configuration" = true)
    (k20 : PySem.W.keepIn K (.ref f20) = true)
    (a21 : PySem.W.nsIn K mainGlobals "is_run" = some (some (.ref f21)))
    (l21 : K.lookup f21 = some ⟨oc21, od21, .func (PySem.W.fnOf "is_run" "is_run" (defArgs s_is_run) (defBody s_is_run) (defScope s_is_run) .none kV21 dc21 pm21 an21 cd21 ct21), sl21⟩)
    (c21 : PySem.W.codeIn K cd21 "is_run" = true)
    (k21 : PySem.W.keepIn K (.ref f21) = true)
    (a22 : PySem.W.nsIn K mainGlobals "_law_is_run" = some (some (.ref f22)))
    (l22 : K.lookup f22 = some ⟨oc22, od22, .func (PySem.W.fnOf "_law_is_run" "_law_is_run" (defArgs s__law_is_run) (defBody s__law_is_run) (defScope s__law_is_run) .none kV22 dc22 pm22 an22 cd22 ct22), sl22⟩)
    (c22 : PySem.W.codeIn K cd22 "_law_is_run" = true)
    (k22 : PySem.W.keepIn K (.ref f22) = true)
    (a23 : PySem.W.nsIn K mainGlobals "law" = some (some (.ref f23)))
    (l23 : K.lookup f23 = some ⟨oc23, od23, .func (PySem.W.fnOf "law" "law" (defArgs s_law) (defBody s_law) (defScope s_law) .none kV23 dc23 pm23 an23 cd23 ct23), sl23⟩)
    (c23 : PySem.W.codeIn K cd23 "law" = true)
    (k23 : PySem.W.keepIn K (.ref f23) = true)
    (aC_Machine : PySem.W.nsIn K mainGlobals "Machine" = some (some (.ref c_Machine)))
    (pg_Machine : PySem.W.plainGet K c_Machine Str.empty = true)
    (hd_Machine : PySem.W.hasDictIn K c_Machine = true)
    (po_Machine : PySem.W.plainOver K c_Machine = true)
    (sa_Machine : PySem.W.findIn K (.ref c_Machine) "__setattr__" = some (some (.builtin "object.__setattr__")))
    (mk_Machine : PySem.W.makesIn K c_Machine = true)
    (kc_Machine : PySem.W.keepIn K (.ref c_Machine) = true)
    (n_Machine_registers : PySem.W.findIn K (.ref c_Machine) "registers" = some none)
    (n_Machine_size : PySem.W.findIn K (.ref c_Machine) "size" = some none)
    (n_Machine__lines : PySem.W.findIn K (.ref c_Machine) "_lines" = some none)
    (z_range : PySem.W.nsIn K mainGlobals "range" = some none)
    (z_len : PySem.W.nsIn K mainGlobals "len" = some none)
    (z_abs : PySem.W.nsIn K mainGlobals "abs" = some none)
    (z_int : PySem.W.nsIn K mainGlobals "int" = some none)
    (z_isinstance : PySem.W.nsIn K mainGlobals "isinstance" = some none)
    (z_bool : PySem.W.nsIn K mainGlobals "bool" = some none)
    (z_tuple : PySem.W.nsIn K mainGlobals "tuple" = some none)
    (z_str : PySem.W.nsIn K mainGlobals "str" = some none)
    (z_all : PySem.W.nsIn K mainGlobals "all" = some none)
    (z_zip : PySem.W.nsIn K mainGlobals "zip" = some none)
    (z_list : PySem.W.nsIn K mainGlobals "list" = some none)
    (z_enumerate : PySem.W.nsIn K mainGlobals "enumerate" = some none)
    (z_min : PySem.W.nsIn K mainGlobals "min" = some none)
    {d_LENGTHS : Addr} {e_LENGTHS : Array DictEntry} {n_LENGTHS : Nat}
    (z_LENGTHS : PySem.W.nsIn K mainGlobals "LENGTHS" = some (some (.ref d_LENGTHS)))
    (lk_LENGTHS : K.lookup d_LENGTHS = some ⟨.type "dict", none, .dict e_LENGTHS n_LENGTHS, #[]⟩)
    (kl_LENGTHS : PySem.W.KeysLit w.params e_LENGTHS.toList)
    (lo_LENGTHS : (d_LENGTHS == sysModules) = false)
    {t_LENGTHS_stop : Tok}
    (q_LENGTHS_stop : PySem.W.nsIn K d_LENGTHS "stop" = some (some (.int (1) t_LENGTHS_stop)))
    {t_LENGTHS_inc : Tok}
    (q_LENGTHS_inc : PySem.W.nsIn K d_LENGTHS "inc" = some (some (.int (3) t_LENGTHS_inc)))
    {t_LENGTHS_dec : Tok}
    (q_LENGTHS_dec : PySem.W.nsIn K d_LENGTHS "dec" = some (some (.int (4) t_LENGTHS_dec)))
    {t_MOST_REGISTERS : Tok}
    (z_MOST_REGISTERS : PySem.W.nsIn K mainGlobals "MOST_REGISTERS" = some (some (.int (4) t_MOST_REGISTERS)))
    {t_MOST_LINES : Tok}
    (z_MOST_LINES : PySem.W.nsIn K mainGlobals "MOST_LINES" = some (some (.int (12) t_MOST_LINES)))
    {r_STOP : Addr} {o_STOP : Obj}
    (z_STOP : PySem.W.nsIn K mainGlobals "STOP" = some (some (.ref r_STOP)))
    (lk_STOP : K.lookup r_STOP = some o_STOP)
    (co_STOP : TupO o_STOP [V.str "stop"])
    : ∃ fd : FuncData, (∀ (s : Shared) (v : Value), BindsTo s fd ⟨[v], []⟩ [("script", v)]) ∧ ∀ base : Heap, K.In base → base.Ns mainGlobals mg → FnOk l.prog w K mg base CX0 7 fa fd ["script"] (sp_law K) := by
  have e := hfa.symm.trans (PySem.W.mg_of X G a23)
  cases e
  have F0 := fun_mk (st := s__law_numbers) l0 c0 k0
  have F1 := fun_mk (st := s__law_take) l1 c1 k1
  have F2 := fun_mk (st := s__law_machine) l2 c2 k2
  have F3 := fun_mk (st := s_is_number) l3 c3 k3
  have F4 := fun_mk (st := s_is_natural) l4 c4 k4
  have F5 := fun_mk (st := s_is_line) l5 c5 k5
  have F6 := fun_mk (st := s__demand_machine) l6 c6 k6
  have F7 := fun_mk (st := s_Machine___init__) l7 c7 k7
  have F8 := fun_mk (st := s_Machine_table) l8 c8 k8
  have F9 := fun_mk (st := s__law_inputs) l9 c9 k9
  have F10 := fun_mk (st := s__law_step) l10 c10 k10
  have F11 := fun_mk (st := s__law_run) l11 c11 k11
  have F12 := fun_mk (st := s_Machine_line) l12 c12 k12
  have F13 := fun_mk (st := s__changed) l13 c13 k13
  have F14 := fun_mk (st := s_Machine_step) l14 c14 k14
  have F15 := fun_mk (st := s_Machine_run) l15 c15 k15
  have F16 := fun_mk (st := s__law_nearly) l16 c16 k16
  have F17 := fun_mk (st := s__law_same) l17 c17 k17
  have F18 := fun_mk (st := s_stops) l18 c18 k18
  have F19 := fun_mk (st := s_is_tuple_of) l19 c19 k19
  have F20 := fun_mk (st := s__is_configuration) l20 c20 k20
  have F21 := fun_mk (st := s_is_run) l21 c21 k21
  have F22 := fun_mk (st := s__law_is_run) l22 c22 k22
  have F23 := fun_mk (st := s_law) l23 c23 k23
  have b0 := F0.binds (ps := ["script", "many"]) fun _ _ _ _ _ _ us hl => match us, hl with | [_, _], _ => rfl
  have b1 := F1.binds (ps := ["numbers", "place"]) fun _ _ _ _ _ _ us hl => match us, hl with | [_, _], _ => rfl
  have b2 := F2.binds (ps := ["numbers", "place"]) fun _ _ _ _ _ _ us hl => match us, hl with | [_, _], _ => rfl
  have b3 := F3.binds (ps := ["value"]) fun _ _ _ _ _ _ us hl => match us, hl with | [_], _ => rfl
  have b4 := F4.binds (ps := ["value"]) fun _ _ _ _ _ _ us hl => match us, hl with | [_], _ => rfl
  have b5 := F5.binds (ps := ["value", "registers", "size"]) fun _ _ _ _ _ _ us hl => match us, hl with | [_, _, _], _ => rfl
  have b6 := F6.binds (ps := ["registers", "lines"]) fun _ _ _ _ _ _ us hl => match us, hl with | [_, _], _ => rfl
  have b7 := F7.binds (ps := ["self", "registers", "lines"]) fun _ _ _ _ _ _ us hl => match us, hl with | [_, _, _], _ => rfl
  have b8 := F8.binds (ps := ["self"]) fun _ _ _ _ _ _ us hl => match us, hl with | [_], _ => rfl
  have b9 := F9.binds (ps := ["numbers", "place", "registers"]) fun _ _ _ _ _ _ us hl => match us, hl with | [_, _, _], _ => rfl
  have b10 := F10.binds (ps := ["lines", "spot"]) fun _ _ _ _ _ _ us hl => match us, hl with | [_, _], _ => rfl
  have b11 := F11.binds (ps := ["lines", "inputs", "most"]) fun _ _ _ _ _ _ us hl => match us, hl with | [_, _, _], _ => rfl
  have b12 := F12.binds (ps := ["self", "number"]) fun _ _ _ _ _ _ us hl => match us, hl with | [_, _], _ => rfl
  have b13 := F13.binds (ps := ["registers", "place", "difference"]) fun _ _ _ _ _ _ us hl => match us, hl with | [_, _, _], _ => rfl
  have b14 := F14.binds (ps := ["self", "configuration"]) fun _ _ _ _ _ _ us hl => match us, hl with | [_, _], _ => rfl
  have b15 := F15.binds (ps := ["self", "inputs", "most"]) fun _ _ _ _ _ _ us hl => match us, hl with | [_, _, _], _ => rfl
  have b16 := F16.binds (ps := ["run", "number"]) fun _ _ _ _ _ _ us hl => match us, hl with | [_, _], _ => rfl
  have b17 := F17.binds (ps := ["actual", "expected"]) fun _ _ _ _ _ _ us hl => match us, hl with | [_, _], _ => rfl
  have b18 := F18.binds (ps := ["machine", "run"]) fun _ _ _ _ _ _ us hl => match us, hl with | [_, _], _ => rfl
  have b19 := F19.binds (ps := ["value", "count"]) fun _ _ _ _ _ _ us hl => match us, hl with | [_, _], _ => rfl
  have b20 := F20.binds (ps := ["machine", "value"]) fun _ _ _ _ _ _ us hl => match us, hl with | [_, _], _ => rfl
  have b21 := F21.binds (ps := ["machine", "value"]) fun _ _ _ _ _ _ us hl => match us, hl with | [_, _], _ => rfl
  have b22 := F22.binds (ps := ["lines", "registers", "run"]) fun _ _ _ _ _ _ us hl => match us, hl with | [_, _, _], _ => rfl
  refine ⟨PySem.W.fnOf "law" "law" (defArgs s_law) (defBody s_law) (defScope s_law) .none kV23 dc23 pm23 an23 cd23 ct23, fun s v => .of_eq rfl, fun base _ _ => ?_⟩
  have T_Machine : Tx_Machine K c_Machine := ⟨⟨pg_Machine, hd_Machine, po_Machine, sa_Machine⟩, n_Machine_registers, n_Machine_size, n_Machine__lines⟩
  have m_range := PySem.W.mg_none_of X G z_range
  have m_len := PySem.W.mg_none_of X G z_len
  have m_abs := PySem.W.mg_none_of X G z_abs
  have m_int := PySem.W.mg_none_of X G z_int
  have m_isinstance := PySem.W.mg_none_of X G z_isinstance
  have m_bool := PySem.W.mg_none_of X G z_bool
  have m_tuple := PySem.W.mg_none_of X G z_tuple
  have m_str := PySem.W.mg_none_of X G z_str
  have m_all := PySem.W.mg_none_of X G z_all
  have m_zip := PySem.W.mg_none_of X G z_zip
  have m_list := PySem.W.mg_none_of X G z_list
  have m_enumerate := PySem.W.mg_none_of X G z_enumerate
  have m_min := PySem.W.mg_none_of X G z_min
  have m_LENGTHS := PySem.W.mg_of X G z_LENGTHS
  have k_LENGTHS : KDict K w d_LENGTHS e_LENGTHS n_LENGTHS := ⟨lk_LENGTHS, kl_LENGTHS, lo_LENGTHS⟩
  have m_MOST_REGISTERS := PySem.W.mg_of X G z_MOST_REGISTERS
  have m_MOST_LINES := PySem.W.mg_of X G z_MOST_LINES
  have m_STOP := PySem.W.mg_of X G z_STOP
  have k_STOP := TupK.of lk_STOP co_STOP
  have C__law_numbers : Cal l.prog w K mg base "_law_numbers" 1 ["script", "many"] (sp__law_numbers K) := ⟨_, _, ok__law_numbers F0 m_range m_len m_abs m_int, PySem.W.mg_of X G a0, F0.kp, b0⟩
  have C__law_take : Cal l.prog w K mg base "_law_take" 1 ["numbers", "place"] (sp__law_take K) := ⟨_, _, ok__law_take F1 m_len, PySem.W.mg_of X G a1, F1.kp, b1⟩
  have C__law_machine : Cal l.prog w K mg base "_law_machine" 2 ["numbers", "place"] (sp__law_machine K) := ⟨_, _, ok__law_machine F2 C__law_take m_range, PySem.W.mg_of X G a2, F2.kp, b2⟩
  have C_is_number : Cal l.prog w K mg base "is_number" 1 ["value"] (sp_is_number K) := ⟨_, _, ok_is_number F3 m_isinstance m_int m_bool, PySem.W.mg_of X G a3, F3.kp, b3⟩
  have C_is_natural : Cal l.prog w K mg base "is_natural" 2 ["value"] (sp_is_natural K) := ⟨_, _, ok_is_natural F4 C_is_number, PySem.W.mg_of X G a4, F4.kp, b4⟩
  have C_is_line : Cal l.prog w K mg base "is_line" 3 ["value", "registers", "size"] (sp_is_line K) := ⟨_, _, ok_is_line F5 C_is_natural m_isinstance m_tuple m_str m_len m_all m_zip m_LENGTHS k_LENGTHS q_LENGTHS_stop q_LENGTHS_inc q_LENGTHS_dec, PySem.W.mg_of X G a5, F5.kp, b5⟩
  have C__demand_machine : Cal l.prog w K mg base "_demand_machine" 4 ["registers", "lines"] (sp__demand_machine K) := ⟨_, _, ok__demand_machine F6 C_is_number C_is_line m_isinstance m_list m_tuple m_len m_enumerate m_MOST_REGISTERS m_MOST_LINES m_STOP k_STOP, PySem.W.mg_of X G a6, F6.kp, b6⟩
  have C_Machine___init__ : CalI l.prog w K mg base c_Machine "Machine" 5 ["self", "registers", "lines"] (sp_Machine___init__ K c_Machine) := ⟨_, _, ok_Machine___init__ F7 C__demand_machine m_len m_tuple T_Machine, ⟨mk_Machine, a7, i7, kc_Machine⟩, PySem.W.mg_of X G aC_Machine, b7⟩
  have C_Machine_table : CalM l.prog w K mg base c_Machine "table" 1 ["self"] (sp_Machine_table K c_Machine) := ⟨_, _, ok_Machine_table F8 m_list T_Machine, ⟨a8, i8, k8⟩, b8⟩
  have C__law_inputs : Cal l.prog w K mg base "_law_inputs" 2 ["numbers", "place", "registers"] (sp__law_inputs K) := ⟨_, _, ok__law_inputs F9 C__law_take m_tuple m_range, PySem.W.mg_of X G a9, F9.kp, b9⟩
  have C__law_step : Cal l.prog w K mg base "_law_step" 1 ["lines", "spot"] (sp__law_step K) := ⟨_, _, ok__law_step F10 , PySem.W.mg_of X G a10, F10.kp, b10⟩
  have C__law_run : Cal l.prog w K mg base "_law_run" 2 ["lines", "inputs", "most"] (sp__law_run K) := ⟨_, _, ok__law_run F11 C__law_step m_range, PySem.W.mg_of X G a11, F11.kp, b11⟩
  have C_Machine_line : CalM l.prog w K mg base c_Machine "line" 3 ["self", "number"] (sp_Machine_line K c_Machine) := ⟨_, _, ok_Machine_line F12 C_is_natural T_Machine, ⟨a12, i12, k12⟩, b12⟩
  have C__changed : Cal l.prog w K mg base "_changed" 1 ["registers", "place", "difference"] (sp__changed K) := ⟨_, _, ok__changed F13 m_list m_tuple, PySem.W.mg_of X G a13, F13.kp, b13⟩
  have C_Machine_step : CalM l.prog w K mg base c_Machine "step" 4 ["self", "configuration"] (sp_Machine_step K c_Machine) := ⟨_, _, ok_Machine_step F14 C_Machine_line C__changed m_tuple m_STOP k_STOP T_Machine, ⟨a14, i14, k14⟩, b14⟩
  have C_Machine_run : CalM l.prog w K mg base c_Machine "run" 5 ["self", "inputs", "most"] (sp_Machine_run K c_Machine) := ⟨_, _, ok_Machine_run F15 C_Machine_step m_tuple m_len T_Machine, ⟨a15, i15, k15⟩, b15⟩
  have C__law_nearly : Cal l.prog w K mg base "_law_nearly" 1 ["run", "number"] (sp__law_nearly K) := ⟨_, _, ok__law_nearly F16 m_len m_list, PySem.W.mg_of X G a16, F16.kp, b16⟩
  have C__law_same : Cal l.prog w K mg base "_law_same" 4 ["actual", "expected"] (sp__law_same K) := ⟨_, _, ok__law_same F17 m_isinstance m_tuple m_len m_range m_str m_int m_bool (PySem.W.mg_of X G a17) F17.kp b17, PySem.W.mg_of X G a17, F17.kp, b17⟩
  have C_stops : Cal l.prog w K mg base "stops" 4 ["machine", "run"] (sp_stops K c_Machine) := ⟨_, _, ok_stops F18 C_Machine_line m_len m_STOP k_STOP T_Machine, PySem.W.mg_of X G a18, F18.kp, b18⟩
  have C_is_tuple_of : Cal l.prog w K mg base "is_tuple_of" 3 ["value", "count"] (sp_is_tuple_of K) := ⟨_, _, ok_is_tuple_of F19 C_is_natural m_isinstance m_tuple m_len m_all, PySem.W.mg_of X G a19, F19.kp, b19⟩
  have C__is_configuration : Cal l.prog w K mg base "_is_configuration" 4 ["machine", "value"] (sp__is_configuration K c_Machine) := ⟨_, _, ok__is_configuration F20 C_is_natural C_is_tuple_of m_isinstance m_tuple m_len T_Machine, PySem.W.mg_of X G a20, F20.kp, b20⟩
  have C_is_run : Cal l.prog w K mg base "is_run" 5 ["machine", "value"] (sp_is_run K c_Machine) := ⟨_, _, ok_is_run F21 C_stops C__is_configuration C_Machine_step m_isinstance m_list m_all m_zip T_Machine, PySem.W.mg_of X G a21, F21.kp, b21⟩
  have C__law_is_run : Cal l.prog w K mg base "_law_is_run" 2 ["lines", "registers", "run"] (sp__law_is_run K) := ⟨_, _, ok__law_is_run F22 C__law_step m_isinstance m_list m_len m_range m_tuple m_int m_bool m_min, PySem.W.mg_of X G a22, F22.kp, b22⟩
  exact ok_law F23 C__law_numbers C__law_machine C_Machine___init__ C_Machine_table C__law_inputs C__law_run C_Machine_run C__law_nearly C__law_take C__law_same C_is_run C__law_is_run C_Machine_line C_Machine_step C__law_step C_stops m_list m_range m_len m_isinstance m_tuple T_Machine
end RR
open PySem PySem.W PyProof.Rows
set_option maxHeartbeats 0 in
theorem PySem.Challenge.cw_runroots_k06_machines_run_holds : PySem.Challenge.rw_runroots_k06_machines_run.Holds := by
  w_on; o_law; k_head; (case hw => w_witness2)
  k_fill
  refine L2.walk_of (l := PySem.Challenge.rw_runroots_k06_machines_run) (n := 63) (k := 7) (x := "script") (CX := fun _ => L2.CX0) (sp := fun w => RR.sp_law _) rfl (by decide) rfl ⟨rfl, by decide, by decide⟩ (fun w h Y => PySem.W.kIn_of Y) ?F (fun _ _ a ns hl _ hS => ⟨a, ns, rfl, hS, hl, fun _ => rfl⟩) (fun _ _ _ _ _ h => h)
  case F =>
    intro w mg fa h KX G hmg
    refine' RR.all_mk KX G hmg ?a0 ?l0 ?c0 ?k0 ?a1 ?l1 ?c1 ?k1 ?a2 ?l2 ?c2 ?k2 ?a3 ?l3 ?c3 ?k3 ?a4 ?l4 ?c4 ?k4 ?a5 ?l5 ?c5 ?k5 ?a6 ?l6 ?c6 ?k6 ?a7 ?i7 ?l7 ?c7 ?k7 ?a8 ?i8 ?l8 ?c8 ?k8 ?a9 ?l9 ?c9 ?k9 ?a10 ?l10 ?c10 ?k10 ?a11 ?l11 ?c11 ?k11 ?a12 ?i12 ?l12 ?c12 ?k12 ?a13 ?l13 ?c13 ?k13 ?a14 ?i14 ?l14 ?c14 ?k14 ?a15 ?i15 ?l15 ?c15 ?k15 ?a16 ?l16 ?c16 ?k16 ?a17 ?l17 ?c17 ?k17 ?a18 ?l18 ?c18 ?k18 ?a19 ?l19 ?c19 ?k19 ?a20 ?l20 ?c20 ?k20 ?a21 ?l21 ?c21 ?k21 ?a22 ?l22 ?c22 ?k22 ?a23 ?l23 ?c23 ?k23 ?aC_Machine ?pg_Machine ?hd_Machine ?po_Machine ?sa_Machine ?mk_Machine ?kc_Machine ?n_Machine_registers ?n_Machine_size ?n_Machine__lines ?z_range ?z_len ?z_abs ?z_int ?z_isinstance ?z_bool ?z_tuple ?z_str ?z_all ?z_zip ?z_list ?z_enumerate ?z_min ?z_LENGTHS ?lk_LENGTHS ?kl_LENGTHS ?lo_LENGTHS ?q_LENGTHS_stop ?q_LENGTHS_inc ?q_LENGTHS_dec ?z_MOST_REGISTERS ?z_MOST_LINES ?z_STOP ?lk_STOP ?co_STOP
    (case aC_Machine => k_is); (case a0 => k_is); (case l0 => k_is); (case c0 => k_is); (case k0 => k_is); (case a1 => k_is); (case l1 => k_is); (case c1 => k_is); (case k1 => k_is); (case a2 => k_is); (case l2 => k_is); (case c2 => k_is); (case k2 => k_is); (case a3 => k_is); (case l3 => k_is); (case c3 => k_is); (case k3 => k_is); (case a4 => k_is); (case l4 => k_is); (case c4 => k_is); (case k4 => k_is); (case a5 => k_is); (case l5 => k_is); (case c5 => k_is); (case k5 => k_is); (case a6 => k_is); (case l6 => k_is); (case c6 => k_is); (case k6 => k_is); (case a7 => k_is); (case i7 => k_is); (case l7 => k_is); (case c7 => k_is); (case k7 => k_is); (case a8 => k_is); (case i8 => k_is); (case l8 => k_is); (case c8 => k_is); (case k8 => k_is); (case a9 => k_is); (case l9 => k_is); (case c9 => k_is); (case k9 => k_is); (case a10 => k_is); (case l10 => k_is); (case c10 => k_is); (case k10 => k_is); (case a11 => k_is); (case l11 => k_is); (case c11 => k_is); (case k11 => k_is); (case a12 => k_is); (case i12 => k_is); (case l12 => k_is); (case c12 => k_is); (case k12 => k_is); (case a13 => k_is); (case l13 => k_is); (case c13 => k_is); (case k13 => k_is); (case a14 => k_is); (case i14 => k_is); (case l14 => k_is); (case c14 => k_is); (case k14 => k_is); (case a15 => k_is); (case i15 => k_is); (case l15 => k_is); (case c15 => k_is); (case k15 => k_is); (case a16 => k_is); (case l16 => k_is); (case c16 => k_is); (case k16 => k_is); (case a17 => k_is); (case l17 => k_is); (case c17 => k_is); (case k17 => k_is); (case a18 => k_is); (case l18 => k_is); (case c18 => k_is); (case k18 => k_is); (case a19 => k_is); (case l19 => k_is); (case c19 => k_is); (case k19 => k_is); (case a20 => k_is); (case l20 => k_is); (case c20 => k_is); (case k20 => k_is); (case a21 => k_is); (case l21 => k_is); (case c21 => k_is); (case k21 => k_is); (case a22 => k_is); (case l22 => k_is); (case c22 => k_is); (case k22 => k_is); (case a23 => k_is); (case l23 => k_is); (case c23 => k_is); (case k23 => k_is); (case pg_Machine => k_is); (case hd_Machine => k_is); (case po_Machine => k_is); (case sa_Machine => k_is); (case mk_Machine => k_is); (case kc_Machine => k_is); (case n_Machine_registers => k_is); (case n_Machine_size => k_is); (case n_Machine__lines => k_is); (case z_range => k_is); (case z_len => k_is); (case z_abs => k_is); (case z_int => k_is); (case z_isinstance => k_is); (case z_bool => k_is); (case z_tuple => k_is); (case z_str => k_is); (case z_all => k_is); (case z_zip => k_is); (case z_list => k_is); (case z_enumerate => k_is); (case z_min => k_is); (case z_LENGTHS => k_is); (case lk_LENGTHS => k_is); (case q_LENGTHS_stop => k_is); (case q_LENGTHS_inc => k_is); (case q_LENGTHS_dec => k_is); (case z_MOST_REGISTERS => k_is); (case z_MOST_LINES => k_is); (case z_STOP => k_is); (case lk_STOP => k_is); (case kl_LENGTHS => exact ⟨⟨_, _, rfl, rfl⟩, ⟨_, _, rfl, rfl⟩, ⟨_, _, rfl, rfl⟩, True.intro⟩); (case lo_LENGTHS => exact rfl); (case co_STOP => exact RR.TupO.by_ rfl rfl (by decide) (by repeat (first | exact .nil | refine .cons ⟨_, rfl⟩ ?_)))
