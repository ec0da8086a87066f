import PyProof.Rows.All
import Wide.All
import OpenK.AllK
import Wide.FinOn
import PySem.Challenge.RW_nestedwishes_k81_growths
import HandS.ExcCtx
import HandS.ExcInit
import HandS.ExcIs
import HandS.ForExc
import HandS.ForMost
import HandS.IsInst
import HandS.More
import HandS.Property
import HandS.SlotsOwn
import HandS.Sort
import HandS.SortKw
import HandS.Star
import HandS.Style
import HandS.TupAny
import HandS.TupLe
import HandS.TupMul
import HandS.Walk
import HandS.Wide
import KE.DataMinMax
import KE.KExcIs
import KE.KOpsOwn
import KE.KRevSl
set_option Elab.async false
set_option linter.all false
set_option maxRecDepth 100000
set_option maxHeartbeats 4000000
namespace NW
open PySem PySem.Spec PyProof.Rows L2
/-! ### own + and << -/
structure OpM (K : PySem.W.Frag) (C f : Addr) (nm : Str) : Prop where
  at_ : PySem.W.findIn K (.ref C) nm = some (some (.ref f))
  fn : PySem.W.isFn K (.ref f) = true
/-- how a built-in class answers to << from the right -/
structure ShT (K : PySem.W.Frag) (C : Addr) (T : String) : Prop where
  l : ∃ o, PySem.W.findIn K (.type T) "__lshift__" = some o
  r : ∃ o, PySem.W.findIn K (.type T) "__rlshift__" = some o
  s : PySem.W.subIn K (.type T) (.ref C) = some false
section
variable {prog : Program} {w : World} {A : Around} {E : Value → Shared → Prop} {s : Shared} {K : PySem.W.Frag} {x C L f : Addr} {h₀ : Heap} {m : Str → Option Value} {ox : Obj} {od : Option Obj} {T : String}
open PySem.W in
/-- x << b, x of an own class with __lshift__, b of a built-in class -/
theorem shl_own {b : Value} {fo ro : Option Value} {Q : Value → Shared → Prop} (XK : K.In s.heap) (I : InstAt s.heap x ox C od) (tb : Looks (model prog w) s.heap (typeOf b) (.type T)) (sf : selfFirst K C = true)
    (own : findIn K (.ref C) "__lshift__" = some (some (.ref f))) (isf : isFn K (.ref f) = true) (back : findIn K (.ref C) "__rlshift__" = some Option.none)
    (bl : findIn K (.type T) "__lshift__" = some fo) (br : findIn K (.type T) "__rlshift__" = some ro) (sb : subIn K (.type T) (.ref C) = some false)
    (h : wpAny (model prog w) A (call (.ref f) [.ref x, b]) (PySem.W.CmpBack Q) E s) : wpAny (model prog w) A (binaryOp .LShift (.ref x) b) Q E s := by
  obtain ⟨cd, rest, ccd, mro⟩ := ksp_first sf
  have one := ksp_try XK I own isf h
  obtain ⟨hp, g, d, tk, os⟩ := s
  have y1 : Looks (model prog w) hp (typeOf (.ref x)) (.ref C) := I.type
  have y2 : Looks (model prog w) hp (fillsNumberSlot (.ref C) "lshift") true := fills_K XK ccd mro own
  have y3 : Looks (model prog w) hp (fillsNumberSlot (.type T) "lshift") _ := ksp_fillsT XK bl br
  have y4 : Looks (model prog w) hp (isSubtype (.type T) (.ref C)) false := looks_subIn XK sb
  have y5 : Looks (model prog w) hp (numberSlotInPython (.ref C) "lshift") true := ksp_inPy XK own back (.inl rfl)
  have y6 : Looks (model prog w) hp (numberSlotInPython (.type T) "lshift") false := Looks.of_pure rfl
  have y7 : Looks (model prog w) hp (typeLookup (.type T) (dunderR "lshift")) ro := looks_findIn XK br
  generalize ((fo.isSome && !isSeqSlot fo) || (ro.isSome && !isSeqSlot ro)) = right at y3
  have ne : (Value.ref C == Value.type T) = false := Bool.eq_false_iff.mpr fun q => nomatch beq_iff_eq.mp q
  unfold binaryOp
  refine wpAny_holding (wpAny_bind ?_)
  unfold binaryOp1
  show wpAny _ _ (typeOf (.ref x) >>= _) _ _ _
  refine wpAny_bind (y1.at (wpAny_bind (tb.at (wpAny_bind (y2.at ?_)))))
  simp only [ne, Bool.false_eq_true, if_false]
  cases right with
  | false =>
    ksp_lk
    refine wpAny_mono one (fun r s' z => ?_) fun _ _ e => e
    obtain ⟨v, rfl, hq⟩ := z
    ksp_lk
    exact hq
  | true =>
    ksp_lk
    refine wpAny_mono one (fun r s' z => ?_) fun _ _ e => e
    obtain ⟨v, rfl, hq⟩ := z
    ksp_lk
    exact hq
end
section
variable {X : Cx} {CX : CXT} {k : Nat} {C f : Addr} {fd : FuncData} {ps : List Str} {sp : Sp} {E : L2.St → XK} {E1 : XK} {e1 e2 : Expr} {ta tb : TE} {t : TA} {pos p : Pos} {x : Str} {e : Expr} {es : List Expr}
def tShlX (K : PySem.W.Frag) (C : Addr) (sp : Sp) (E : L2.St → XK) (ta tb : TE) : TE := fun σ H Q => ta σ H fun x H1 => tb σ H1 fun y H2 => ∃ a dx fs T, x = .ref a ∧ H2 a = some (.ins C dx fs) ∧ TyX K H2 y (.type T) ∧ ShT K C T ∧ sp [x, y] H2 Q (E σ)
theorem pe_shlX (m : OpM X.K C f "__lshift__") (hc : PySem.W.selfFirst X.K C = true) (nr : PySem.W.findIn X.K (.ref C) "__rlshift__" = some none) (F : FnOk X.prog X.w X.K X.mg X.base CX k f fd ps sp) (hr : Room k X.A) (hb : Binds X.K fd ps []) (hx : ∀ σ, PassesAt CX X σ (E σ))
    (ha : PE X e1 ta) (hb' : PE X e2 tb) : PE X (.BinOp e1 .LShift e2 pos) (tShlX X.K C sp E ta tb) := by
  refine ⟨fun pins s σ H Q I h => ?_⟩
  refine wpAny_BinOp (binT ha hb' I h fun v u s2 x y H2 I2 rx ry q => ?_)
  obtain ⟨a, dx, fs, T, rfl, ea, ty, sh, q⟩ := q
  cases rx
  obtain ⟨mA, O, _⟩ := ins_get I2.hok ea
  obtain ⟨od, J, _⟩ := O.look
  obtain ⟨P, KT, hP, _⟩ := kit_of I2 ry ty
  obtain ⟨fo, hfo⟩ := sh.l
  obtain ⟨ro, hro⟩ := sh.r
  refine shl_own I2.kIn J (KT.ty _ _ I2.kIn hP) hc m.at_ m.fn nr hfo hro sh.s ?_
  refine wpAny_mono (run_fnS (us := [.ref a, u]) (vs := [.ref a, y]) F hr hb (hx σ) I2 (.cons rfl (.cons ry .nil)) q) (fun w s' z => ?_) fun _ _ z => z
  obtain ⟨z', H', I', rz, qz⟩ := z
  exact SlX.cmpback rz ⟨z', H', I', rz, qz⟩
/-- x + y, both of one own class -/
theorem op_ownAdd (m : OpM X.K C f "__add__") (hc : PySem.W.selfFirst X.K C = true) (F : FnOk X.prog X.w X.K X.mg X.base CX k f fd ps sp) (hr : Room k X.A) (hb : Binds X.K fd ps []) (hx : Passes CX X E1) :
    OpR X (binaryOp .Add) (fun x y H Q => ∃ a b dx dy fs gs, x = .ref a ∧ y = .ref b ∧ H a = some (.ins C dx fs) ∧ H b = some (.ins C dy gs) ∧ sp [x, y] H Q E1) := by
  intro pins s σ H x y v u Q I rx ry h
  obtain ⟨a, b, dx, dy, fs, gs, rfl, rfl, ea, eb, q⟩ := h
  cases rx
  cases ry
  obtain ⟨mA, O, _⟩ := ins_get I.hok ea
  obtain ⟨mB, O', _⟩ := ins_get I.hok eb
  obtain ⟨od, J, _⟩ := O.look
  obtain ⟨od', J', _⟩ := O'.look
  obtain ⟨fm, hF⟩ := I.fr
  refine PySem.W.binop_K (op := .Add) hF I.ok.mod.kin J J'.type hc m.at_ m.fn ?_
  refine wpAny_mono (run_fn (us := [.ref a, .ref b]) (vs := [.ref a, .ref b]) F hr hb .nil hx I (.cons rfl (.cons rfl .nil)) (by rw [List.append_nil]; exact q)) (fun w s' z => ?_) fun _ _ z => z
  obtain ⟨z', H', I', rz, qz⟩ := z
  exact SlX.cmpback rz ⟨z', H', I', rz, qz⟩
/-- x == y, x of an own class with __eq__, y of a built-in class -/
theorem op_ownEqT (m : OpM X.K C f "__eq__") (F : FnOk X.prog X.w X.K X.mg X.base CX k f fd ps sp) (hr : Room k X.A) (hb : Binds X.K fd ps []) (hx : Passes CX X E1) :
    OpR X (compareOp .Eq) (fun x y H Q => ∃ a dx fs t, x = .ref a ∧ H a = some (.ins C dx fs) ∧ TyX X.K H y t ∧ PySem.W.notFirst X.K C t = true ∧ sp [x, y] H Q E1) := by
  intro pins s σ H x y v u Q I rx ry h
  obtain ⟨a, dx, fs, t, rfl, ea, ty, hn, q⟩ := h
  cases rx
  obtain ⟨mA, O, _⟩ := ins_get I.hok ea
  obtain ⟨od, J, _⟩ := O.look
  obtain ⟨P, KT, hP, _⟩ := kit_of I ry ty
  obtain ⟨fm, hF⟩ := I.fr
  refine PySem.W.cmp_K (op := .Eq) hr.units0 hF I.ok.mod.kin J (KT.ty _ _ I.kIn hP) hn m.at_ m.fn ?_
  refine wpAny_mono (run_fn (us := [.ref a, u]) (vs := [.ref a, y]) F hr hb .nil hx I (.cons rfl (.cons ry .nil)) (by rw [List.append_nil]; exact q)) (fun w s' z => ?_) fun _ _ z => z
  obtain ⟨z', H', I', rz, qz⟩ := z
  exact SlX.cmpback rz ⟨z', H', I', rz, qz⟩
/-! ### an instance called, where something may be raised -/
theorem code_fnS {pins : List (Addr × Obj)} {σ : L2.St} {H : Hp} {s : Shared} {Q : VK} {us : List Value} {vs : List V} (F : FnOk X.prog X.w X.K X.mg X.base CX k f fd ps sp) (hr : Room k X.A) (hb : Binds X.K fd ps []) (hx : PassesAt CX X σ (E σ)) (I : Inv X pins σ H s) (r : Vals vs us) (h : sp vs H Q (E σ)) :
    codeAny (model X.prog X.w) X.A (.call (.ref f) ⟨us, []⟩) (fun r s' => match r with | .ok (.ret v) => EP X pins σ Q v s' | .ok _ => False | .error e => X.xe e s') s := by
  have few : us.length = ps.length := by rw [← r.length]; exact F.len _ _ _ _ h
  have bnd := hb s us I.kIn (by rw [List.append_nil]; exact few)
  rw [List.append_nil] at bnd
  refine codeAny_mono (F.run X.A X.stack s H ⟨us, []⟩ us vs Q (E σ) hr I.env0 bnd r h) fun res s' done => ?_
  cases res with
  | error er => exact hx pins H s er s' I done
  | ok fl =>
    cases fl with
    | ret u => exact I.after done
    | next => exact done.elim
    | brk => exact done.elim
    | cont => exact done.elim
def tCallX (C : Addr) (sp : Sp) (E : L2.St → XK) (tf : TE) (t : TA) : TE := fun σ H Q => tf σ H fun y H1 => ∃ a, y = V.ref a ∧ t σ H1 fun vs H2 => ∃ dx fs, H2 a = some (.ins C dx fs) ∧ sp (.ref a :: vs) H2 Q (E σ)
theorem pe_callX (hf : PE X e1 ta) (c : StX.CallO X.K C f) (F : FnOk X.prog X.w X.K X.mg X.base CX k f fd ps sp) (hr : Room k X.A) (hb : Binds X.K fd ps []) (hx : ∀ σ, PassesAt CX X σ (E σ)) (ha : PA X (e :: es) t)
    (ht : eval (.Call e1 (e :: es) [] pos) X.env = (do callWith pos (← eval e1 X.env) [] (backTo pos (starEach (e :: es) X.env)) (backToKw pos (keywordEach [] X.env))) := by rfl)
    (he : starEach (e :: es) X.env = (false, eval e X.env) :: starEach es X.env := by rfl) (hpl : (backTo pos (starEach es X.env)).any (·.1) = false := by rfl) : PE X (.Call e1 (e :: es) [] pos) (tCallX C sp E ta t) := by
  refine ⟨fun pins s σ H Q I h => ?_⟩
  refine Call_ (thn (hf.run pins s σ H _ I h) fun u s1 ⟨y, H1, I1, ry, a, ey, q⟩ => ?_) ht
  subst ey
  cases ry
  refine StX.callO_with (thn (ha.run pos pins s1 σ H1 _ I1 q) fun us s2 ⟨vs, H2, I2, r, dx, fs, ea, q2⟩ => ?_) he hpl
  obtain ⟨mA, O, _⟩ := ins_get I2.hok ea
  obtain ⟨od, J, _⟩ := O.look
  exact ⟨⟨C, _, _, J, rfl⟩, wpAny_call (PySem.W.kco_code I2.kIn J rfl c.at_ c.fn c.fi (code_fnS (us := .ref a :: us) (vs := .ref a :: vs) F hr hb (hx σ) I2 (.cons rfl r) q2))⟩
/-! ### C(e, ..), where __init__ may raise -/
def tMakeX (C : Addr) (sp : Sp) (E : L2.St → XK) (t : TA) : TE := fun σ H Q => t σ H fun vs H1 => ∀ x dx, H1 x = none → H1 dx = none → dx ≠ x → sp (.ref x :: vs) (upd (upd H1 dx (.own x)) x (.ins C dx [])) (fun v H2 => v = .non ∧ Q (.ref x) H2) (E σ)
theorem pe_makeX (M : Mk X.K C f) (F : FnOk X.prog X.w X.K X.mg X.base CX k f fd ps sp) (hr : Room (k + 1) X.A) (hg : Gl X x) (hm : X.mg x = some (.ref C)) (hb : Binds X.K fd ps []) (hx : ∀ σ, PassesAt CX X σ (E σ))
    (ha : PA X (e :: es) t) (hdb : (x == ("__debug__" : Str)) = false := by decide) (he : starEach (e :: es) X.env = (false, eval e X.env) :: starEach es X.env := by rfl) (hpl : (backTo pos (starEach es X.env)).any (·.1) = false := by rfl) :
    PE X (.Call (.Name x p) (e :: es) [] pos) (tMakeX C sp E t) := by
  refine ⟨fun pins s σ H Q I h => ?_⟩
  refine wpAny_Call_Name_kw (ld_glob I hg hm ?_ hdb)
  refine PySem.W.callWith_K (h₀ := X.base) I.ok.mod.kin M.kp (thn (ha.run pos pins s σ H _ I h) fun us s1 ⟨vs, H1, I1, r, q⟩ => ⟨I1.kIn, ?_⟩) he hpl
  have free := q (s1.heap.objs.size + 1) s1.heap.objs.size (I1.hok.fresh (Nat.le_succ _)) (I1.hok.fresh (Nat.le_refl _)) (Nat.ne_of_lt (Nat.lt_succ_self _))
  have J := Inv.made (C := C) I1
  have r2 : Vals (V.ref (s1.heap.objs.size + 1) :: vs) (Value.ref (s1.heap.objs.size + 1) :: us) := .cons rfl r
  have hl : (Value.ref (s1.heap.objs.size + 1) :: us).length = ps.length := by rw [← r2.length]; exact F.len _ _ _ _ free
  have bnd := hb _ (Value.ref (s1.heap.objs.size + 1) :: us) J.kIn (by rw [List.append_nil]; exact hl)
  rw [List.append_nil] at bnd
  show wpAny _ _ (call (.ref C) us) _ _ _
  refine wpAny_call (make_map (f := f) I1.kIn M.makes M.init (beq_iff_eq.mp M.fn) (codeAny_mono (F.run _ X.stack _ _ ⟨Value.ref (s1.heap.objs.size + 1) :: us, []⟩ _ _ _ (E σ) (hr.make C us []) (J.env0.make C us []) bnd r2 free) fun res s' done => ?_))
  cases res with
  | error er => exact hx σ pins _ _ er s' J done
  | ok fl =>
    cases fl with
    | ret u =>
      obtain ⟨v, H', I3, rv, ev, q3⟩ := J.after done
      subst ev
      exact ⟨rv, .ref (s1.heap.objs.size + 1), H', I3, rfl, q3⟩
    | next => exact done.elim
    | brk => exact done.elim
    | cont => exact done.elim
end
end NW
namespace NW
open PySem PySem.Spec PyProof.Rows L2
/-! ### t * k for a tuple that is not empty, any k from 0 on -/
theorem tuple_mul_one (l : Addr) (items : Array Value) (n : Nat) (dd : Option Addr) (sl : Array (Option Value)) (u : Tok) :
    Meets (Builtin.«tuple.__mul__» ⟨[.ref l, .int 1 u], []⟩) (fun _ R s => s.heap.get? l = some { cls := .type "tuple", dict := dd, data := .seq items n, slots := sl } ∧ R (.ok (.ret (Value.ref l))) s) :=
  .of_wp fun prog w A R s h => by
    obtain ⟨hp, g, d, tk, os⟩ := s
    obtain ⟨hl, h⟩ := h
    have f1 := AutoSeq1.idx_int
    have b0 : (decide ((1 : Int) < -(2 ^ 63)) || decide ((1 : Int) ≥ 2 ^ 63)) = false := by decide
    have b1 : (items.isEmpty || (1 : Int) == 1) = true := by rw [Bool.or_eq_true]; exact .inr rfl
    wp_walk using wpAny_loadPart' hl
    repeat (first
      | (refine wpAny_ite_false (decide_eq_false (by rw [b0]; exact Bool.false_ne_true)) ?_; wp_walk using wpAny_loadPart' hl)
      | (refine wpAny_ite_true (decide_eq_true b1) ?_; wp_walk using wpAny_loadPart' hl))
    exact ⟨_, rfl, h⟩
theorem tuple_mul_zero (l : Addr) (items : Array Value) (n : Nat) (dd : Option Addr) (sl : Array (Option Value)) (u : Tok) (he : items.isEmpty = false) :
    Meets (Builtin.«tuple.__mul__» ⟨[.ref l, .int 0 u], []⟩) (fun _ R s => s.heap.get? l = some { cls := .type "tuple", dict := dd, data := .seq items n, slots := sl } ∧
      R (.ok (.ret (Value.ref s.heap.objs.size))) { s with heap := s.heap.push { cls := Value.type "tuple", data := Data.seq #[] }, toks := s.toks }) :=
  .of_wp fun prog w A R s h => by
    obtain ⟨hp, g, d, tk, os⟩ := s
    obtain ⟨hl, h⟩ := h
    have f1 := AutoSeq1.idx_int
    have b0 : (decide ((0 : Int) < -(2 ^ 63)) || decide ((0 : Int) ≥ 2 ^ 63)) = false := by decide
    have b1 : (items.isEmpty || (0 : Int) == 1) = false := by rw [he]; rfl
    have b2 : (decide ((0 : Int) ≤ 0) || items.isEmpty) = true := by rw [he]; rfl
    wp_walk using wpAny_loadPart' hl
    repeat (first
      | (refine wpAny_ite_false (decide_eq_false (by rw [b0]; exact Bool.false_ne_true)) ?_; wp_walk using wpAny_loadPart' hl)
      | (refine wpAny_ite_false (decide_eq_false (by rw [b1]; exact Bool.false_ne_true)) ?_; wp_walk using wpAny_loadPart' hl)
      | (refine wpAny_ite_true (decide_eq_true b2) ?_; wp_walk using wpAny_loadPart' hl)
      | (refine wpAny_ite_false (decide_eq_false (by decide)) ?_; wp_walk using wpAny_loadPart' hl))
    exact ⟨_, rfl, h⟩
def rRepA (K : PySem.W.Frag) : R2 := fun x y H Q => ∃ (l : Addr) (k : Nat) (v : V), x = .ref l ∧ y = .int (k : Int) ∧ H l = some (.tup [v]) ∧ k ≤ 1000 ∧ ∀ p H', L2.Same H H' → H' p = some (.tup (List.replicate k v)) → Q (.ref p) H'
section
variable {X : Cx}
theorem op_repA : OpR X (binaryOp .Mult) (rRepA X.K) := by
  intro pins s σ H x y v u Q I rx ry h
  obtain ⟨l, k, z, rfl, rfl, hl, hk, q⟩ := h
  match k, hk, ry, q with
  | 0, _, ry, q =>
    cases rx
    obtain ⟨t, rfl⟩ := ry
    obtain ⟨its, r, ⟨⟨cls, dd, data, sl⟩, ho, hc, n, hd⟩, hs⟩ := I.tuple (a := l) (xs := [z]) (.inl (.inl hl))
    simp only at hc hd
    subst hc hd
    have hi : its.toArray.isEmpty = false := by
      have hle : its.length = 1 := r.length.symm
      cases its with
      | nil => cases hle
      | cons a b => rfl
    refine wpAny_binaryOp_repeat_ref (T := "tuple") (U := "int") (by decide) ⟨_, ho, rfl⟩ (fun s' => typeIs_int s' 0 t) noFill_tuple_mul F.fills_int_mul F.slot_int_rmul repeat_tuple F.slot_int_index.lookup
      (call_meets F.slot_int_rmul (typeIs_int s 0 t) F.entry_int_rmul (F.args_int_rmul_2 _ _) (int_rmul_tuple 0 t l its.toArray n dd sl)
        ⟨ho, rfl, ⟨_, ho, rfl⟩, call_meets F.slot_tuple_mul ⟨_, ho, rfl⟩ F.entry_tuple_mul (F.args_tuple_mul_2 _ _) (tuple_mul_zero l its.toArray n dd sl t hi) ⟨ho, ?_⟩⟩)
    have np := I.hok.fresh (Nat.le_refl s.heap.objs.size)
    refine ⟨.ref s.heap.objs.size, _, I.laid (t' := s.toks) (o := .tup []) (fun b ob q => Heap.get?_push_of_some _ q) (Nat.le_refl _) ⟨Nat.zero_le _, [], .nil, IsTup.new _ _⟩, rfl, q _ _ (fun b o e => by rw [upd_ne (ne_of_none e np)]; exact e) upd_same⟩
  | 1, _, ry, q =>
    cases rx
    obtain ⟨t, rfl⟩ := ry
    obtain ⟨its, r, ⟨⟨cls, dd, data, sl⟩, ho, hc, n, hd⟩, hs⟩ := I.tuple (a := l) (xs := [z]) (.inl (.inl hl))
    simp only at hc hd
    subst hc hd
    refine wpAny_binaryOp_repeat_ref (T := "tuple") (U := "int") (by decide) ⟨_, ho, rfl⟩ (fun s' => typeIs_int s' 1 t) noFill_tuple_mul F.fills_int_mul F.slot_int_rmul repeat_tuple F.slot_int_index.lookup
      (call_meets F.slot_int_rmul (typeIs_int s 1 t) F.entry_int_rmul (F.args_int_rmul_2 _ _) (int_rmul_tuple 1 t l its.toArray n dd sl)
        ⟨ho, rfl, ⟨_, ho, rfl⟩, call_meets F.slot_tuple_mul ⟨_, ho, rfl⟩ F.entry_tuple_mul (F.args_tuple_mul_2 _ _) (tuple_mul_one l its.toArray n dd sl t) ⟨ho, ?_⟩⟩)
    exact ⟨.ref l, H, I, rfl, q _ _ (fun _ _ e => e) hl⟩
  | k + 2, hk, ry, q =>
    refine op_repT pins s σ H _ _ v u Q I rx ry ⟨l, ((k + 2 : Nat) : Int), [z], rfl, rfl, .inl (.inl hl), (fun z => nomatch z), by omega, by omega, by show 1 ≤ 1000; decide, fun p np => q p _ (fun b o e => by rw [upd_ne (ne_of_none e np)]; exact e) ?_⟩
    rw [upd_same, Int.toNat_natCast]
    congr 2
    rw [List.flatten_replicate_singleton]
end
end NW
namespace NW
/-! ### coefficients without zeros at the end -/
def cut : List Int → List Int
  | [] => []
  | x :: r => if cut r = [] ∧ x = 0 then [] else x :: cut r
theorem cut_snoc (x : Int) : ∀ l : List Int, cut (l ++ [x]) = if x = 0 then cut l else l ++ [x]
  | [] => by
    show (if cut [] = [] ∧ x = 0 then [] else x :: cut []) = _
    by_cases h : x = 0
    · rw [if_pos ⟨rfl, h⟩, if_pos h]
      rfl
    · rw [if_neg (fun z => h z.2), if_neg h]
      rfl
  | y :: l => by
    have ih := cut_snoc x l
    show (if cut (l ++ [x]) = [] ∧ y = 0 then [] else y :: cut (l ++ [x])) = _
    by_cases h : x = 0
    · rw [if_pos h] at ih
      rw [if_pos h, ih]
      rfl
    · rw [if_neg h] at ih
      rw [if_neg h, ih, if_neg (fun z => by simp at z)]
      rfl
theorem cut_len : ∀ l : List Int, (cut l).length ≤ l.length
  | [] => Nat.le_refl _
  | x :: r => by
    have := cut_len r
    show (if cut r = [] ∧ x = 0 then [] else x :: cut r).length ≤ _
    split
    · exact Nat.zero_le _
    · simp only [List.length_cons]
      omega
theorem cut_take : ∀ l : List Int, l.take (cut l).length = cut l
  | [] => rfl
  | x :: r => by
    have := cut_take r
    show List.take (if cut r = [] ∧ x = 0 then [] else x :: cut r).length (x :: r) = if cut r = [] ∧ x = 0 then [] else x :: cut r
    split
    · rfl
    · rw [List.length_cons, List.take_succ_cons, this]
theorem cut_ext : ∀ l m : List Int, (∀ k, l.getD k 0 = m.getD k 0) → cut l = cut m
  | [], [], _ => rfl
  | [], y :: m, h => by
    have e := cut_ext [] m fun k => by
      have := h (k + 1)
      simpa using this
    have h0 := h 0
    have hy : y = 0 := by simpa using h0.symm
    show [] = if cut m = [] ∧ y = 0 then [] else y :: cut m
    rw [if_pos ⟨e.symm, hy⟩]
  | x :: l, [], h => by
    have e := cut_ext l [] fun k => by
      have := h (k + 1)
      simpa using this
    have h0 := h 0
    have hx : x = 0 := by simpa using h0
    show (if cut l = [] ∧ x = 0 then [] else x :: cut l) = []
    rw [if_pos ⟨e, hx⟩]
  | x :: l, y :: m, h => by
    have e := cut_ext l m fun k => by
      have := h (k + 1)
      simpa using this
    have h0 := h 0
    have hx : x = y := by simpa using h0
    show (if cut l = [] ∧ x = 0 then [] else x :: cut l) = (if cut m = [] ∧ y = 0 then [] else y :: cut m)
    rw [e, hx]
theorem cut_getD : ∀ (l : List Int) (k : Nat), (cut l).getD k 0 = l.getD k 0
  | [], _ => rfl
  | x :: r, k => by
    have ih := cut_getD r
    show (if cut r = [] ∧ x = 0 then [] else x :: cut r).getD k 0 = _
    split
    · next h =>
      obtain ⟨h1, rfl⟩ := h
      cases k with
      | zero => rfl
      | succ k =>
        have := ih k
        rw [h1] at this
        simpa using this
    · cases k with
      | zero => rfl
      | succ k =>
        have := ih k
        simpa using this
theorem cut_idem (l : List Int) : cut (cut l) = cut l := cut_ext _ _ (cut_getD l)
theorem cut_zeros : ∀ n : Nat, cut (List.replicate n 0) = []
  | 0 => rfl
  | n + 1 => by
    show (if cut (List.replicate n 0) = [] ∧ (0 : Int) = 0 then [] else 0 :: cut (List.replicate n 0)) = []
    rw [if_pos ⟨cut_zeros n, rfl⟩]
theorem cut_shift {l : List Int} (h : cut l = l) (ne : l ≠ []) : ∀ n : Nat, cut (List.replicate n 0 ++ l) = List.replicate n 0 ++ l
  | 0 => h
  | n + 1 => by
    have ih := cut_shift h ne n
    show (if cut (List.replicate n 0 ++ l) = [] ∧ (0 : Int) = 0 then [] else 0 :: cut (List.replicate n 0 ++ l)) = _
    rw [if_neg, ih]
    · rfl
    · rintro ⟨z, _⟩
      rw [ih] at z
      exact ne (List.append_eq_nil_iff.mp z).2
theorem cut_mem {l : List Int} {x : Int} (h : x ∈ cut l) : x ∈ l := by
  rw [← cut_take] at h
  exact List.mem_of_mem_take h
/-- the many of cut, item by item -/
theorem many_step (l : List Int) (k : Nat) (h : k < l.length) : (cut (l.take (k + 1))).length = if l[k] = 0 then (cut (l.take k)).length else k + 1 := by
  rw [List.take_succ_eq_append_getElem h, cut_snoc]
  split
  · rfl
  · rw [List.length_append, List.length_take, Nat.min_eq_left (Nat.le_of_lt h)]
    rfl
theorem many_all (l : List Int) : (cut (l.take l.length)).length = (cut l).length := by rw [List.take_length]
/-! ### sums -/
def addL (l m : List Int) : List Int := (List.range (max l.length m.length)).map fun k => l.getD k 0 + m.getD k 0
theorem addL_getD (l m : List Int) (k : Nat) : (addL l m).getD k 0 = l.getD k 0 + m.getD k 0 := by
  unfold addL
  by_cases h : k < max l.length m.length
  · simp only [List.getD_eq_getElem?_getD, List.getElem?_map, List.getElem?_range h]
    rfl
  · have h1 : l.length ≤ k := by omega
    have h2 : m.length ≤ k := by omega
    simp only [List.getD_eq_getElem?_getD, List.getElem?_eq_none h1, List.getElem?_eq_none h2]
    rw [List.getElem?_eq_none (by simp; omega)]
    rfl
theorem cut_addL (l m : List Int) : cut (addL (cut l) (cut m)) = cut (addL l m) := cut_ext _ _ fun k => by rw [addL_getD, addL_getD, cut_getD, cut_getD]
theorem addL_len (l m : List Int) : (addL l m).length = max l.length m.length := by unfold addL; simp
/-! ### values -/
def val (c : Int) : List Int → Int
  | [] => 0
  | x :: r => val c r * c + x
theorem val_snoc (c x : Int) : ∀ l : List Int, val c (l ++ [x]) = val c l + x * c ^ l.length
  | [] => by
    show 0 * c + x = 0 + x * c ^ 0
    rw [Int.zero_mul, Int.pow_zero, Int.mul_one]
  | y :: l => by
    show val c (l ++ [x]) * c + y = val c l * c + y + x * c ^ (l.length + 1)
    rw [val_snoc c x l, Int.add_mul, Int.pow_succ, Int.mul_assoc]
    omega
theorem natAbs_pow_lt {c : Int} {b : Nat} (h : c.natAbs < 2 ^ b) (hb : 0 < b) : ∀ k : Nat, (c ^ k).natAbs < 2 ^ (b * k + 1)
  | 0 => by
    rw [Int.pow_zero]
    exact Nat.one_lt_two_pow (by omega)
  | k + 1 => by
    have ih := natAbs_pow_lt h hb k
    rw [Int.pow_succ, Int.natAbs_mul]
    calc (c ^ k).natAbs * c.natAbs < 2 ^ (b * k + 1) * 2 ^ b := Nat.mul_lt_mul'' ih h
      _ = 2 ^ (b * (k + 1) + 1) := by rw [← Nat.pow_add]; congr 1; rw [Nat.mul_succ]; omega
theorem val_lt {c : Int} (hc : c.natAbs < 2 ^ 100) : ∀ l : List Int, (∀ x ∈ l, x.natAbs < 2 ^ 90) → (val c l).natAbs < 2 ^ (101 * l.length + 90)
  | [], _ => Nat.two_pow_pos _
  | x :: l, h => by
    have ih := val_lt hc l fun y m => h y (List.mem_cons_of_mem _ m)
    have hx := h x List.mem_cons_self
    have a1 : (val c l * c).natAbs < 2 ^ (101 * l.length + 90) * 2 ^ 100 := by
      rw [Int.natAbs_mul]
      exact Nat.mul_lt_mul'' ih hc
    rw [← Nat.pow_add] at a1
    have a2 : x.natAbs < 2 ^ (101 * l.length + 90 + 100) := Nat.lt_of_lt_of_le hx (Nat.pow_le_pow_right (by decide) (by omega))
    have a3 : (val c (x :: l)).natAbs ≤ (val c l * c).natAbs + x.natAbs := Int.natAbs_add_le _ _
    have e : 2 ^ (101 * (x :: l).length + 90) = 2 * 2 ^ (101 * l.length + 90 + 100) := by
      rw [← Nat.pow_succ']
      congr 1
    omega
theorem take_rev_val (c : Int) (l : List Int) (k : Nat) (h : k < l.length) : val c (l.take (k + 1)).reverse = val c (l.take k).reverse * c + l[k] := by
  rw [List.take_succ_eq_append_getElem h, List.reverse_append]
  rfl
end NW
namespace NW
open PySem PySem.Spec PyProof.Rows L2
def topS (i : Nat) : Stmt := PySem.Challenge.pw_nestedwishes_k81_growths.main.body.getD i (.Pass ⟨0, 0, 0, 0⟩)
/-- a def of the text: where it stands, how it binds, its name -/
structure Df (K : PySem.W.Frag) (mg : Str → Option Value) (x : Str) (st : Stmt) (f : Addr) (fd : FuncData) (ps : List Str) : Prop where
  F : Fun K x x st f fd
  b : Binds K fd ps []
  g : mg x = some (.ref f)
structure Nms (mg : Str → Option Value) : Prop where
  n_len : mg "len" = none
  n_int : mg "int" = none
  n_list : mg "list" = none
  n_tuple : mg "tuple" = none
  n_range : mg "range" = none
  n_all : mg "all" = none
  n_isinstance : mg "isinstance" = none
  n_bool : mg "bool" = none
  n_max : mg "max" = none
  n_sum : mg "sum" = none
  n_ValueError : mg "ValueError" = none
structure Cst (mg : Str → Option Value) : Prop where
  MC : ∃ t, mg "MOST_COEFFICIENTS" = some (.int 40 t)
  MP : ∃ t, mg "MOST_POWER" = some (.int 20 t)
structure ErrB (K : PySem.W.Frag) (mg : Str → Option Value) (C : Addr) : Prop where
  xP : PySem.W.excIn K C [.type "ValueError", .type "Exception", .type "BaseException", .type "object"] "ValueError.__new__" = true
  gP : mg "BadNumber" = some (.ref C)
  kP : PySem.W.keepIn K (.ref C) = true
  bP : PySem.W.subIn K (.ref C) (.type "BaseException") = some true
  tP : PySem.W.typeIn K (.ref C) = some (.type "type")
structure ClT (K : PySem.W.Frag) (C : Addr) : Prop where
  cl : Cls K C
  nc : NoAttr K C "coefficients"
structure ClsI (K : PySem.W.Frag) (C : Addr) : Prop where
  ha : PySem.W.findIn K (.ref C) "__class__" = some (some (.builtin "object.__class__"))
  hn : PySem.W.specialIn K (.builtin "object.__class__") "__get__" = some (some (.builtin "getset_descriptor.__get__"))
  htk : PySem.W.takesIn K (.builtin "object.__class__") = some true
  hm : PySem.W.mroIn K C (.type "object") = some true
  isi : PySem.W.kitOne K (.ref C) (.ref C) = some true
theorem same_new {H : Hp} {p : Addr} {o : HO} (h : H p = none) : Same H (upd H p o) := fun b u e => by rw [upd_ne (ne_of_none e h)]; exact e
theorem Same.refl {H : Hp} : L2.Same H H := fun _ _ e => e
theorem Same.trans {H H1 H2 : Hp} (x : L2.Same H H1) (y : L2.Same H1 H2) : L2.Same H H2 := fun a o e => y a o (x a o e)
theorem Same.free {H H1 : Hp} (x : L2.Same H H1) {p : Addr} (h : H1 p = none) : H p = none := by
  cases q : H p with
  | none => rfl
  | some o => rw [x p o q] at h; cases h
theorem Same.tup {K : PySem.W.Frag} {a : Addr} {H H' : Hp} {xs : List V} (x : L2.Same H H') (h : SqT K H a xs) : SqT K H' a xs := by
  rcases h with (h | ⟨o, h⟩) | h
  · exact .inl (.inl (x _ _ h))
  · exact .inl (.inr ⟨o, x _ _ h⟩)
  · exact .inr h
theorem fmod_range {a m : Int} (h : 0 < m) : 0 ≤ a.fmod m ∧ a.fmod m < m := ⟨Int.fmod_nonneg_of_pos a h, Int.fmod_lt_of_pos a h⟩
/-- a growth -/
structure GrAt (C : Addr) (H : Hp) (x : Addr) (ns : List Int) : Prop where
  at_ : ∃ dx t, H x = some (.ins C dx [("coefficients", .ref t)]) ∧ H t = some (.tup (ns.map V.int))
  cut : NW.cut ns = ns
  len : ns.length ≤ 40
  pos : ∀ n ∈ ns, 0 ≤ n ∧ n.natAbs < 2 ^ 90
theorem GrAt.same {C x : Addr} {H H' : Hp} {ns : List Int} (h : GrAt C H x ns) (s : L2.Same H H') : GrAt C H' x ns := by
  obtain ⟨⟨dx, t, a, b⟩, c, l, p⟩ := h
  exact ⟨⟨dx, t, s _ _ a, s _ _ b⟩, c, l, p⟩
end NW
namespace NW
open PySem PySem.Spec PyProof.Rows L2
theorem cut1 {t1 u : TS} {D : Ends} {σ : L2.St} {H : Hp} (G : L2.St → Hp → Prop) (hr : ∀ σ' H', G σ' H' → u D σ' H') (h : (∀ σ' H', G σ' H' → u D σ' H') → tSeq t1 u D σ H) : tSeq t1 u D σ H := h hr
theorem cut2 {t1 t2 u : TS} {D : Ends} {σ : L2.St} {H : Hp} (G : L2.St → Hp → Prop) (hr : ∀ σ' H', G σ' H' → u D σ' H') (h : (∀ σ' H', G σ' H' → u D σ' H') → tSeq t1 (tSeq t2 u) D σ H) : tSeq t1 (tSeq t2 u) D σ H := h hr
theorem cut3 {t1 t2 t3 u : TS} {D : Ends} {σ : L2.St} {H : Hp} (G : L2.St → Hp → Prop) (hr : ∀ σ' H', G σ' H' → u D σ' H') (h : (∀ σ' H', G σ' H' → u D σ' H') → tSeq t1 (tSeq t2 (tSeq t3 u)) D σ H) : tSeq t1 (tSeq t2 (tSeq t3 u)) D σ H := h hr
/-- a comprehension without tests: its element -/
theorem lcT {σ : L2.St} {H : Hp} {f g : Hp → Prop} (h : f H) : tYes σ H (fun b H3 => if b = true then f H3 else g H3) := by
  show (if true = true then f H else g H)
  rw [if_pos rfl]
  exact h
theorem nz {n : Int} (h : (n == 0) = false) : n ≠ 0 := by
  intro e
  rw [e] at h
  cases h
theorem blT {p : Prop} [Decidable p] (h : p) : V.bl (decide p) = V.bl true := by rw [decide_eq_true h]
theorem blF {p : Prop} [Decidable p] (h : ¬ p) : V.bl (decide p) = V.bl false := by rw [decide_eq_false h]
theorem blNT {p : Prop} [Decidable p] (h : ¬ p) : V.bl (!decide p) = V.bl true := by rw [decide_eq_false h]; rfl
theorem blNF {p : Prop} [Decidable p] (h : p) : V.bl (!decide p) = V.bl false := by rw [decide_eq_true h]; rfl
theorem TyX.same {K : PySem.W.Frag} {H H' : Hp} {x : V} {t : Value} (s : Same H H') (h : TyX K H x t) : TyX K H' x t := by
  cases h with
  | base h =>
    cases h with
    | non => exact .base .non
    | bl b => exact .base (.bl b)
    | int i => exact .base (.int i)
    | str z => exact .base (.str z)
    | flt z => exact .base (.flt z)
    | lst e => exact .base (.lst (s _ _ e))
    | frz e => exact .base (.frz (s _ _ e))
    | tup e => exact .base (.tup (s _ _ e))
    | dK e => exact .base (.dK (s _ _ e))
    | dT e => exact .base (.dT (s _ _ e))
    | ins e cl ha hn htk hm => exact .base (.ins (s _ _ e) cl ha hn htk hm)
  | byt b => exact .byt b
  | set e => exact .set (s _ _ e)
  | kList e c => exact .kList e c
  | kTuple e c => exact .kTuple e c
  | kDict e c => exact .kDict e c
  | fTuple e => exact .fTuple (s _ _ e)
  | fDict e => exact .fDict (s _ _ e)
theorem takesA {X : Cx} : L2N.Takes X (fun _ _ _ _ => False) := fun _ _ x => by
  obtain ⟨_, _, _, _, _, _, _, _, _, _, _, _, _, _, _, _, z⟩ := x
  exact z.elim
theorem passA {X : Cx} : Passes (L2N.CX X.prog X.w) X E0 := fun _ _ _ _ _ _ I c => by
  obtain ⟨_, _, _, _, _, _, _, _, _, _, _, _, _, _, _, _, z⟩ := L2N.XE.of_call (W := fun _ _ _ _ => False) I (fun _ _ _ h => h) c
  exact z.elim
/-! ### isinstance of a caught error without fields -/
def rIsN (K : PySem.W.Frag) (C a : Addr) (cls : Value) (d : Option Addr) : List V → Hp → VK → Prop := fun xs H Q => ∃ (c : V) (cv : Value) (b : Bool), xs = [.ref a, c] ∧ cls = .ref C ∧ d = none ∧ (∀ u, RelV c u → u = cv) ∧ PySem.W.kitOne K (.ref C) cv = some b ∧ Q (.bl b) H
theorem call_isN {X : Cx} {a C : Addr} {oe : Obj} {cls : Value} {d : Option Addr} {pn : List (Addr × Obj)} (T : ExcC X.K C) (hz : Zc cls d oe) (hf : ∃ vs, oe.data = .fields vs) : CallR (X.suite a ((a, oe) :: pn)) (.builtin "isinstance") (rIsN X.K C a cls d) := by
  intro pins s σ H xs us Q I r h
  obtain ⟨c, cv, b, rfl, rfl, rfl, hcv, e, q⟩ := h
  exact call_isE T hz hf pins s σ H _ us Q I r ⟨c, cv, b, rfl, hcv, e, q⟩
section
variable {P : Program} {w : World} {K : PySem.W.Frag} {mg : Str → Option Value} {base : Heap} {CY : CXT} {nm qn : Str} {d0 : Stmt} {fa : Addr} {dat : FuncData} {NN pars : List Str} {n : Nat} {prom : Sp}
/-- a def of the text, whatever is said of what it lets out -/
theorem okC (G : Fun K nm qn d0 fa dat) (S : FnScope NN pars (defScope d0)) (ln : ∀ vs H Q E, prom vs H Q E → vs.length = pars.length)
    (go : ∀ cdv A outer s H vs Q E, Room n (A.deeper (envOfC qn (defScope d0) s.heap.objs.size fa cdv)) → prom vs H Q E → ∃ t, PSs (cxOf CY P w K mg base NN qn (defScope d0) fa cdv A outer s H E) (defBody d0) t ∧ t { nx := fun _ H' => Q .non H', rt := Q } (start NN vs) H) :
    FnOk P w K mg base CY (n + 1) fa dat pars prom := by
  obtain ⟨_, _, _, _, _, _, cdv, _, _, rfl, lk, ci⟩ := G.ex
  exact fn_of lk ci S ln (go cdv)
end
theorem same_upd {H H1 : Hp} {p : Addr} {o : HO} (x : L2.Same H H1) (h : H p = none) : L2.Same H (upd H1 p o) := fun b u e => by
  rw [upd_ne (ne_of_none e h)]
  exact x b u e
theorem gNm {i : Nat} {x : V} {σ : L2.St} {H : Hp} {Q : L2.St → Hp → Prop} (h : Q (σ.set i (some x)) H) : gName i x σ H Q := h
/-- a comprehension whose items are told by their places -/
theorem lc_map {J : It} {n j : Nat} {G : Hp → Prop} {Y : Nat → Hp → V → Hp → Prop} (w : Walk J n G Y) {te : TE} {vs : List Nat} {σ : L2.St} {H1 : Hp} {Da : Addr} {Qd : Hp → Prop} (Itm : Nat → V → Prop) (f : Nat → V)
    (hY : ∀ i H x H', i < n → Y i H x H' → H' = H ∧ Itm i x) (hG : ∀ H, L2.Same H1 H → G H) (nD : H1 Da = none) (few : n ≤ 1000) (hw : ∀ x, wipe ((wipe σ vs).set j (some x)) vs = wipe σ vs)
    (hs : ∀ i x H (Q : VK), i < n → Itm i x → L2.Same H1 H → (∀ H', L2.Same H H' → Q (f i) H') → te ((wipe σ vs).set j (some x)) H Q)
    (hd : ∀ H, L2.Same H1 H → H Da = some (.lst ((List.range n).map f)) → Qd H) :
    ∃ W : Nat → Nat → Hp → Prop, (∃ m, W 0 m (upd H1 Da (.lst []))) ∧ ∀ i m H, W i m H →
      (J.stop i H ∧ Qd H) ∨ (J.go i H ∧ ∃ Nx : Hp → Prop, (∀ H', Nx H' → ∃ m', m' < m ∧ W (i + 1) m' H') ∧ ∀ x H', J.yld i H x H' → gName j x (wipe σ vs) H' fun σ2 H2 => wipe σ2 vs = wipe σ vs ∧ tYes σ2 H2 fun b H3 =>
        if b = true then te σ2 H3 fun y H4 => ∃ acc, H4 Da = some (.lst acc) ∧ acc.length < sizeLine ∧ Nx (upd H4 Da (.lst (acc ++ [y]))) else Nx H3) := by
  refine lc_it w (fun i H' => L2.Same H1 H' ∧ H' Da = some (.lst ((List.range i).map f))) ⟨same_new nD, upd_same⟩ (fun i H _ p => hG H p.1) ?_ (fun H ⟨s, e⟩ => hd H s e)
  rintro i x H H' hi ⟨sm, e⟩ y
  obtain ⟨rfl, it⟩ := hY i H x H' hi y
  refine ⟨hw x, lcT (hs i x _ _ hi it sm fun H4 s4 => ⟨_, s4 _ _ e, ?_, same_upd (Same.trans sm s4) nD, ?_⟩)⟩
  · rw [List.length_map, List.length_range]
    exact Nat.lt_of_le_of_lt (show i ≤ 1000 by omega) (by decide)
  · rw [upd_same, List.range_succ, List.map_append]
    rfl
/-! ### max(list, default=d) of whole numbers -/
def mxD (d : Int) : List Int → Int
  | [] => d
  | n :: r => r.foldl max n
def rMaxDef (K : PySem.W.Frag) : List V → List V → Hp → VK → Prop := fun vs zs H Q => ∃ (a : Addr) (ns : List Int) (d : Int), vs = [.ref a] ∧ zs = [.int d] ∧ SqL K H a (ns.map V.int) ∧ Q (.int (mxD d ns)) H
theorem ints_dp {K : PySem.W.Frag} {H : Hp} : ∀ ns : List Int, DpAll K H (ns.map V.int) (ns.map PyData.int)
  | [] => .nil
  | n :: r => .cons (.int n) (ints_dp r)
theorem ints_depth : ∀ ns : List Int, PyData.depthAll (ns.map PyData.int) ≤ 1
  | [] => Nat.zero_le _
  | n :: r => by
    have := ints_depth r
    simp only [List.map_cons, PyData.depthAll, PyData.depth]
    omega
theorem cr_maxDef {X : Cx} (hc : X.calm = true) (hu : X.A.units + 64 < cLine) : CallRK X (.builtin "max") [Str.ofString "default"] (rMaxDef X.K) := by
  intro pins s σ H vs zs us ws Q I r rz h
  obtain ⟨a, ns, d, rfl, rfl, hs, q⟩ := h
  obtain rfl := Vals.ref1 r
  obtain ⟨w1, rfl, e1⟩ := vals1 rz
  obtain ⟨its, rv, hl, _⟩ := I.list hs
  obtain ⟨as, hr⟩ := Dp.readsAll I _ _ _ (ints_dp ns) rv
  have hd := ints_depth ns
  refine PySem.W.max_list_default (I.ok.hd hc) hl.isList hr ⟨fun x mx y my => ?_, fun x mx => ?_⟩ (by omega) (fun e h' tk hk => ?_) (fun y ys i v h' tk bs e hv hR hk => ?_)
  · obtain ⟨i, _, rfl⟩ := List.mem_map.mp mx
    obtain ⟨j, _, rfl⟩ := List.mem_map.mp my
    rfl
  · obtain ⟨i, _, rfl⟩ := List.mem_map.mp mx
    intro z
    cases z
  · have : ns = [] := List.map_eq_nil_iff.mp e
    subst this
    exact ⟨.int d, H, I.kept hk, e1, q⟩
  · cases ns with
    | nil => cases e
    | cons n r =>
      rw [List.map_cons] at e
      injection e with e2 e3
      subst e2 e3
      rw [PySem.W.maxD_ints] at hR
      refine ⟨.int (r.foldl max n), H, I.kept hk, ?_, q⟩
      cases hR
      exact ⟨_, rfl⟩
/-! ### t[::-1] -/
section
variable {prog : Program} {w : World} {A : Around} {E : Value → Shared → Prop} {s : Shared}
theorem fmCongr {α β : Type} {f g : α → Option β} : ∀ l : List α, (∀ x ∈ l, f x = g x) → l.filterMap f = l.filterMap g
  | [], _ => rfl
  | x :: r, h => by
    rw [List.filterMap_cons, List.filterMap_cons, h x List.mem_cons_self, fmCongr r fun y hy => h y (List.mem_cons_of_mem _ hy)]
theorem adjust_rev (n : Nat) : Builtin.Slice.sliceAdjust none none (-1) (n : Int) = ((n : Int) - 1, -1) := by
  unfold Builtin.Slice.sliceAdjust
  simp
theorem places_rev (n : Nat) : Builtin.Slice.slicePlaces ((n : Int) - 1) (-1) (-1) = n := by
  unfold Builtin.Slice.slicePlaces
  have h1 : ¬ ((-1 : Int) > 0) := by decide
  simp only [h1, if_false, show (- -1 : Int) = 1 from rfl, Int.ediv_one]
  split <;> omega
theorem sliceApplied_rev {sl : Addr} {n : Nat} {u : Tok} {Q : Int × Int × Nat → Shared → Prop} (hs : s.heap.IsSliceOf sl .none .none (.int (-1) u)) (h : Q ((n : Int) - 1, -1, n) s) :
    wpAny (model prog w) A (Builtin.Slice.sliceApplied (.ref sl) (pure (n : Int))) Q E s := by
  obtain ⟨os, hos, hcs, hds⟩ := id hs
  unfold Builtin.Slice.sliceApplied Builtin.Slice.sliceFields
  refine wpAny_bind (wpAny_bind (wpAny_field hos hds (x := .none) rfl (wpAny_bind (wpAny_field hos hds (x := .none) rfl (wpAny_bind (wpAny_field hos hds (x := .int (-1) u) rfl (wpAny_pure ?_)))))))
  refine wpAny_bind (slicePart_int ?_)
  show wpAny _ _ (if ((-1 : Int) == 0) = true then _ else _) _ _ s
  rw [if_neg (by decide)]
  refine wpAny_bind (slicePart_none (wpAny_bind (slicePart_none (wpAny_bind (wpAny_pure ?_)))))
  show wpAny _ _ (match Builtin.Slice.sliceAdjust none none (-1) (n : Int) with | (lo, hi) => pure (lo, (-1 : Int), Builtin.Slice.slicePlaces lo hi (-1))) _ _ s
  rw [adjust_rev n]
  show wpAny _ _ (pure ((n : Int) - 1, (-1 : Int), Builtin.Slice.slicePlaces ((n : Int) - 1) (-1) (-1))) _ _ s
  rw [places_rev n]
  exact wpAny_pure h
theorem pick_rev (xs : Array Value) : ((List.range xs.size).filterMap fun (k : Nat) => xs[((xs.size : Int) - 1 + (k : Int) * -1).toNat]?).toArray = xs.toList.reverse.toArray := by
  have e : (List.range xs.size).filterMap (fun (k : Nat) => xs[((xs.size : Int) - 1 + (k : Int) * -1).toNat]?) = ((List.range xs.size).map (fun k => xs.size - 1 - k)).filterMap (xs[·]?) := by
    rw [List.filterMap_map]
    refine fmCongr _ fun k hk => ?_
    have := List.mem_range.mp hk
    have e2 : ((xs.size : Int) - 1 + (k : Int) * -1).toNat = xs.size - 1 - k := by omega
    simp only [Function.comp, e2]
  rw [e, PySem.W.krv_range, List.filterMap_reverse, PySem.W.krv_all]
theorem getItem_tuple_rev {t sl : Addr} {items : Array Value} {u : Tok} {Q : Value → Shared → Prop} (ht : IsTup s.heap t items) (hs : s.heap.IsSliceOf sl .none .none (.int (-1) u))
    (h : Q (.ref s.heap.objs.size) { s with heap := s.heap.push { cls := .type "tuple", data := .seq items.toList.reverse.toArray } })
    (hsz : items.size ≤ sizeLine) : wpAny (model prog w) A (getItem (.ref t) (.ref sl)) Q E s := by
  have hdrop : sizeOk (.seq items.toList.reverse.toArray) := by
    show items.toList.reverse.toArray.size ≤ sizeLine
    rw [List.size_toArray, List.length_reverse, Array.length_toList]
    exact hsz
  obtain ⟨os, hos, hcs, hds⟩ := id hs
  have hTs : s.TypeIs (.ref sl) "slice" := ⟨os, hos, hcs⟩
  unfold getItem
  try with_reducible refine wpAny_holding ?_
  first | refine wpAny_bind (wpAny_pure ?_) | skip
  refine wpAny_bind (wpAny_sequenceKey ht.typeIs (by decide) ?_)
  refine wpAny_bind (wpAny_callSpecial?_slot (name := Str.ofString "__getitem__") ht.typeIs PyProof.Rows.slot_tuple_getitem
    (wpAny_call_entry PyProof.Rows.slot_tuple_getitem ht.typeIs entry_tuple_getitem ?_ (args_tuple_getitem _ _)))
  show wpAny _ _ (Builtin.Tuple.tupleItemsOf (.ref t) >>= _) _ _ s
  refine wpAny_bind (tupleItemsOf_ ht ?_)
  refine wpAny_bind (wpAny_typeOf hTs ?_)
  rw [if_pos (by decide)]
  refine wpAny_bind (sliceApplied_rev hs ?_)
  have hno : ¬ ((((items.size : Int) - 1) == 0 && (-1 : Int) == 1 && items.size == items.size) = true) := by
    rw [show ((-1 : Int) == 1) = false by decide, Bool.and_false, Bool.false_and]
    exact Bool.false_ne_true
  show wpAny _ _ (if (((items.size : Int) - 1) == 0 && (-1 : Int) == 1 && items.size == items.size) = true then _ else _) _ _ s
  rw [if_neg hno, pick_rev items]
  first
    | exact wpAny_bind (m := Builtin.Tuple.tupleExact _) (wpAny_newObj_type (wpAny_pure ⟨_, rfl, wpAny_pure h⟩) hdrop)
    | exact wpAny_bind (m := Builtin.Tuple.tupleExact _) (wpAny_newObj_type (wpAny_bind (wpAny_pure (wpAny_pure ⟨_, rfl, wpAny_pure h⟩))) hdrop)
    | exact wpAny_bind (wpAny_bind (m := Builtin.Tuple.tupleExact _) (wpAny_newObj_type (wpAny_pure (wpAny_pure ⟨_, rfl, wpAny_pure h⟩)) hdrop))
    | exact wpAny_bind (wpAny_bind (m := Builtin.Tuple.tupleExact _) (wpAny_newObj_type (wpAny_pure ⟨_, rfl, wpAny_pure h⟩) hdrop))
end
section
variable {X : Cx}
def tRevT (K : PySem.W.Frag) (te : TE) : TE := fun σ H Q => te σ H fun x H1 => ∃ a xs, x = .ref a ∧ SqT K H1 a xs ∧ ∀ p, H1 p = none → Q (.ref p) (upd H1 p (.tup xs.reverse))
theorem pe_revT {e : Expr} {te : TE} {k : Nat} {p1 p2 p3 pos : Pos} (he : PE X e te) : PE X (.Subscript e (.Slice none none (some (.UnaryOp .USub (.Constant (.int 1) k p1) p2)) p3) pos) (tRevT X.K te) := by
  refine ⟨fun pins s σ H Q I h => ?_⟩
  refine Subscript_ (thn (he.run pins s σ H _ I h) fun v s1 ⟨x, H1, I1, r1, q1⟩ => ?_)
  obtain ⟨a, xs, ex, hx, q⟩ := q1
  subst ex
  cases r1
  have hst : PO X (some (.UnaryOp .USub (.Constant (.int 1) k p1) p2)) (tPart (tUn (rU fun i => .int (-i)) (tC (.int 1)))) := po_some (pe_un un_neg pe_int)
  refine wpAny_Slice (thn (po_none.run pins s1 σ H1 (fun o H2 => o = none ∧ H2 = H1) I1 ⟨rfl, rfl⟩) fun vl s2 ⟨l, H2, I2, pl, el, e2⟩ => ?_)
  subst el e2
  refine thn (po_none.run pins s2 σ H2 (fun o H3 => o = none ∧ H3 = H2) I2 ⟨rfl, rfl⟩) fun vu s3 ⟨u, H3, I3, pu, eu, e3⟩ => ?_
  subst eu e3
  refine thn (hst.run pins s3 σ H3 (fun o H4 => o = some (-1) ∧ H4 = H3) I3 ⟨1, rfl, -1, rfl, rfl, rfl⟩) fun vs s4 ⟨o, H4, I4, ps, eo, e4⟩ => ?_
  subst eo e4
  cases pl
  cases pu
  obtain ⟨u, rfl⟩ : ∃ u, vs = .int (-1) u := by
    cases ps
    exact ⟨_, rfl⟩
  have I5 : Inv X pins σ H4 { s4 with heap := s4.heap.push { cls := .type "slice", data := .fields #[.none, .none, .int (-1) u] } } := I4.kept (t' := s4.toks) fun b ob q => Heap.get?_push_of_some _ q
  obtain ⟨its, r, ht, hz⟩ := I5.tuple hx
  have hlen := r.length
  show wpAny (model X.prog X.w) X.A (subscriptTail e (.Slice none none (some (.UnaryOp .USub (.Constant (.int 1) k p1) p2)) p3) (.ref a) (.ref s4.heap.objs.size)) (EP X pins σ Q) X.xe { s4 with heap := s4.heap.push { cls := .type "slice", data := .fields #[.none, .none, .int (-1) u] } }
  refine tail_any (ops := [.ref a, .ref s4.heap.objs.size]) ht.typeIs (PyProof.Rows.slot_tuple_getitem.lookup) ?_ (by with_unfolding_all rfl)
  refine getItem_tuple_rev ht (Heap.IsSliceOf.new _ .none .none (.int (-1) u)) ?_ (by rw [List.size_toArray]; omega)
  refine ⟨.ref _, _, I5.laid (t' := s4.toks) (o := .tup xs.reverse) (fun b ob q => Heap.get?_push_of_some _ q) (Nat.le_refl _) ?_, rfl, q _ (I5.hok.fresh (Nat.le_refl _))⟩
  exact ⟨by rw [List.length_reverse]; exact hz, _, r.reverse, IsTup.new _ _⟩
end
end NW
namespace NW
open PySem PySem.Spec PyProof.Rows L2
open TL (tl)
abbrev s_is_plain_int : Stmt := topS 4
abbrev N_is_plain_int : List Str := ["number"]
theorem sc_is_plain_int : FnScope N_is_plain_int ["number"] (defScope s_is_plain_int) := ⟨rfl, rfl, rfl, by decide +kernel, rfl, by decide +kernel, by decide +kernel⟩
abbrev s_check_number : Stmt := topS 6
abbrev N_check_number : List Str := ["number", "greatest"]
theorem sc_check_number : FnScope N_check_number ["number", "greatest"] (defScope s_check_number) := ⟨rfl, rfl, rfl, by decide +kernel, rfl, by decide +kernel, by decide +kernel⟩
abbrev s_check_items : Stmt := topS 14
abbrev N_check_items : List Str := ["items"]
theorem sc_check_items : FnScope N_check_items ["items"] (defScope s_check_items) := ⟨rfl, rfl, rfl, by decide +kernel, rfl, by decide +kernel, by decide +kernel⟩
/-- whole numbers, truths, anything else -/
inductive Pl (K : PySem.W.Frag) (H : Hp) : V → Option Int → Prop
  | int (i : Int) : Pl K H (.int i) (some i)
  | bl (b : Bool) : Pl K H (.bl b) none
  | oth {v : V} {t : Value} (ty : TyX K H v t) (no : PySem.W.kitOne K t (.type "int") = some false) : Pl K H v none
theorem Pl.same {K : PySem.W.Frag} {H H' : Hp} {v : V} {o : Option Int} (h : Pl K H v o) (s : L2.Same H H') : Pl K H' v o := by
  cases h with
  | int i => exact .int i
  | bl b => exact .bl b
  | oth ty no => exact .oth (TyX.same s ty) no
/-- no whole number from 0 to g -/
def BadN (K : PySem.W.Frag) (H : Hp) (g : Int) (v : V) : Prop := ∃ o, Pl K H v o ∧ ∀ i, o = some i → ¬ (0 ≤ i ∧ i ≤ g)
section
variable {P : Program} {w : World} {K : PySem.W.Frag} {mg : Str → Option Value} {base : Heap}

def spPlain (K : PySem.W.Frag) : Sp := fun vs H Q _ => ∃ v o, vs = [v] ∧ Pl K H v o ∧ Q (.bl o.isSome) H
theorem ok_is_plain_int {f : Addr} {fd : FuncData} (D : Df K mg "is_plain_int" s_is_plain_int f fd ["number"]) (T : Nms mg) : FnOk P w K mg base CX0 1 f fd ["number"] (spPlain K) := by
  refine D.F.ok sc_is_plain_int (fun vs H Q E h => ?_) (fun cdv A outer s H vs Q E hr h => ?_)
  · obtain ⟨v, o, rfl, _⟩ := h
    rfl
  · obtain ⟨v, o, rfl, hp, q⟩ := h
    refine ⟨_, (pss_one (ps_ret (pe_and (pe_callB call_isi (by rfl) T.n_isinstance (by decide +kernel) (pa_cons (pv 0) (pa_cons (pe_bltn (v := .ty "int") (by rfl) T.n_int (by decide +kernel) rfl) pa_nil))) (pe_one (pe_not (pe_callB call_isi (by rfl) T.n_isinstance (by decide +kernel) (pa_cons (pv 0) (pa_cons (pe_bltn (v := .ty "bool") (by rfl) T.n_bool (by decide +kernel) rfl) pa_nil)))))))), ?_⟩
    cases hp with
    | int i => exact ⟨.int i, rfl, _, _, _, _, true, rfl, .ty "int", .base (.int i), kit_ty (by decide +kernel), true, rfl, iteT ⟨.int i, rfl, _, _, _, _, false, rfl, .ty "bool", .base (.int i), kit_ty (by decide +kernel), false, rfl, q⟩⟩
    | bl b => exact ⟨.bl b, rfl, _, _, _, _, true, rfl, .ty "int", .base (.bl b), kit_ty (by decide +kernel), true, rfl, iteT ⟨.bl b, rfl, _, _, _, _, true, rfl, .ty "bool", .base (.bl b), kit_ty (by decide +kernel), true, rfl, q⟩⟩
    | oth ty no => exact ⟨v, rfl, _, _, _, _, false, rfl, .ty "int", ty, no, false, rfl, iteF q⟩
def spCheckN (K : PySem.W.Frag) (CB : Addr) : Sp := fun vs H Q E => ∃ v g, vs = [v, .int g] ∧ ((∃ i, v = .int i ∧ 0 ≤ i ∧ i ≤ g ∧ Q .non H) ∨ (BadN K H g v ∧ E (.ref CB) none H))
theorem ok_check_number {f f1 CB : Addr} {fd fd1 : FuncData} (D : Df K mg "check_number" s_check_number f fd ["number", "greatest"]) (D_is_plain_int : Df K mg "is_plain_int" s_is_plain_int f1 fd1 ["number"]) (G_is_plain_int : FnOk P w K mg base CX0 1 f1 fd1 ["number"] (spPlain K))
    (BB : ErrB K mg CB) (T : Nms mg) : FnOk P w K mg base (L2N.CX P w) 2 f fd ["number", "greatest"] (spCheckN K CB) := by
  refine okC D.F sc_check_number (fun vs H Q E h => ?_) (fun cdv A outer s H vs Q E hr h => ?_)
  · obtain ⟨v, g, rfl, _⟩ := h
    rfl
  · obtain ⟨v, g, rfl, h⟩ := h
    refine ⟨_, (pss_one (ps_if (PW.pt (pw_or (pt_not (pt_val (pe_call G_is_plain_int (hr.mono (by decide)) (by rfl) D_is_plain_int.g D_is_plain_int.F.kp D_is_plain_int.b .nil pass0 (pa_cons (pv 0) pa_nil)))) (pw_or1 (pt_not (pt_chain op_le op_le pe_int (pv 0) (pv 1))))))
       (pss_one (L2N.ps_raise rfl (L2N.takes_of rfl rfl rfl rfl) (L2N.pmk_own PySem.F.excBase_ValueError BB.xP BB.gP BB.kP (raises_own BB.bP BB.tP) rfl)))
       pss_nil)), ?_⟩
    rcases h with ⟨i, rfl, h0, h1, q⟩ | ⟨⟨o, hp, hb⟩, q⟩
    · refine ⟨.int i, rfl, .int i, some i, rfl, .int i, true, rfl, iteF ?_⟩
      refine ⟨.int i, rfl, _, _, rfl, rfl, true, blT h0, iteT ⟨.int g, rfl, _, _, rfl, rfl, true, blT h1, iteF q⟩⟩
    · cases o with
      | none => exact ⟨v, rfl, v, none, rfl, hp, false, rfl, iteT q⟩
      | some i =>
        cases hp
        refine ⟨.int i, rfl, .int i, some i, rfl, .int i, true, rfl, iteF ?_⟩
        by_cases h0 : 0 ≤ i
        · have h1 : ¬ i ≤ g := fun h1 => hb i rfl ⟨h0, h1⟩
          exact ⟨.int i, rfl, _, _, rfl, rfl, true, blT h0, iteT ⟨.int g, rfl, _, _, rfl, rfl, false, blF h1, iteT q⟩⟩
        · exact ⟨.int i, rfl, _, _, rfl, rfl, false, blF h0, iteF ⟨false, rfl, iteT q⟩⟩
def spCheckI (K : PySem.W.Frag) (CB : Addr) : Sp := fun vs H Q E => ∃ v, vs = [v] ∧ ((∃ i, v = .int i ∧ 0 ≤ i ∧ i ≤ 10 ^ 30 ∧ Q .non H) ∨ (BadN K H (10 ^ 30) v ∧ E (.ref CB) none H))
theorem ok_check_items {f f1 CB : Addr} {fd fd1 : FuncData} (D : Df K mg "check_items" s_check_items f fd ["items"]) (D_check_number : Df K mg "check_number" s_check_number f1 fd1 ["number", "greatest"]) (G_check_number : FnOk P w K mg base (L2N.CX P w) 2 f1 fd1 ["number", "greatest"] (spCheckN K CB)) :
    FnOk P w K mg base (L2N.CX P w) 3 f fd ["items"] (spCheckI K CB) := by
  refine okC D.F sc_check_items (fun vs H Q E h => ?_) (fun cdv A outer s H vs Q E hr h => ?_)
  · obtain ⟨v, rfl, _⟩ := h
    rfl
  · obtain ⟨v, rfl, h⟩ := h
    refine ⟨_, (pss_one (ps_expr (pe_callS G_check_number (hr.mono (by decide)) (by rfl) D_check_number.g D_check_number.F.kp D_check_number.b (fun σ => L2N.passAt (L2N.takes_of rfl rfl rfl rfl) σ) (pa_cons (pv 0) (pa_cons (pe_op op_pow pe_int pe_int) pa_nil))))), ?_⟩
    refine ⟨v, rfl, _, _, rfl, rfl, ⟨by decide, by decide, by decide⟩, v, 10 ^ 30, rfl, ?_⟩
    rcases h with ⟨i, rfl, h0, h1, q⟩ | ⟨hb, q⟩
    · exact .inl ⟨i, rfl, h0, h1, q⟩
    · exact .inr ⟨hb, q⟩
end
end NW
namespace NW
open PySem PySem.Spec PyProof.Rows L2
open TL (tl)
abbrev s_is_coefficients : Stmt := topS 11
abbrev N_is_coefficients : List Str := ["coefficients", "coefficient"]
theorem sc_is_coefficients : FnScope N_is_coefficients ["coefficients"] (defScope s_is_coefficients) := ⟨rfl, rfl, rfl, by decide +kernel, rfl, by decide +kernel, by decide +kernel⟩
abbrev s_terms_of : Stmt := topS 12
abbrev N_terms_of : List Str := ["coefficients", "power"]
theorem sc_terms_of : FnScope N_terms_of ["coefficients"] (defScope s_terms_of) := ⟨rfl, rfl, rfl, by decide +kernel, rfl, by decide +kernel, by decide +kernel⟩
abbrev s_coefficient_at : Stmt := topS 13
abbrev N_coefficient_at : List Str := ["growth", "power"]
theorem sc_coefficient_at : FnScope N_coefficient_at ["growth", "power"] (defScope s_coefficient_at) := ⟨rfl, rfl, rfl, by decide +kernel, rfl, by decide +kernel, by decide +kernel⟩
abbrev s_Growth_init : Stmt := inClass (topS 10) 0
abbrev N_Growth_init : List Str := ["self", "coefficients"]
theorem sc_Growth_init : FnScope N_Growth_init ["self", "coefficients"] (defScope s_Growth_init) := ⟨rfl, rfl, rfl, by decide +kernel, rfl, by decide +kernel, by decide +kernel⟩
theorem ix_tupK {X : Cx} (K : PySem.W.Frag) (h : X.K = K := by rfl) : IxR X (rIxT K) := h ▸ ix_tup
/-- no tuple of at most forty whole numbers from 0 on -/
inductive BadV (K : PySem.W.Frag) (H : Hp) : V → Prop
  | ty {v : V} {t : Value} (ty : TyX K H v t) (no : PySem.W.kitOne K t (.type "tuple") = some false) : BadV K H v
  | long {a : Addr} {xs : List V} (e : H a = some (.tup xs)) (h : 40 < xs.length) : BadV K H (.ref a)
  | item {a : Addr} {u : V} {o : Option Int} (e : H a = some (.tup [.int 1, u])) (hp : Pl K H u o) (h : ∀ i, o = some i → i < 0) : BadV K H (.ref a)
theorem bls {n : Nat} : ((List.range n).map fun _ => V.bl true) = (List.replicate n true).map V.bl := by
  rw [List.map_replicate]
  exact List.map_const' ..|>.trans (by rw [List.length_range])
theorem all_rep : ∀ n : Nat, (List.replicate n true).all id = true
  | 0 => rfl
  | n + 1 => all_rep n
/-! ### slices from the front, of one item -/
theorem take_slice {H : Hp} {Q : VK} {a : Addr} {xs : List V} {m : Nat} (ha : H a = some (.tup xs)) (q : ∀ p H', L2.Same H H' → H' p = some (.tup (xs.take m)) → Q (.ref p) H') :
    (HT.sIx xs.length 0 none = 0 ∧ HT.sIx xs.length xs.length (some (m : Int)) = xs.length → Q (.ref a) H) ∧ (¬ (HT.sIx xs.length 0 none = 0 ∧ HT.sIx xs.length xs.length (some (m : Int)) = xs.length) → ∀ p, H p = none → Q (.ref p) (upd H p (.tup (cutV xs none (some (m : Int)))))) := by
  have e2 : HT.sIx xs.length xs.length (some (m : Int)) = min m xs.length := HT.sIx_nat _ _ m
  refine ⟨fun ⟨_, h2⟩ => ?_, fun _ p np => ?_⟩
  · rw [e2] at h2
    exact q a H (fun _ _ e => e) (by rw [List.take_of_length_le (by omega)]; exact ha)
  · refine q p _ (same_new np) ?_
    rw [upd_same]
    unfold cutV
    rw [e2, HT.sIx_none, List.drop_zero, Nat.sub_zero]
    congr 2
    by_cases hm : m ≤ xs.length
    · rw [Nat.min_eq_left hm]
    · rw [Nat.min_eq_right (by omega), List.take_of_length_le (Nat.le_refl _), List.take_of_length_le (by omega)]
theorem one_slice {H : Hp} {Q : VK} {a : Addr} {xs : List V} {m : Nat} (ha : H a = some (.tup xs)) (q : ∀ p H', L2.Same H H' → H' p = some (.tup ((xs.drop m).take 1)) → Q (.ref p) H') :
    (HT.sIx xs.length 0 (some (m : Int)) = 0 ∧ HT.sIx xs.length xs.length (some ((m : Int) + 1)) = xs.length → Q (.ref a) H) ∧ (¬ (HT.sIx xs.length 0 (some (m : Int)) = 0 ∧ HT.sIx xs.length xs.length (some ((m : Int) + 1)) = xs.length) → ∀ p, H p = none → Q (.ref p) (upd H p (.tup (cutV xs (some (m : Int)) (some ((m : Int) + 1)))))) := by
  have e1 : HT.sIx xs.length 0 (some (m : Int)) = min m xs.length := HT.sIx_nat _ _ m
  have e2 : HT.sIx xs.length xs.length (some ((m : Int) + 1)) = min (m + 1) xs.length := HT.sIx_nat _ _ (m + 1)
  refine ⟨fun ⟨h1, h2⟩ => ?_, fun _ p np => ?_⟩
  · rw [e1] at h1
    rw [e2] at h2
    refine q a H (fun _ _ e => e) ?_
    rw [ha]
    congr 2
    by_cases hm : m = 0
    · subst hm
      rw [List.drop_zero, List.take_of_length_le (by omega)]
    · have : xs.length = 0 := by omega
      rw [List.eq_nil_of_length_eq_zero this]
      simp
  · refine q p _ (same_new np) ?_
    rw [upd_same]
    congr 2
    unfold cutV
    rw [e1, e2]
    by_cases hm : m < xs.length
    · rw [Nat.min_eq_left (by omega), Nat.min_eq_left (by omega), show m + 1 - m = 1 by omega]
    · rw [Nat.min_eq_right (by omega), Nat.min_eq_right (by omega), Nat.sub_self, List.drop_of_length_le (Nat.le_refl _), List.drop_of_length_le (by omega)]
      rfl
/-! ### the greatest place -/
def places (ns : List Int) : Nat → List Int
  | 0 => []
  | k + 1 => if ns.getD k 0 = 0 then places ns k else places ns k ++ [((k : Int) + 1)]
theorem mxD_snoc (x : Int) (hx : 0 ≤ x) : ∀ l : List Int, (∀ y ∈ l, y ≤ x) → mxD 0 (l ++ [x]) = x
  | [], _ => rfl
  | y :: l, h => by
    show (l ++ [x]).foldl max y = x
    rw [List.foldl_append]
    show max (l.foldl max y) x = x
    have : ∀ (l : List Int) (y : Int), y ≤ x → (∀ z ∈ l, z ≤ x) → l.foldl max y ≤ x := by
      intro l
      induction l with
      | nil => intro y hy _; exact hy
      | cons z r ih =>
        intro y hy hl
        have hz := hl z List.mem_cons_self
        exact ih (max y z) (Int.max_le.mpr ⟨hy, hz⟩) fun u mu => hl u (List.mem_cons_of_mem _ mu)
    have := this l y (h y List.mem_cons_self) fun z mz => h z (List.mem_cons_of_mem _ mz)
    omega
theorem places_le (ns : List Int) : ∀ k : Nat, ∀ y ∈ places ns k, y ≤ k
  | 0, _, m => by cases m
  | k + 1, y, m => by
    have ih := places_le ns k
    unfold places at m
    split at m
    · have := ih y m
      omega
    · rcases List.mem_append.mp m with m | m
      · have := ih y m
        omega
      · rw [List.mem_singleton.mp m]
        omega
theorem places_succ (ns : List Int) (k : Nat) : places ns (k + 1) = if ns.getD k 0 = 0 then places ns k else places ns k ++ [((k : Int) + 1)] := rfl
theorem places_len (ns : List Int) : ∀ k : Nat, (places ns k).length ≤ k
  | 0 => Nat.le_refl _
  | k + 1 => by
    have ih := places_len ns k
    unfold places
    split
    · omega
    · rw [List.length_append]
      show _ + 1 ≤ _
      omega
theorem places_max (ns : List Int) : ∀ k : Nat, k ≤ ns.length → mxD 0 (places ns k) = ((cut (ns.take k)).length : Int)
  | 0, _ => rfl
  | k + 1, h => by
    have ih := places_max ns k (by omega)
    rw [many_step ns k h]
    have e : ns.getD k 0 = ns[k] := by rw [List.getD_eq_getElem?_getD, List.getElem?_eq_getElem h]; rfl
    unfold places
    rw [e]
    split
    · exact ih
    · rw [mxD_snoc _ (by omega) _ fun y m => by have := places_le ns k y m; omega]
      rfl
section
variable {P : Program} {w : World} {K : PySem.W.Frag} {mg : Str → Option Value} {base : Heap}

def spIsC (K : PySem.W.Frag) : Sp := fun vs H Q _ => ∃ v, vs = [v] ∧ ((∃ (t : Addr) (ns : List Int), v = .ref t ∧ H t = some (.tup (ns.map V.int)) ∧ ns.length ≤ 40 ∧ (∀ n ∈ ns, 0 ≤ n) ∧ ∀ H', L2.Same H H' → Q (.bl true) H') ∨ (BadV K H v ∧ ∀ H', L2.Same H H' → Q (.bl false) H'))
theorem ok_is_coefficients {f f1 : Addr} {fd fd1 : FuncData} (D : Df K mg "is_coefficients" s_is_coefficients f fd ["coefficients"]) (D_is_plain_int : Df K mg "is_plain_int" s_is_plain_int f1 fd1 ["number"]) (G_is_plain_int : FnOk P w K mg base CX0 1 f1 fd1 ["number"] (spPlain K))
    (T : Nms mg) (Cs : Cst mg) : FnOk P w K mg base CX0 2 f fd ["coefficients"] (spIsC K) := by
  obtain ⟨tMC, hMC⟩ := Cs.MC
  refine D.F.ok sc_is_coefficients (fun vs H Q E h => ?_) (fun cdv A outer s H vs Q E hr h => ?_)
  · obtain ⟨v, rfl, _⟩ := h
    rfl
  · obtain ⟨v, rfl, h⟩ := h
    refine ⟨_, (pss_cons (ps_if (PW.pt (pw_or (pt_not (pt_val (pe_callB call_isi (by rfl) T.n_isinstance (by decide +kernel) (pa_cons (pv 0) (pa_cons (pe_bltn (v := .ty "tuple") (by rfl) T.n_tuple (by decide +kernel) rfl) pa_nil))))) (pw_or1 (pt_cmpR op_gt (pe_callB call_len_seq (by rfl) T.n_len (by decide +kernel) (pa_cons (pv 0) pa_nil)) (pe_glob (v := .int 40) (by rfl) hMC ⟨_, rfl⟩) (nomark _)))))
       (pss_one (ps_ret pe_bl))
       pss_nil)
      (pss_one (ps_ret (pe_callB (cr_all rfl) (by rfl) T.n_all (by decide +kernel) (pa_cons (pe_lc (own := [("coefficient", 1)]) (g := (gName 1)) (tt := tYes) rfl sc_is_coefficients.nd (pi_tup (pv 0)) (blkOk_by (own := [("coefficient", 1)]) (N := N_is_coefficients) (sc := defScope s_is_coefficients) (by decide +kernel)) (fun _ _ _ _ _ => (pg_name (i := 1) sc_is_coefficients.nd rfl (.inl rfl))) (fun _ _ _ _ _ => pts_nil) (fun _ _ _ _ _ => (pe_and (pe_call G_is_plain_int (hr.mono (by decide)) (by rfl) D_is_plain_int.g D_is_plain_int.F.kp D_is_plain_int.b .nil pass0 (pa_cons (pv 1) pa_nil)) (pe_one (pe_cmpR op_ge (pv 1) pe_int (nomark _)))))) pa_nil))))), ?_⟩
    have hS : ∀ n : Nat, n ≤ 1000 → n ≤ sizeLine := fun n h => Nat.le_trans h (by decide)
    rcases h with ⟨t, ns, rfl, ht, hl, hp, q⟩ | ⟨hb, q⟩
    · refine ⟨.ref t, rfl, _, _, _, _, true, rfl, .ty "tuple", .base (.tup ht), kit_ty (by decide +kernel), true, rfl, iteF ⟨.ref t, rfl, t, _, rfl, .inr (.inl (.inl ht)), _, _, rfl, rfl, false, blF (by rw [List.length_map]; omega), iteF ?_⟩⟩
      refine ⟨.ref t, rfl, t, rfl, ⟨_, .inl (.inl ht)⟩, fun Da nD => lc_map (walk_tup (xs := ns.map V.int)) (fun i x => ∃ n, ns[i]? = some n ∧ x = .int n) (fun _ => .bl true) (fun i H x H' hi y => ⟨y.1, ?_⟩) (fun H' s => .inl (.inl (s _ _ ht))) nD (by rw [List.length_map]; omega) (fun _ => rfl) ?_ ?_⟩
      · have e := y.2
        rw [List.getElem?_map] at e
        cases h : ns[i]? with
        | none => rw [h] at e; cases e
        | some n => rw [h] at e; cases e; exact ⟨n, rfl, rfl⟩
      · rintro i x H2 Q2 hi ⟨n, en, rfl⟩ s1 q2
        have h0 := hp n (List.mem_of_getElem? en)
        exact ⟨.int n, rfl, .int n, some n, rfl, .int n, true, rfl, iteT ⟨.int n, rfl, _, _, rfl, rfl, by show Q2 (.bl (decide (n ≥ 0))) H2; rw [decide_eq_true h0]; exact q2 _ (fun _ _ e => e)⟩⟩
      · intro H2 s1 e1
        rw [bls] at e1
        exact ⟨Da, _, rfl, SqL.of e1, by rw [all_rep]; exact q _ s1⟩
    · cases hb with
      | ty ty no => exact ⟨v, rfl, _, _, _, _, false, rfl, .ty "tuple", ty, no, false, rfl, iteT (q _ (fun _ _ e => e))⟩
      | @long a xs e h => exact ⟨.ref a, rfl, _, _, _, _, true, rfl, .ty "tuple", .base (.tup e), kit_ty (by decide +kernel), true, rfl, iteF ⟨.ref a, rfl, a, _, rfl, .inr (.inl (.inl e)), _, _, rfl, rfl, true, blT (by omega), iteT (q _ (fun _ _ e => e))⟩⟩
      | @item a u o e hp h =>
        refine ⟨.ref a, rfl, _, _, _, _, true, rfl, .ty "tuple", .base (.tup e), kit_ty (by decide +kernel), true, rfl, iteF ⟨.ref a, rfl, a, _, rfl, .inr (.inl (.inl e)), _, _, rfl, rfl, false, blF (by show ¬ ((2 : Int) > 40); decide), iteF ?_⟩⟩
        refine ⟨.ref a, rfl, a, rfl, ⟨_, .inl (.inl e)⟩, fun Da nD => lc_map (walk_tup (xs := [V.int 1, u])) (fun i x => (i = 0 ∧ x = .int 1) ∨ (i = 1 ∧ x = u)) (fun i => .bl (decide (i = 0))) (fun i H x H' hi y => ⟨y.1, ?_⟩) (fun H' s => .inl (.inl (s _ _ e))) nD (by show 2 ≤ 1000; decide) (fun _ => rfl) ?_ ?_⟩
        · have e2 := y.2
          match i, hi with
          | 0, _ => cases e2; exact .inl ⟨rfl, rfl⟩
          | 1, _ => cases e2; exact .inr ⟨rfl, rfl⟩
        · rintro i x H2 Q2 hi (⟨rfl, rfl⟩ | ⟨rfl, rfl⟩) s1 q2
          · exact ⟨.int 1, rfl, .int 1, some 1, rfl, .int 1, true, rfl, iteT ⟨.int 1, rfl, _, _, rfl, rfl, q2 _ (fun _ _ e => e)⟩⟩
          · refine ⟨x, rfl, x, o, rfl, hp.same s1, o.isSome, rfl, ?_⟩
            cases o with
            | none => exact iteF (q2 _ (fun _ _ e => e))
            | some n =>
              cases hp
              have hn : ¬ n ≥ 0 := by have := h n rfl; omega
              exact iteT ⟨.int n, rfl, _, _, rfl, rfl, by show Q2 (.bl (decide (n ≥ 0))) H2; rw [decide_eq_false hn]; exact q2 _ (fun _ _ e => e)⟩
        · intro H2 s1 e1
          exact ⟨Da, [true, false], rfl, SqL.of e1, q _ s1⟩
def spTerms : Sp := fun vs H Q _ => ∃ (t : Addr) (ns : List Int), vs = [.ref t] ∧ H t = some (.tup (ns.map V.int)) ∧ ns.length ≤ 40 ∧ ∀ H', L2.Same H H' → Q (.int ((cut ns).length : Nat)) H'
theorem ok_terms_of {f : Addr} {fd : FuncData} (D : Df K mg "terms_of" s_terms_of f fd ["coefficients"]) (T : Nms mg) : FnOk P w K mg base CX0 1 f fd ["coefficients"] spTerms := by
  refine D.F.ok sc_terms_of (fun vs H Q E h => ?_) (fun cdv A outer s H vs Q E hr h => ?_)
  · obtain ⟨t, ns, rfl, _⟩ := h
    rfl
  · obtain ⟨t, ns, rfl, ht, hl, q⟩ := h
    refine ⟨_, (pss_one (ps_ret (pe_callBK (cr_maxDef rfl hr.units) (by rfl) T.n_max (by decide +kernel) (pa_cons (pe_lc (own := [("power", 1)]) (g := (gName 1)) rfl sc_terms_of.nd (pi_range1 (by rfl) T.n_range (pa_cons (pe_callB call_len_seq (by rfl) T.n_len (by decide +kernel) (pa_cons (pv 0) pa_nil)) pa_nil)) (blkOk_by (own := [("power", 1)]) (N := N_terms_of) (sc := defScope s_terms_of) (by decide +kernel)) (fun _ _ _ _ _ => (pg_name (i := 1) sc_terms_of.nd rfl (.inl rfl))) (fun _ _ _ _ _ => pts_one (pt_cmpR op_ne (pe_ix (ix_tupK K) (pv 0) (pv 1) (fun _ _ => rfl)) pe_int (nomark _))) (fun _ _ _ _ _ => (pe_op op_add (pv 1) pe_int))) pa_nil) (pk_cons pe_int pk_nil)))), ?_⟩
    have en : ((ns.map V.int).length : Int).toNat = ns.length := by rw [List.length_map]; exact Int.toNat_natCast _
    refine ⟨.ref t, rfl, t, _, rfl, .inr (.inl (.inl ht)), _, rfl, by omega, by rw [List.length_map]; omega, fun Da nD => lc_it (walk_range (lo := 0) (n := ((ns.map V.int).length : Int).toNat)) (fun i H' => L2.Same H H' ∧ H' Da = some (.lst ((places ns i).map V.int))) ⟨same_new nD, upd_same⟩ (fun _ _ _ _ => trivial) ?_ ?_⟩
    · rintro i x H2 H3 hi ⟨s1, e1⟩ y
      obtain ⟨rfl, rfl⟩ := y
      rw [en] at hi
      have ei : (ns.map V.int)[i]? = some (.int ns[i]) := by rw [List.getElem?_map, List.getElem?_eq_getElem hi]; rfl
      have eg : ns.getD i 0 = ns[i] := by rw [List.getD_eq_getElem?_getD, List.getElem?_eq_getElem hi]; rfl
      refine ⟨rfl, .ref t, rfl, .int (0 + (i : Int)), rfl, t, _, _, _, rfl, rfl, .inl (.inl (s1 _ _ ht)), by rw [Int.zero_add]; exact atI_nat ei, rfl, _, rfl, ?_⟩
      by_cases h : ns[i] = 0
      · show (if (!decide (V.int ns[i] = V.int 0)) = true then _ else _)
        rw [decide_eq_true (congrArg V.int h)]
        refine iteF ⟨s1, ?_⟩
        rw [places_succ, eg, if_pos h]
        exact e1
      · show (if (!decide (V.int ns[i] = V.int 0)) = true then _ else _)
        rw [decide_eq_false (fun z => h (V.int.inj z))]
        have := places_len ns i
        refine iteT ⟨_, rfl, _, _, rfl, rfl, _, e1, Nat.lt_of_le_of_lt (show _ ≤ 1000 by rw [List.length_map]; omega) (by decide), same_upd s1 nD, ?_⟩
        rw [upd_same, places_succ, eg, if_neg h, List.map_append, Int.zero_add]
        rfl
    · rintro H2 ⟨s1, e1⟩
      rw [en] at e1
      exact ⟨Da, places ns ns.length, 0, rfl, rfl, SqL.of e1, by rw [places_max ns _ (Nat.le_refl _), many_all]; exact q _ s1⟩
def spCoefAt (C : Addr) : Sp := fun vs H Q _ => ∃ (x : Addr) (ns : List Int) (k : Nat), vs = [.ref x, .int (k : Int)] ∧ GrAt C H x ns ∧ Q (.int (ns.getD k 0)) H
theorem ok_coefficient_at {f C : Addr} {fd : FuncData} (D : Df K mg "coefficient_at" s_coefficient_at f fd ["growth", "power"]) (T : Nms mg) (L : ClT K C) : FnOk P w K mg base CX0 1 f fd ["growth", "power"] (spCoefAt C) := by
  refine D.F.ok sc_coefficient_at (fun vs H Q E h => ?_) (fun cdv A outer s H vs Q E hr h => ?_)
  · obtain ⟨x, ns, k, rfl, _⟩ := h
    rfl
  · obtain ⟨x, ns, k, rfl, ⟨⟨dx, t, hx, ht⟩, hc, hl, hp⟩, q⟩ := h
    refine ⟨_, (pss_cons (ps_if (pt_cmpR op_lt (pv 1) (pe_callB call_len_seq (by rfl) T.n_len (by decide +kernel) (pa_cons (pe_fld (pv 0) rfl) pa_nil)) (nomark _))
       (pss_one (ps_ret (pe_ix ix_tup (pe_fld (pv 0) rfl) (pv 1) (fun _ _ => rfl))))
       pss_nil)
      (pss_one (ps_ret pe_int))), ?_⟩
    refine ⟨.int (k : Int), rfl, .ref x, rfl, x, C, dx, _, _, rfl, hx, L.cl, L.nc, rfl, t, _, rfl, .inr (.inl (.inl ht)), _, _, rfl, rfl, _, rfl, ite2 (fun e => ?_) (fun e => ?_)⟩
    · have hk : k < ns.length := by
        have := of_decide_eq_true e
        rw [List.length_map] at this
        omega
      have ei : (ns.map V.int)[k]? = some (.int ns[k]) := by rw [List.getElem?_map, List.getElem?_eq_getElem hk]; rfl
      refine ⟨.ref x, rfl, x, C, dx, _, _, rfl, hx, L.cl, L.nc, rfl, .int (k : Int), rfl, t, _, _, _, rfl, rfl, .inl (.inl ht), atI_nat ei, ?_⟩
      rw [List.getD_eq_getElem?_getD, List.getElem?_eq_getElem hk] at q
      exact q
    · have hk : ¬ k < ns.length := by
        intro h
        have e2 : ¬ ((k : Int) < ((ns.map V.int).length : Int)) := of_decide_eq_false (Bool.eq_false_iff.mpr e)
        rw [List.length_map] at e2
        omega
      rw [List.getD_eq_getElem?_getD, List.getElem?_eq_none (by omega)] at q
      exact q
def spInit (K : PySem.W.Frag) (C CB : Addr) : Sp := fun vs H Q E => ∃ (x dx : Addr) (v : V), vs = [.ref x, v] ∧ H x = some (.ins C dx []) ∧
  ((∃ (t : Addr) (ns : List Int), v = .ref t ∧ H t = some (.tup (ns.map V.int)) ∧ ns.length ≤ 40 ∧ (∀ n ∈ ns, 0 ≤ n ∧ n.natAbs < 2 ^ 90) ∧ ∀ H', GrAt C H' x (cut ns) → (∀ a o, a ≠ x → H a = some o → H' a = some o) → Q .non H') ∨
   (BadV K H v ∧ ∀ H', L2.Same H H' → E (.ref CB) none H'))
theorem ok_init {f f1 f2 C CB : Addr} {fd fd1 fd2 : FuncData} (F : Fun K "__init__" "Growth.__init__" s_Growth_init f fd) (D_is_coefficients : Df K mg "is_coefficients" s_is_coefficients f1 fd1 ["coefficients"]) (G_is_coefficients : FnOk P w K mg base CX0 2 f1 fd1 ["coefficients"] (spIsC K))
    (D_terms_of : Df K mg "terms_of" s_terms_of f2 fd2 ["coefficients"]) (G_terms_of : FnOk P w K mg base CX0 1 f2 fd2 ["coefficients"] spTerms) (BB : ErrB K mg CB) (T : Nms mg) (L : ClT K C) : FnOk P w K mg base (L2N.CX P w) 3 f fd ["self", "coefficients"] (spInit K C CB) := by
  refine okC F sc_Growth_init (fun vs H Q E h => ?_) (fun cdv A outer s H vs Q E hr h => ?_)
  · obtain ⟨x, dx, v, rfl, _⟩ := h
    rfl
  · obtain ⟨x, dx, v, rfl, hx, h⟩ := h
    refine ⟨_, (pss_cons (ps_if (pt_not (pt_val (pe_call G_is_coefficients (hr.mono (by decide)) (by rfl) D_is_coefficients.g D_is_coefficients.F.kp D_is_coefficients.b .nil pass0 (pa_cons (pv 1) pa_nil))))
       (pss_one (L2N.ps_raise rfl (L2N.takes_of rfl rfl rfl rfl) (L2N.pmk_own PySem.F.excBase_ValueError BB.xP BB.gP BB.kP (raises_own BB.bP BB.tP) rfl)))
       pss_nil)
      (pss_one (ps_fld (pv 0) (pe_slice sl_tupA (pv 1) po_none (po_some (pe_call G_terms_of (hr.mono (by decide)) (by rfl) D_terms_of.g D_terms_of.F.kp D_terms_of.b .nil pass0 (pa_cons (pv 1) pa_nil)))) rfl))), ?_⟩
    rcases h with ⟨t, ns, rfl, ht, hl, hp, q⟩ | ⟨hb, q⟩
    · refine ⟨.ref t, rfl, .ref t, rfl, .inl ⟨t, ns, rfl, ht, hl, fun n m => (hp n m).1, fun H1 s1 => ⟨true, rfl, iteF ?_⟩⟩⟩
      refine ⟨.ref t, rfl, .ref t, rfl, t, ns, rfl, s1 _ _ ht, hl, fun H2 s2 => ⟨_, rfl, t, _, rfl, .inl (.inl (s2 _ _ (s1 _ _ ht))), ?_⟩⟩
      have tk := take_slice (H := H2) (Q := fun v H3 => ∃ p, v = .ref p ∧ L2.Same H H3 ∧ H3 p = some (.tup ((cut ns).map V.int))) (m := (cut ns).length) (s2 _ _ (s1 _ _ ht)) fun p H3 s3 e3 => ⟨p, rfl, (s1.trans s2).trans s3, by rw [e3, ← List.map_take, cut_take]⟩
      have fin : ∀ p H3, L2.Same H H3 → H3 p = some (.tup ((cut ns).map V.int)) → Q .non (upd H3 x (.ins C dx [("coefficients", .ref p)])) := fun p H3 s3 e3 => by
        have npx : p ≠ x := ne_of e3 (s3 _ _ hx) (by intro z; cases z)
        exact q _ ⟨⟨dx, p, upd_same, by rw [upd_ne npx]; exact e3⟩, cut_idem ns, Nat.le_trans (cut_len ns) hl, fun n m => hp n (cut_mem m)⟩ fun a o n e => by rw [upd_ne n]; exact s3 _ _ e
      refine ⟨fun hw => ?_, fun hn p np => ?_⟩
      · obtain ⟨p, ep, s3, e3⟩ := tk.1 hw
        cases ep
        exact ⟨.ref x, rfl, x, C, dx, [], rfl, s3 _ _ hx, L.cl, L.nc, by decide, fin _ _ s3 e3⟩
      · obtain ⟨p', ep, s3, e3⟩ := tk.2 hn p np
        cases ep
        exact ⟨.ref x, rfl, x, C, dx, [], rfl, s3 _ _ hx, L.cl, L.nc, by decide, fin _ _ s3 e3⟩
    · exact ⟨v, rfl, v, rfl, .inr ⟨hb, fun H1 s1 => ⟨false, rfl, iteT (q _ s1)⟩⟩⟩
end
end NW
namespace NW
open PySem PySem.Spec PyProof.Rows L2
open TL (tl)
abbrev s_Growth___call__ : Stmt := inClass (topS 10) 1
abbrev N_Growth___call__ : List Str := ["self", "items", "total", "coefficient"]
theorem sc_Growth___call__ : FnScope N_Growth___call__ ["self", "items"] (defScope s_Growth___call__) := ⟨rfl, rfl, rfl, by decide +kernel, rfl, by decide +kernel, by decide +kernel⟩
abbrev s_Growth___add__ : Stmt := inClass (topS 10) 2
abbrev N_Growth___add__ : List Str := ["self", "other", "many", "power"]
theorem sc_Growth___add__ : FnScope N_Growth___add__ ["self", "other"] (defScope s_Growth___add__) := ⟨rfl, rfl, rfl, by decide +kernel, rfl, by decide +kernel, by decide +kernel⟩
abbrev s_Growth___lshift__ : Stmt := inClass (topS 10) 3
abbrev N_Growth___lshift__ : List Str := ["self", "power"]
theorem sc_Growth___lshift__ : FnScope N_Growth___lshift__ ["self", "power"] (defScope s_Growth___lshift__) := ⟨rfl, rfl, rfl, by decide +kernel, rfl, by decide +kernel, by decide +kernel⟩
abbrev s_Growth___eq__ : Stmt := inClass (topS 10) 4
abbrev N_Growth___eq__ : List Str := ["self", "other"]
theorem sc_Growth___eq__ : FnScope N_Growth___eq__ ["self", "other"] (defScope s_Growth___eq__) := ⟨rfl, rfl, rfl, by decide +kernel, rfl, by decide +kernel, by decide +kernel⟩
abbrev s_Growth_degree : Stmt := inClass (topS 10) 5
abbrev N_Growth_degree : List Str := ["self"]
theorem sc_Growth_degree : FnScope N_Growth_degree ["self"] (defScope s_Growth_degree) := ⟨rfl, rfl, rfl, by decide +kernel, rfl, by decide +kernel, by decide +kernel⟩
/-! ### tuples of whole numbers as data -/
abbrev tD (ns : List Int) : PyData := .tuple (ns.map PyData.int)
theorem tD_dp {K : PySem.W.Frag} {H : Hp} {t : Addr} {ns : List Int} (e : H t = some (.tup (ns.map V.int))) : Dp K H (.ref t) (tD ns) := .tup (.inl (.inl e)) (ints_dp ns)
theorem ints_lay : ∀ ns : List Int, PyData.canLayAll0 (ns.map PyData.int) = true
  | [] => rfl
  | n :: r => by
    have := ints_lay r
    simp only [List.map_cons, PyData.canLayAll0, PyData.canLay0, this, Bool.and_self]
theorem tD_sh (ns : List Int) : SeqAt.shaped (tD ns) = true := by
  have h1 := ints_lay ns
  have h2 := ints_depth ns
  unfold SeqAt.shaped
  rw [Bool.and_eq_true]
  refine ⟨by simpa only [tD, PyData.canLay0] using h1, decide_eq_true ?_⟩
  simp only [tD, PyData.depth]
  omega
theorem tD_eqv : ∀ ns ms : List Int, PyData.eqv (tD ns) (tD ms) = decide (ns = ms)
  | [], [] => rfl
  | [], _ :: _ => rfl
  | _ :: _, [] => rfl
  | a :: ns, b :: ms => by
    have ih := tD_eqv ns ms
    show ((a == b) && PyData.eqv (tD ns) (tD ms)) = _
    rw [ih]
    by_cases h : a = b
    · subst h
      by_cases h2 : ns = ms
      · subst h2
        simp
      · simp [h2]
    · simp [h]
theorem ten30 : (10 : Int) ^ 30 < 2 ^ 100 := by decide
theorem item_natAbs {c : Int} (h0 : 0 ≤ c) (h1 : c ≤ 10 ^ 30) : c.natAbs < 2 ^ 100 := by
  have := ten30
  have e : ((2 ^ 100 : Nat) : Int) = (2 : Int) ^ 100 := by norm_cast
  omega
theorem isG {K : PySem.W.Frag} {C : Addr} {H : Hp} {x : Addr} {ns : List Int} (g : GrAt C H x ns) (L : ClT K C) (ci : ClsI K C) : TyX K H (.ref x) (.ref C) := by
  obtain ⟨⟨dx, t, hx, _⟩, _⟩ := g
  exact .base (.ins hx L.cl ci.ha ci.hn ci.htk ci.hm)
section
variable {P : Program} {w : World} {K : PySem.W.Frag} {mg : Str → Option Value} {base : Heap}

def spCall (K : PySem.W.Frag) (C CB : Addr) : Sp := fun vs H Q E => ∃ (x : Addr) (v : V) (ns : List Int), vs = [.ref x, v] ∧ GrAt C H x ns ∧
  ((∃ c : Int, v = .int c ∧ 0 ≤ c ∧ c ≤ 10 ^ 30 ∧ ∀ H', L2.Same H H' → Q (.int (val c ns)) H') ∨ (BadN K H (10 ^ 30) v ∧ E (.ref CB) none H))
theorem ok_call {f f1 C CB : Addr} {fd fd1 : FuncData} (F : Fun K "__call__" "Growth.__call__" s_Growth___call__ f fd) (D_check_items : Df K mg "check_items" s_check_items f1 fd1 ["items"]) (G_check_items : FnOk P w K mg base (L2N.CX P w) 3 f1 fd1 ["items"] (spCheckI K CB)) (L : ClT K C) :
    FnOk P w K mg base (L2N.CX P w) 4 f fd ["self", "items"] (spCall K C CB) := by
  refine okC F sc_Growth___call__ (fun vs H Q E h => ?_) (fun cdv A outer s H vs Q E hr h => ?_)
  · obtain ⟨x, v, ns, rfl, _⟩ := h
    rfl
  · obtain ⟨x, v, ns, rfl, ⟨⟨dx, t, hx, ht⟩, hc, hl, hp⟩, h⟩ := h
    refine ⟨_, (pss_cons (ps_expr (pe_callS G_check_items (hr.mono (by decide)) (by rfl) D_check_items.g D_check_items.F.kp D_check_items.b (fun σ => L2N.passAt (L2N.takes_of rfl rfl rfl rfl) σ) (pa_cons (pv 1) pa_nil)))
      (PSs.nox (pss_cons (ps_set (i := 2) sc_Growth___call__.nd rfl (.inl rfl) pe_int)
      (pss_cons (ps_for PassesOwn.never rfl (pi_tup (pe_revT (pe_fld (pv 0) rfl))) (pg_name (i := 3) sc_Growth___call__.nd rfl (.inl rfl))
       (pss_one (ps_set (i := 2) sc_Growth___call__.nd rfl (.inl rfl) (pe_op op_add (pe_op op_mulW (pv 2) (pv 1)) (pv 3)))))
      (pss_one (ps_ret (pv 2))))))), ?_⟩
    rcases h with ⟨c, rfl, c0, c1, q⟩ | ⟨hb, q⟩
    · refine ⟨.int c, rfl, .int c, rfl, .inl ⟨c, rfl, c0, c1, ?_⟩⟩
      refine ⟨.ref x, rfl, x, C, dx, _, _, rfl, hx, L.cl, L.nc, rfl, t, _, rfl, .inl (.inl ht), fun p np => ?_⟩
      have e1 : (upd H p (.tup (ns.map V.int).reverse)) p = some (.tup (ns.reverse.map V.int)) := by rw [upd_same, List.map_reverse]
      have s1 := same_new (o := .tup (ns.map V.int).reverse) np
      generalize upd H p (.tup (ns.map V.int).reverse) = H1 at e1 s1
      have hcn := item_natAbs c0 c1
      refine ⟨p, rfl, ⟨_, .inl (.inl e1)⟩, for_tup (xs := ns.reverse.map V.int) (fun j σ H' => ∃ y3, σ = [some (.ref x), some (.int c), some (.int (val c (ns.reverse.take j).reverse)), y3] ∧ H' = H1) ⟨_, rfl, rfl⟩ (fun j σ H' _ h => by obtain ⟨_, _, rfl⟩ := h; exact .inl (.inl e1)) ?_ ?_⟩
      · rintro j z σ H' ez ⟨y3, rfl, rfl⟩
        rw [List.getElem?_map] at ez
        by_cases hj : j < ns.reverse.length
        · rw [List.getElem?_eq_getElem hj] at ez
          cases ez
          have hv := val_lt hcn (ns.reverse.take j).reverse fun y m => (hp y (List.mem_reverse.mp (List.mem_of_mem_take (List.mem_reverse.mp m)))).2
          have hlen : (ns.reverse.take j).reverse.length ≤ 40 := by rw [List.length_reverse, List.length_take, List.length_reverse]; omega
          refine ⟨_, rfl, .int c, rfl, _, _, rfl, rfl, wide_mul hv hcn (by omega) (by decide) (by omega), .int ns.reverse[j], rfl, _, _, rfl, rfl, some (.int ns.reverse[j]), ?_, rfl⟩
          rw [take_rev_val c _ _ hj]
          rfl
        · rw [List.getElem?_eq_none (by omega)] at ez
          cases ez
      · rintro σ H' ⟨y3, rfl, rfl⟩
        refine ⟨_, rfl, ?_⟩
        have e : val c (ns.reverse.take (ns.reverse.map V.int).length).reverse = val c ns := by
          rw [List.length_map, List.take_length, List.reverse_reverse]
        rw [e]
        exact q _ s1
    · exact ⟨v, rfl, v, rfl, .inr ⟨hb, q⟩⟩
def spDegree (C : Addr) : Sp := fun vs H Q _ => ∃ (x : Addr) (ns : List Int), vs = [.ref x] ∧ GrAt C H x ns ∧ Q (if ns = [] then .non else .int ((ns.length : Int) - 1)) H
theorem ok_degree {f C : Addr} {fd : FuncData} (F : Fun K "degree" "Growth.degree" s_Growth_degree f fd) (T : Nms mg) (L : ClT K C) : FnOk P w K mg base CX0 1 f fd ["self"] (spDegree C) := by
  refine F.ok sc_Growth_degree (fun vs H Q E h => ?_) (fun cdv A outer s H vs Q E hr h => ?_)
  · obtain ⟨x, ns, rfl, _⟩ := h
    rfl
  · obtain ⟨x, ns, rfl, ⟨⟨dx, t, hx, ht⟩, hc, hl, hp⟩, q⟩ := h
    refine ⟨_, (pss_cons (ps_if (pt_cmpR op_eq (pe_callB call_len_seq (by rfl) T.n_len (by decide +kernel) (pa_cons (pe_fld (pv 0) rfl) pa_nil)) pe_int (nomark _))
       (pss_one (ps_ret pe_non))
       pss_nil)
      (pss_one (ps_ret (pe_op op_sub (pe_callB call_len_seq (by rfl) T.n_len (by decide +kernel) (pa_cons (pe_fld (pv 0) rfl) pa_nil)) pe_int)))), ?_⟩
    refine ⟨.ref x, rfl, x, C, dx, _, _, rfl, hx, L.cl, L.nc, rfl, t, _, rfl, .inr (.inl (.inl ht)), rfl, _, rfl, ?_⟩
    cases ns with
    | nil => exact iteT q
    | cons n r =>
      have hne : ¬ (V.int (((n :: r).map V.int).length : Nat) = V.int 0) := fun z => by
        have := V.int.inj z
        rw [List.length_map, List.length_cons] at this
        omega
      show (if decide (V.int (((n :: r).map V.int).length : Nat) = V.int 0) = true then _ else _)
      rw [decide_eq_false hne]
      refine iteF ⟨.ref x, rfl, x, C, dx, _, _, rfl, hx, L.cl, L.nc, rfl, t, _, rfl, .inr (.inl (.inl ht)), _, _, rfl, rfl, ?_⟩
      have e : ((((n :: r).map V.int).length : Nat) : Int) = ((n :: r).length : Int) := by rw [List.length_map]
      show Q (.int (((((n :: r).map V.int).length : Nat) : Int) - 1)) H
      rw [e]
      rw [if_neg (fun z => nomatch z)] at q
      exact q
def spEq (K : PySem.W.Frag) (C : Addr) : Sp := fun vs H Q _ => ∃ (x : Addr) (v : V) (ns : List Int), vs = [.ref x, v] ∧ GrAt C H x ns ∧
  ((∃ y ms, v = .ref y ∧ GrAt C H y ms ∧ Q (.bl (decide (ns = ms))) H) ∨ (∃ t, TyX K H v t ∧ PySem.W.kitOne K t (.ref C) = some false ∧ Q (.bl false) H))
theorem ok_eq {f C : Addr} {fd : FuncData} (F : Fun K "__eq__" "Growth.__eq__" s_Growth___eq__ f fd) (T : Nms mg) (L : ClT K C) (gG : mg "Growth" = some (.ref C)) (ci : ClsI K C) (MS : PySem.W.makesIn K C = true) : FnOk P w K mg base CX0 1 f fd ["self", "other"] (spEq K C) := by
  refine F.ok sc_Growth___eq__ (fun vs H Q E h => ?_) (fun cdv A outer s H vs Q E hr h => ?_)
  · obtain ⟨x, v, ns, rfl, _⟩ := h
    rfl
  · obtain ⟨x, v, ns, rfl, Gx, h⟩ := h
    obtain ⟨⟨dx, t, hx, ht⟩, hc, hl, hp⟩ := id Gx
    refine ⟨_, (pss_one (ps_ret (pe_and (pe_callB call_isi (by rfl) T.n_isinstance (by decide +kernel) (pa_cons (pv 1) (pa_cons (pe_glob (v := .ref C) (by rfl) gG rfl) pa_nil))) (pe_one (pe_cmpR (op_eqD hr.units) (pe_fld (pv 0) rfl) (pe_fld (pv 1) rfl) (nomark _)))))), ?_⟩
    rcases h with ⟨y, ms, rfl, Gy, q⟩ | ⟨ty, hty, no, q⟩
    · obtain ⟨⟨dy, u, hy, hu⟩, _⟩ := id Gy
      refine ⟨.ref y, rfl, _, _, _, _, true, rfl, .own C, isG Gy L ci, ci.isi, true, rfl, iteT ⟨.ref x, rfl, x, C, dx, _, _, rfl, hx, L.cl, L.nc, rfl, .ref y, rfl, y, C, dy, _, _, rfl, hy, L.cl, L.nc, rfl, tD ns, tD ms, tD_dp ht, tD_dp hu, tD_sh ns, tD_sh ms, ?_⟩⟩
      show Q (.bl (PyData.eqv (tD ns) (tD ms))) H
      rw [tD_eqv]
      exact q
    · exact ⟨v, rfl, _, _, _, _, false, rfl, .own C, hty, no, false, rfl, iteF q⟩
def shiftL (k : Nat) (ns : List Int) : List Int := if ns = [] then [] else List.replicate k 0 ++ ns
theorem cut_shiftL {ns : List Int} (h : cut ns = ns) (k : Nat) : cut (List.replicate k 0 ++ ns) = shiftL k ns := by
  unfold shiftL
  split
  · next e => rw [e, List.append_nil, cut_zeros]
  · next e => exact cut_shift h e k
theorem op_cat_all {K : PySem.W.Frag} {H : Hp} {Q : VK} {a b : Addr} {xs ys : List V} (ha : H a = some (.tup xs)) (hb : H b = some (.tup ys)) (q : ∀ p H', L2.Same H H' → H' p = some (.tup (xs ++ ys)) → Q (.ref p) H') :
    (xs = [] → Q (.ref b) H) ∧ (xs ≠ [] → ys = [] → Q (.ref a) H) ∧ (xs ≠ [] → ys ≠ [] → ∀ p, H p = none → Q (.ref p) (upd H p (.tup (xs ++ ys)))) :=
  ⟨fun e => q b H (fun _ _ e => e) (by rw [e]; exact hb), fun _ e => q a H (fun _ _ e => e) (by rw [e, List.append_nil]; exact ha), fun _ _ p np => q p _ (same_new np) upd_same⟩
def spAdd (C : Addr) : Sp := fun vs H Q _ => ∃ (x y : Addr) (ns ms : List Int), vs = [.ref x, .ref y] ∧ GrAt C H x ns ∧ GrAt C H y ms ∧ (∀ z ∈ addL ns ms, z.natAbs < 2 ^ 90) ∧ ∀ p H', L2.Same H H' → H p = none → GrAt C H' p (cut (addL ns ms)) → Q (.ref p) H'
theorem ok_add {f f1 fI C CB : Addr} {fd fd1 fdI : FuncData} (F : Fun K "__add__" "Growth.__add__" s_Growth___add__ f fd) (D_coefficient_at : Df K mg "coefficient_at" s_coefficient_at f1 fd1 ["growth", "power"]) (G_coefficient_at : FnOk P w K mg base CX0 1 f1 fd1 ["growth", "power"] (spCoefAt C))
    (MS : Mk K C fI) (gG : mg "Growth" = some (.ref C)) (bI : Binds K fdI ["self", "coefficients"] []) (G_init : FnOk P w K mg base (L2N.CX P w) 3 fI fdI ["self", "coefficients"] (spInit K C CB)) (T : Nms mg) (L : ClT K C) : FnOk P w K mg base CX0 5 f fd ["self", "other"] (spAdd C) := by
  refine F.ok sc_Growth___add__ (fun vs H Q E h => ?_) (fun cdv A outer s H vs Q E hr h => ?_)
  · obtain ⟨x, y, ns, ms, rfl, _⟩ := h
    rfl
  · obtain ⟨x, y, ns, ms, rfl, Gx, Gy, hz, q⟩ := h
    obtain ⟨⟨dx, t, hx, ht⟩, hc, hl, hp⟩ := id Gx
    obtain ⟨⟨dy, u, hy, hu⟩, hc', hl', hp'⟩ := id Gy
    refine ⟨_, (pss_cons (ps_set (i := 2) sc_Growth___add__.nd rfl (.inl rfl) (pe_callB (call_max2 rfl) (by rfl) T.n_max (by decide +kernel) (pa_cons (pe_callB call_len_seq (by rfl) T.n_len (by decide +kernel) (pa_cons (pe_fld (pv 0) rfl) pa_nil)) (pa_cons (pe_callB call_len_seq (by rfl) T.n_len (by decide +kernel) (pa_cons (pe_fld (pv 1) rfl) pa_nil)) pa_nil))))
      (pss_one (ps_ret (pe_make MS G_init (hr.mono (by decide)) (by rfl) gG bI .nil passA (pa_cons (pe_callTy call_tuple_of (by rfl) T.n_tuple (by decide +kernel) (pa_cons (pe_lc (own := [("power", 3)]) (g := (gName 3)) (tt := tYes) rfl sc_Growth___add__.nd (pi_range1 (by rfl) T.n_range (pa_cons (pv 2) pa_nil)) (blkOk_by (own := [("power", 3)]) (N := N_Growth___add__) (sc := defScope s_Growth___add__) (by decide +kernel)) (fun _ _ _ _ _ => (pg_name (i := 3) sc_Growth___add__.nd rfl (.inl rfl))) (fun _ _ _ _ _ => pts_nil) (fun _ _ _ _ _ => (pe_op op_add (pe_call G_coefficient_at (hr.mono (by decide)) (by rfl) D_coefficient_at.g D_coefficient_at.F.kp D_coefficient_at.b .nil pass0 (pa_cons (pv 0) (pa_cons (pv 3) pa_nil))) (pe_call G_coefficient_at (hr.mono (by decide)) (by rfl) D_coefficient_at.g D_coefficient_at.F.kp D_coefficient_at.b .nil pass0 (pa_cons (pv 1) (pa_cons (pv 3) pa_nil)))))) pa_nil)) pa_nil))))), ?_⟩
    refine ⟨.ref x, rfl, x, C, dx, _, _, rfl, hx, L.cl, L.nc, rfl, t, _, rfl, .inr (.inl (.inl ht)), .ref y, rfl, y, C, dy, _, _, rfl, hy, L.cl, L.nc, rfl, u, _, rfl, .inr (.inl (.inl hu)), _, _, rfl, ?_⟩
    have em : (if ((ms.map V.int).length : Int) > ((ns.map V.int).length : Int) then ((ms.map V.int).length : Int) else ((ns.map V.int).length : Int)) = ((max ns.length ms.length : Nat) : Int) := by
      rw [List.length_map, List.length_map]
      split <;> omega
    rw [em]
    refine ⟨_, rfl, _, rfl, by omega, by omega, fun Da nD => lc_map (walk_range (lo := 0) (n := ((max ns.length ms.length : Nat) : Int).toNat)) (fun i v => v = .int (i : Int)) (fun k => .int (ns.getD k 0 + ms.getD k 0)) (fun i H x H' hi y => ⟨y.1, y.2.trans (congrArg V.int (Int.zero_add _))⟩) (fun _ _ => trivial) nD (by rw [Int.toNat_natCast]; omega) (fun _ => rfl) ?_ ?_⟩
    · rintro i v H1 Q1 hi rfl s1 q1
      refine ⟨.ref x, rfl, .int (i : Int), rfl, x, ns, i, rfl, Gx.same s1, .ref y, rfl, .int (i : Int), rfl, y, ms, i, rfl, Gy.same s1, _, _, rfl, rfl, q1 _ (fun _ _ e => e)⟩
    · intro H1 s1 e1
      rw [Int.toNat_natCast] at e1
      have e2 : H1 Da = some (.lst ((addL ns ms).map V.int)) := by rw [e1]; unfold addL; rw [List.map_map]; rfl
      refine ⟨Da, _, rfl, .inl ⟨SqL.of e2, fun p np => ?_⟩⟩
      have s2 : L2.Same H (upd H1 p (.tup ((addL ns ms).map V.int))) := s1.trans (same_new np)
      have e3 : (upd H1 p (.tup ((addL ns ms).map V.int))) p = some (.tup ((addL ns ms).map V.int)) := upd_same
      generalize upd H1 p (.tup ((addL ns ms).map V.int)) = H2 at s2 e3
      intro x1 d1 n1 nd nne
      have npx : p ≠ x1 := ne_of_none e3 n1
      have npd : p ≠ d1 := ne_of_none e3 nd
      refine ⟨x1, d1, .ref p, rfl, upd_same, .inl ⟨p, addL ns ms, rfl, by rw [upd_ne npx, upd_ne npd]; exact e3, ?_, fun z m => ⟨?_, hz z m⟩, fun H3 g3 k3 => ⟨rfl, q x1 H3 (fun a o e => ?_) (s2.free n1) g3⟩⟩⟩
      · rw [addL_len]
        omega
      · obtain ⟨k, _, rfl⟩ := List.mem_map.mp m
        have h0 : ∀ l : List Int, (∀ n ∈ l, 0 ≤ n ∧ n.natAbs < 2 ^ 90) → 0 ≤ l.getD k 0 := by
          intro l hl
          rw [List.getD_eq_getElem?_getD]
          cases e : l[k]? with
          | none => exact Int.le_refl _
          | some v => exact (hl v (List.mem_of_getElem? e)).1
        have a1 := h0 ns hp
        have a2 := h0 ms hp'
        omega
      · have ne1 : a ≠ x1 := ne_of_none (s2 _ _ e) n1
        have ne2 : a ≠ d1 := ne_of_none (s2 _ _ e) nd
        exact k3 a o ne1 (by rw [upd_ne ne1, upd_ne ne2]; exact s2 _ _ e)
def spShift (K : PySem.W.Frag) (C CB : Addr) : Sp := fun vs H Q E => ∃ (x : Addr) (v : V) (ns : List Int), vs = [.ref x, v] ∧ GrAt C H x ns ∧
  ((∃ k : Nat, v = .int (k : Int) ∧ k ≤ 20 ∧ ((ns.length + k ≤ 40 ∧ ∀ p H', L2.Same H H' → H p = none → GrAt C H' p (shiftL k ns) → Q (.ref p) H') ∨ (40 < ns.length + k ∧ ∀ H', L2.Same H H' → E (.ref CB) none H'))) ∨ (BadN K H 20 v ∧ E (.ref CB) none H))
theorem ok_shift {f f1 fI C CB : Addr} {fd fd1 fdI : FuncData} (F : Fun K "__lshift__" "Growth.__lshift__" s_Growth___lshift__ f fd) (D_check_number : Df K mg "check_number" s_check_number f1 fd1 ["number", "greatest"]) (G_check_number : FnOk P w K mg base (L2N.CX P w) 2 f1 fd1 ["number", "greatest"] (spCheckN K CB))
    (MS : Mk K C fI) (gG : mg "Growth" = some (.ref C)) (bI : Binds K fdI ["self", "coefficients"] []) (G_init : FnOk P w K mg base (L2N.CX P w) 3 fI fdI ["self", "coefficients"] (spInit K C CB)) (Cs : Cst mg) (L : ClT K C) : FnOk P w K mg base (L2N.CX P w) 5 f fd ["self", "power"] (spShift K C CB) := by
  obtain ⟨tMP, hMP⟩ := Cs.MP
  refine okC F sc_Growth___lshift__ (fun vs H Q E h => ?_) (fun cdv A outer s H vs Q E hr h => ?_)
  · obtain ⟨x, v, ns, rfl, _⟩ := h
    rfl
  · obtain ⟨x, v, ns, rfl, Gx, h⟩ := h
    obtain ⟨⟨dx, t, hx, ht⟩, hc, hl, hp⟩ := id Gx
    refine ⟨_, (pss_cons (ps_expr (pe_callS G_check_number (hr.mono (by decide)) (by rfl) D_check_number.g D_check_number.F.kp D_check_number.b (fun σ => L2N.passAt (L2N.takes_of rfl rfl rfl rfl) σ) (pa_cons (pv 1) (pa_cons (pe_glob (v := .int 20) (by rfl) hMP ⟨_, rfl⟩) pa_nil))))
      (pss_one (ps_ret (pe_makeX MS G_init (hr.mono (by decide)) (by rfl) gG bI (fun σ => L2N.passAt (L2N.takes_of rfl rfl rfl rfl) σ) (pa_cons (pe_op op_catA (pe_op op_repA (pe_tup (pa_cons pe_int pa_nil)) (pv 1)) (pe_fld (pv 0) rfl)) pa_nil))))), ?_⟩
    rcases h with ⟨k, rfl, hk, h⟩ | ⟨hb, q⟩
    · refine ⟨.int (k : Int), rfl, .int (k : Int), 20, rfl, .inl ⟨_, rfl, by omega, by omega, ?_⟩⟩
      refine ⟨by decide, fun p np => ⟨.int (k : Int), rfl, p, k, .int 0, rfl, rfl, upd_same, by omega, fun p1 H1 s1 e1 => ?_⟩⟩
      have s01 := (same_new (o := .tup [.int 0]) np).trans s1
      refine ⟨.ref x, rfl, x, C, dx, _, _, rfl, s01 _ _ hx, L.cl, L.nc, rfl, p1, t, _, _, rfl, rfl, .inl (.inl e1), .inl (.inl (s01 _ _ ht)), Nat.le_trans (show _ ≤ 1000 by rw [List.length_replicate, List.length_map]; omega) (by decide), ?_⟩
      have el : List.replicate k (V.int 0) ++ ns.map V.int = (List.replicate k 0 ++ ns).map V.int := by rw [List.map_append, List.map_replicate]
      have fin : ∀ p2 H2, L2.Same H H2 → H2 p2 = some (.tup ((List.replicate k 0 ++ ns).map V.int)) → ∀ x1 d1, H2 x1 = none → H2 d1 = none → d1 ≠ x1 → spInit K C CB [.ref x1, .ref p2] (upd (upd H2 d1 (.own x1)) x1 (.ins C d1 [])) (fun v H3 => v = .non ∧ Q (.ref x1) H3) E := by
        intro p2 H2 s2 e3 x1 d1 n1 nd nne
        have npx : p2 ≠ x1 := ne_of_none e3 n1
        have npd : p2 ≠ d1 := ne_of_none e3 nd
        have k0 : ∀ a o, H a = some o → (upd (upd H2 d1 (.own x1)) x1 (.ins C d1 [])) a = some o := fun a o e => by
          have ne1 : a ≠ x1 := ne_of_none (s2 _ _ e) n1
          have ne2 : a ≠ d1 := ne_of_none (s2 _ _ e) nd
          rw [upd_ne ne1, upd_ne ne2]
          exact s2 _ _ e
        have e4 : (upd (upd H2 d1 (.own x1)) x1 (.ins C d1 [])) p2 = some (.tup ((List.replicate k 0 ++ ns).map V.int)) := by rw [upd_ne npx, upd_ne npd]; exact e3
        rcases h with ⟨hle, q⟩ | ⟨hgt, q⟩
        · refine ⟨x1, d1, .ref p2, rfl, upd_same, .inl ⟨p2, _, rfl, e4, by rw [List.length_append, List.length_replicate]; omega, fun z m => ?_, fun H3 g3 k3 => ⟨rfl, q x1 H3 (fun a o e => ?_) (s2.free n1) ?_⟩⟩⟩
          · rcases List.mem_append.mp m with m | m
            · rw [List.eq_of_mem_replicate m]
              exact ⟨Int.le_refl _, by decide⟩
            · exact hp z m
          · exact k3 a o (ne_of_none (s2 _ _ e) n1) (k0 a o e)
          · rw [cut_shiftL hc] at g3
            exact g3
        · refine ⟨x1, d1, .ref p2, rfl, upd_same, .inr ⟨.long e4 (by rw [List.length_map, List.length_append, List.length_replicate]; omega), fun H3 s3 => q H3 fun a o e => s3 _ _ (k0 a o e)⟩⟩
      have tk := op_cat_all (K := K) (H := H1) (Q := fun v H2 => ∃ p2, v = .ref p2 ∧ L2.Same H H2 ∧ H2 p2 = some (.tup ((List.replicate k 0 ++ ns).map V.int))) e1 (s01 _ _ ht) fun p2 H2 s2 e2 => ⟨p2, rfl, s01.trans s2, by rw [e2, el]⟩
      refine ⟨fun h1 => ?_, fun h1 h2 => ?_, fun h1 h2 p2 np2 => ?_⟩
      · obtain ⟨p2, ep, s2, e2⟩ := tk.1 h1
        cases ep
        exact fin _ _ s2 e2
      · obtain ⟨p2, ep, s2, e2⟩ := tk.2.1 h1 h2
        cases ep
        exact fin _ _ s2 e2
      · obtain ⟨p3, ep, s2, e2⟩ := tk.2.2 h1 h2 p2 np2
        cases ep
        exact fin _ _ s2 e2
    · exact ⟨v, rfl, v, 20, rfl, .inr ⟨hb, q⟩⟩
end
end NW
namespace NW
open PySem PySem.Spec PyProof.Rows L2
open TL (tl)
abbrev s_Lsource : Stmt := topS 16
abbrev N_Lsource : List Str := ["_law_script", "_law_cell"]
theorem sc_Lsource : FnScope N_Lsource ["_law_script"] (defScope s_Lsource) := ⟨rfl, rfl, rfl, by decide +kernel, rfl, by decide +kernel, by decide +kernel⟩
abbrev s_Ldraw : Stmt := topS 17
abbrev N_Ldraw : List Str := ["_law_source_here", "_law_many", "_law_cells", "_law_at", "_law_number"]
theorem sc_Ldraw : FnScope N_Ldraw ["_law_source_here", "_law_many"] (defScope s_Ldraw) := ⟨rfl, rfl, rfl, by decide +kernel, rfl, by decide +kernel, by decide +kernel⟩
abbrev s_Lbool : Stmt := topS 18
abbrev N_Lbool : List Str := ["_law_said", "_law_due"]
theorem sc_Lbool : FnScope N_Lbool ["_law_said", "_law_due"] (defScope s_Lbool) := ⟨rfl, rfl, rfl, by decide +kernel, rfl, by decide +kernel, by decide +kernel⟩
abbrev s_Lcoefficients : Stmt := topS 19
abbrev N_Lcoefficients : List Str := ["_law_source_here", "_law_numbers", "_law_k", "_law_choice", "_law_number"]
theorem sc_Lcoefficients : FnScope N_Lcoefficients ["_law_source_here"] (defScope s_Lcoefficients) := ⟨rfl, rfl, rfl, by decide +kernel, rfl, by decide +kernel, by decide +kernel⟩
abbrev s_Lcut : Stmt := topS 20
abbrev N_Lcut : List Str := ["_law_numbers", "_law_many", "_law_k"]
theorem sc_Lcut : FnScope N_Lcut ["_law_numbers"] (defScope s_Lcut) := ⟨rfl, rfl, rfl, by decide +kernel, rfl, by decide +kernel, by decide +kernel⟩
abbrev s_Lvalue : Stmt := topS 21
abbrev N_Lvalue : List Str := ["_law_numbers", "_law_count", "_law_total", "_law_power", "_law_number"]
theorem sc_Lvalue : FnScope N_Lvalue ["_law_numbers", "_law_count"] (defScope s_Lvalue) := ⟨rfl, rfl, rfl, by decide +kernel, rfl, by decide +kernel, by decide +kernel⟩
abbrev s_Lsum : Stmt := topS 23
abbrev N_Lsum : List Str := ["_law_one", "_law_other", "_law_total", "_law_k"]
theorem sc_Lsum : FnScope N_Lsum ["_law_one", "_law_other"] (defScope s_Lsum) := ⟨rfl, rfl, rfl, by decide +kernel, rfl, by decide +kernel, by decide +kernel⟩
/-! ### the source of the draws -/
def Gs (b r : Addr) (H H' : Hp) : Prop := ∀ a o, a ≠ b → a ≠ r → H a = some o → H' a = some o
theorem Gs.refl {b r : Addr} {H : Hp} : Gs b r H H := fun _ _ _ _ e => e
theorem Gs.trans {b r : Addr} {H H1 H2 : Hp} (x : Gs b r H H1) (y : Gs b r H1 H2) : Gs b r H H2 := fun a o n m e => y a o n m (x a o n m e)
theorem Gs.of {b r : Addr} {H H1 : Hp} (x : L2.Same H H1) : Gs b r H H1 := fun a o _ _ e => x a o e
def Src (H : Hp) (b r : Addr) : Prop := ∃ (ns : List Int) (c : Int), H b = some (.lst [.ref r, .int c]) ∧ H r = some (.lst (ns.map V.int)) ∧ r ≠ b ∧ 0 < ns.length ∧ ns.length ≤ 64 ∧ 0 ≤ c
theorem Src.same {H H' : Hp} {b r : Addr} (h : Src H b r) (s : L2.Same H H') : Src H' b r := by
  obtain ⟨ns, c, e1, e2, n, l0, l1, c0⟩ := h
  exact ⟨ns, c, s _ _ e1, s _ _ e2, n, l0, l1, c0⟩
theorem Src.lsts {H : Hp} {b r : Addr} (h : Src H b r) : (∃ xs, H b = some (.lst xs)) ∧ ∃ xs, H r = some (.lst xs) := by
  obtain ⟨ns, c, e1, e2, _⟩ := h
  exact ⟨⟨_, e1⟩, ⟨_, e2⟩⟩
theorem Gs.tup {b r a : Addr} {H H' : Hp} {xs : List V} (g : Gs b r H H') (h : Src H b r) (e : H a = some (.tup xs)) : H' a = some (.tup xs) := by
  obtain ⟨⟨x1, e1⟩, ⟨x2, e2⟩⟩ := h.lsts
  exact g _ _ (ne_of e e1 (by intro z; cases z)) (ne_of e e2 (by intro z; cases z)) e
theorem Gs.new {b r a : Addr} {H H' : Hp} {o : HO} (g : Gs b r H H') (h : Src H b r) (n : a ≠ b) (m : a ≠ r) (e : H a = some o) : H' a = some o := g _ _ n m e
theorem Src.ne {H : Hp} {b r p : Addr} (h : Src H b r) (n : H p = none) : p ≠ b ∧ p ≠ r := by
  obtain ⟨⟨x1, e1⟩, ⟨x2, e2⟩⟩ := h.lsts
  exact ⟨(ne_of_none e1 n).symm, (ne_of_none e2 n).symm⟩
/-- a number that is drawn for a coefficient -/
def Co (n : Int) : Prop := 0 ≤ n ∧ n.natAbs < 2 ^ 82
section
variable {P : Program} {w : World} {K : PySem.W.Frag} {mg : Str → Option Value} {base : Heap}

theorem eqv_nilI (ns : List Int) : PyData.eqv (.list (ns.map PyData.int)) (.list []) = decide (ns = []) := by
  cases ns with
  | nil => rfl
  | cons a r => rfl
theorem lD_sh (ns : List Int) : SeqAt.shaped (.list (ns.map PyData.int)) = true := by
  have h1 := ints_lay ns
  have h2 := ints_depth ns
  unfold SeqAt.shaped
  rw [Bool.and_eq_true]
  refine ⟨by simpa only [PyData.canLay0] using h1, decide_eq_true ?_⟩
  simp only [PyData.depth]
  omega
def spSource (K : PySem.W.Frag) : Sp := fun vs H Q _ => ∃ (a : Addr) (ns : List Int), vs = [.ref a] ∧ SqL K H a (ns.map V.int) ∧ ns.length ≤ 63 ∧ ∀ H' b r, L2.Same H H' → Src H' b r → Q (.ref b) H'
theorem ok_source {f : Addr} {fd : FuncData} (D : Df K mg "_law_source" s_Lsource f fd ["_law_script"]) (T : Nms mg) : FnOk P w K mg base CX0 1 f fd ["_law_script"] (spSource K) := by
  refine D.F.ok sc_Lsource (fun vs H Q E h => ?_) (fun cdv A outer s H vs Q E hr h => ?_)
  · obtain ⟨a, ns, rfl, _⟩ := h
    rfl
  · obtain ⟨a, ns, rfl, ha, hl, q⟩ := h
    refine ⟨_, (pss_one (ps_ret (pe_lst (pa_cons (pe_op op_cat (pe_lc (own := [("_law_cell", 1)]) (g := (gName 1)) (tt := tYes) rfl sc_Lsource.nd (pi_list (pe_slice sl_list (pv 0) po_none (po_some pe_int))) (blkOk_by (own := [("_law_cell", 1)]) (N := N_Lsource) (sc := defScope s_Lsource) (by decide +kernel)) (fun _ _ _ _ _ => (pg_name (i := 1) sc_Lsource.nd rfl (.inl rfl))) (fun _ _ _ _ _ => pts_nil) (fun _ _ _ _ _ => (pe_callTy call_int1 (by rfl) T.n_int (by decide +kernel) (pa_cons (pv 1) pa_nil)))) (pe_op op_rep (pe_lst (pa_cons pe_int pa_nil)) (pe_callTy call_int1 (by rfl) T.n_int (by decide +kernel) (pa_cons (pe_cmpR (op_eqD hr.units) (pv 0) (pe_lst pa_nil) (nomark _)) pa_nil)))) (pa_cons pe_int pa_nil))))), ?_⟩
    have hS : ∀ n : Nat, n ≤ 1000 → n ≤ sizeLine := fun n h => Nat.le_trans h (by decide)
    refine ⟨.ref a, rfl, 63, rfl, a, _, rfl, ha, fun p np => ?_⟩
    have e1 : cutV (ns.map V.int) none (some 63) = ns.map V.int := by
      unfold cutV
      rw [show HT.sIx (ns.map V.int).length (ns.map V.int).length (some 63) = min 63 (ns.map V.int).length from HT.sIx_nat _ _ 63, HT.sIx_none]
      rw [List.length_map, Nat.min_eq_right hl, List.drop_zero, Nat.sub_zero]
      exact List.take_of_length_le (by rw [List.length_map]; exact Nat.le_refl _)
    rw [e1]
    have s1 := same_new (o := .lst (ns.map V.int)) np
    have ep : (upd H p (.lst (ns.map V.int))) p = some (.lst (ns.map V.int)) := upd_same
    generalize upd H p (.lst (ns.map V.int)) = H1 at s1 ep
    refine ⟨p, rfl, ⟨_, SqL.of ep⟩, fun Da nD => lc_map (walk_list (xs := ns.map V.int)) (fun i x => ∃ n, ns[i]? = some n ∧ x = .int n) (fun i => .int (ns.getD i 0)) (fun i H x H' hi y => ⟨y.1, ?_⟩) (fun H' s => SqL.of (s _ _ ep)) nD (by rw [List.length_map]; omega) (fun _ => rfl) ?_ ?_⟩
    · have e := y.2
      rw [List.getElem?_map] at e
      cases h : ns[i]? with
      | none => rw [h] at e; cases e
      | some n => rw [h] at e; cases e; exact ⟨n, rfl, rfl⟩
    · rintro i x H2 Q2 hi ⟨n, en, rfl⟩ s2 q2
      rw [show ns.getD i 0 = n by rw [List.getD_eq_getElem?_getD, en]; rfl] at q2
      exact ⟨.int n, rfl, .inl ⟨n, rfl, q2 _ (fun _ _ e => e)⟩⟩
    · intro H2 s2 e2
      have e3 : H2 Da = some (.lst (ns.map V.int)) := by
        rw [e2]
        congr 2
        rw [List.length_map]
        refine List.ext_getElem (by simp) fun i h1 h2 => ?_
        simp at h1
        simp [h1]
      refine ⟨hS 1 (by decide), fun p1 np1 => ?_⟩
      have s3 := same_new (o := .lst [.int 0]) np1
      have ep1 : (upd H2 p1 (.lst [.int 0])) p1 = some (.lst [.int 0]) := upd_same
      generalize upd H2 p1 (.lst [.int 0]) = H3 at s3 ep1
      have sA := s1.trans (s2.trans s3)
      have ha3 : SqL K H3 a (ns.map V.int) := by
        rcases ha with (h | ⟨o, h⟩) | h
        · exact .inl (.inl (sA _ _ h))
        · exact .inl (.inr ⟨o, sA _ _ h⟩)
        · exact .inr h
      refine ⟨.ref a, rfl, hS 0 (by decide), fun p2 np2 => ?_⟩
      have s4 := same_new (o := .lst []) np2
      have ha4 : SqL K (upd H3 p2 (.lst [])) a (ns.map V.int) := by
        rcases ha3 with (h | ⟨o, h⟩) | h
        · exact .inl (.inl (s4 _ _ h))
        · exact .inl (.inr ⟨o, s4 _ _ h⟩)
        · exact .inr h
      refine ⟨.list (ns.map PyData.int), .list [], .lst ha4 (ints_dp ns), .lst (SqL.of upd_same) .nil, lD_sh ns, lD_sh [], ?_⟩
      rw [eqv_nilI]
      generalize hH4 : upd H3 p2 (.lst []) = H4 at s4 ha4
      refine .inr ⟨_, rfl, ?_⟩
      have rest : ∀ (k : Nat), (if decide (ns = []) = true then (1 : Int) else 0) = (k : Int) → k ≤ 1 → 0 < ns.length + k → ∀ p3, H4 p3 = none → ∀ p4, (upd H4 p3 (.lst (List.replicate ((k : Int)).toNat [V.int 0]).flatten)) p4 = none → ∀ p5, (upd (upd H4 p3 (.lst (List.replicate ((k : Int)).toNat [V.int 0]).flatten)) p4 (.lst (ns.map V.int ++ (List.replicate ((k : Int)).toNat [V.int 0]).flatten))) p5 = none → Q (.ref p5) (upd (upd (upd H4 p3 (.lst (List.replicate ((k : Int)).toNat [V.int 0]).flatten)) p4 (.lst (ns.map V.int ++ (List.replicate ((k : Int)).toNat [V.int 0]).flatten))) p5 (.lst [.ref p4, .int 0])) := by
        intro k hk k1 k2 p3 np3 p4 np4 p5 np5
        have el : ns.map V.int ++ (List.replicate ((k : Int)).toNat [V.int 0]).flatten = (ns ++ List.replicate k 0).map V.int := by
          rw [Int.toNat_natCast, List.map_append, List.map_replicate, List.flatten_replicate_singleton]
        refine q _ p5 p4 (sA.trans (s4.trans ((same_new np3).trans ((same_new np4).trans (same_new np5))))) ⟨ns ++ List.replicate k 0, 0, upd_same, ?_, ?_, ?_, ?_, Int.le_refl _⟩
        · rw [upd_ne (fun e => by rw [← e, upd_same] at np5; cases np5), upd_same, el]
        · intro e
          rw [← e, upd_same] at np5
          cases np5
        · rw [List.length_append, List.length_replicate]
          exact k2
        · rw [List.length_append, List.length_replicate]
          omega
      have e34 : H4 Da = some (.lst (ns.map V.int)) := s4 _ _ (s3 _ _ e3)
      have ep14 := s4 _ _ ep1
      obtain ⟨k, hk, k1, k2⟩ : ∃ k : Nat, (if decide (ns = []) = true then (1 : Int) else 0) = (k : Int) ∧ k ≤ 1 ∧ 0 < ns.length + k := by
        by_cases h0 : ns = []
        · exact ⟨1, by rw [decide_eq_true h0]; rfl, Nat.le_refl _, by omega⟩
        · refine ⟨0, by rw [decide_eq_false h0]; rfl, by omega, ?_⟩
          cases ns with
          | nil => exact absurd rfl h0
          | cons x r => simp
      rw [hk]
      refine ⟨p1, (k : Int), [.int 0], rfl, rfl, ep14, by omega, by omega, Nat.le_trans (show 1 * _ ≤ 1000 by omega) (by decide), fun p3 np3 => ?_⟩
      have l3 : ((List.replicate ((k : Int)).toNat [V.int 0]).flatten).length = k := by rw [Int.toNat_natCast, List.flatten_replicate_singleton, List.length_replicate]
      refine ⟨Da, p3, _, _, rfl, rfl, (same_new np3) _ _ e34, upd_same, Nat.le_trans (show _ ≤ 1000 by rw [List.length_map, l3]; omega) (by decide), fun p4 np4 => ⟨hS 2 (by decide), fun p5 np5 => rest k hk k1 k2 p3 np3 p4 np4 p5 np5⟩⟩
def spDraw : Sp := fun vs H Q _ => ∃ (b r : Addr) (m : Int), vs = [.ref b, .int m] ∧ Src H b r ∧ 0 < m ∧ m < 1073741824 ∧ ∀ v H', 0 ≤ v → v < m → Gs b r H H' → Src H' b r → Q (.int v) H'
theorem ok_draw {f : Addr} {fd : FuncData} (D : Df K mg "_law_draw" s_Ldraw f fd ["_law_source_here", "_law_many"]) (T : Nms mg) : FnOk P w K mg base CX0 1 f fd ["_law_source_here", "_law_many"] spDraw := by
  refine D.F.ok sc_Ldraw (fun vs H Q E h => ?_) (fun cdv A outer s H vs Q E hr h => ?_)
  · obtain ⟨b, r, m, rfl, _⟩ := h
    rfl
  · obtain ⟨b, r, m, rfl, ⟨ns, c, hb, hrr, nrb, l0, l1, c0⟩, m0, m1, q⟩ := h
    refine ⟨_, (pss_cons (ps_set (i := 2) sc_Ldraw.nd rfl (.inl rfl) (pe_ix ix_list (pv 0) pe_int (fun _ _ => rfl)))
      (pss_cons (ps_asg (pe_op op_add (pe_ix ix_list (pv 0) pe_int (fun _ _ => rfl)) pe_int) (pg_sub (pv 0) pe_int set_list))
      (pss_cons (ps_set (i := 3) sc_Ldraw.nd rfl (.inl rfl) (pe_op op_modN (pe_callTy call_int1 (by rfl) T.n_int (by decide +kernel) (pa_cons (pe_ix ix_list (pv 0) pe_int (fun _ _ => rfl)) pa_nil)) (pe_callB call_len_seq (by rfl) T.n_len (by decide +kernel) (pa_cons (pv 2) pa_nil))))
      (pss_cons (ps_if (pt_cmpR op_ge (pe_ix ix_list (pv 2) (pv 3) (fun _ _ => rfl)) (pe_op op_pow pe_int pe_int) (nomark _))
       (pss_cons (ps_set (i := 4) sc_Ldraw.nd rfl (.inl rfl) (pe_op op_modN (pe_callTy call_int1 (by rfl) T.n_int (by decide +kernel) (pa_cons (pe_ix ix_list (pv 2) (pv 3) (fun _ _ => rfl)) pa_nil)) (pv 1)))
        (pss_cons (ps_asg (pe_op op_fdivN (pe_ix ix_list (pv 2) (pv 3) (fun _ _ => rfl)) (pv 1)) (pg_sub (pv 2) (pv 3) set_list))
        (pss_one (ps_ret (pv 4)))))
       pss_nil)
      (pss_cons (ps_set (i := 4) sc_Ldraw.nd rfl (.inl rfl) (pe_op op_add (pe_op op_add (pe_op op_modN (pe_callTy call_int1 (by rfl) T.n_int (by decide +kernel) (pa_cons (pe_ix ix_list (pv 2) (pv 3) (fun _ _ => rfl)) pa_nil)) pe_int) (pe_op op_mul pe_int (pe_ix ix_list (pv 0) pe_int (fun _ _ => rfl)))) pe_int))
      (pss_cons (ps_set (i := 4) sc_Ldraw.nd rfl (.inl rfl) (pe_op op_modN (pe_callTy call_int1 (by rfl) T.n_int (by decide +kernel) (pa_cons (pe_op op_mul (pv 4) pe_int) pa_nil)) pe_int))
      (pss_cons (ps_set (i := 4) sc_Ldraw.nd rfl (.inl rfl) (pe_op op_modN (pe_callTy call_int1 (by rfl) T.n_int (by decide +kernel) (pa_cons (pe_op op_mul (pv 4) (pe_op op_add (pe_op op_fdivN (pv 4) pe_int) pe_int)) pa_nil)) pe_int))
      (pss_cons (ps_set (i := 4) sc_Ldraw.nd rfl (.inl rfl) (pe_op op_modN (pe_callTy call_int1 (by rfl) T.n_int (by decide +kernel) (pa_cons (pe_op op_mul (pv 4) (pe_op op_add (pe_op op_fdivN (pv 4) pe_int) pe_int)) pa_nil)) pe_int))
      (pss_one (ps_ret (pe_op op_modN (pe_callTy call_int1 (by rfl) T.n_int (by decide +kernel) (pa_cons (pe_op op_fdivN (pv 4) pe_int) pa_nil)) (pv 1)))))))))))), ?_⟩
    have a0 : ∀ c : Int, atI [V.ref r, .int c] 0 = some (.ref r) := fun c => atI_nat (j := 0) rfl
    have a1 : ∀ c : Int, atI [V.ref r, .int c] 1 = some (.int c) := fun c => atI_nat (j := 1) rfl
    refine ⟨.ref b, rfl, b, _, 0, _, rfl, rfl, SqL.of hb, a0 c, ?_⟩
    refine ⟨.ref b, rfl, b, _, 1, _, rfl, rfl, SqL.of hb, a1 c, c, 1, rfl, rfl, .ref b, rfl, b, _, 1, 1, rfl, rfl, hb, rfl, ?_⟩
    have hb1 : (upd H b (.lst [.ref r, .int (c + 1)])) b = some (.lst [.ref r, .int (c + 1)]) := upd_same
    have hr1 : (upd H b (.lst [.ref r, .int (c + 1)])) r = some (.lst (ns.map V.int)) := by rw [upd_ne nrb]; exact hrr
    have g1 : Gs b r H (upd H b (.lst [.ref r, .int (c + 1)])) := fun a o n _ e => by rw [upd_ne n]; exact e
    show tSeq _ _ _ _ (upd H b (.lst [.ref r, .int (c + 1)]))
    generalize upd H b (.lst [.ref r, .int (c + 1)]) = H1 at hb1 hr1 g1
    have S1 : Src H1 b r := ⟨ns, c + 1, hb1, hr1, nrb, l0, l1, by omega⟩
    have hlen : ((ns.map V.int).length : Int) = (ns.length : Int) := by rw [List.length_map]
    refine ⟨.ref b, rfl, b, _, 1, _, rfl, rfl, SqL.of hb1, a1 (c + 1), .inl ⟨_, rfl, .ref r, rfl, r, _, rfl, .inl (SqL.of hr1), _, _, rfl, rfl, by rw [hlen]; omega, ?_⟩⟩
    rw [hlen]
    dsimp only
    have hat := fmod_range (a := c + 1) (m := (ns.length : Int)) (by omega)
    generalize (c + 1).fmod (ns.length : Int) = at_ at hat
    obtain ⟨j, rfl⟩ := Int.eq_ofNat_of_zero_le hat.1
    have hj : j < ns.length := by omega
    have gj : atI (ns.map V.int) (j : Int) = some (.int ns[j]) := atI_nat (by rw [List.getElem?_map, List.getElem?_eq_getElem hj]; rfl)
    refine ⟨.ref r, rfl, .int (j : Int), rfl, r, _, _, _, rfl, rfl, SqL.of hr1, gj, _, _, rfl, rfl, ⟨by decide, by decide, by decide⟩, _, _, rfl, rfl, _, rfl, ite2 (fun e => ?_) (fun e => ?_)⟩
    · refine ⟨.ref r, rfl, .int (j : Int), rfl, r, _, _, _, rfl, rfl, SqL.of hr1, gj, .inl ⟨_, rfl, .int m, rfl, _, _, rfl, rfl, Int.ne_of_gt m0, ?_⟩⟩
      refine ⟨.ref r, rfl, .int (j : Int), rfl, r, _, _, _, rfl, rfl, SqL.of hr1, gj, .int m, rfl, _, _, rfl, rfl, ⟨Int.ne_of_gt m0, by omega⟩, .ref r, rfl, .int (j : Int), rfl, r, _, _, j, rfl, rfl, hr1, ?_, ?_⟩
      · unfold ixN
        rw [List.length_map, if_pos (by omega), if_pos (by omega)]
        simp
      · refine ⟨_, rfl, q _ _ (fmod_range m0).1 (fmod_range m0).2 (g1.trans fun a o n n2 e => by rw [upd_ne n2]; exact e) ⟨ns.set j (ns[j].fdiv m), c + 1, by rw [upd_ne nrb.symm]; exact hb1, ?_, nrb, by rw [List.length_set]; exact l0, by rw [List.length_set]; exact l1, by omega⟩⟩
        rw [upd_same, List.map_set]
    · refine ⟨.ref r, rfl, .int (j : Int), rfl, r, _, _, _, rfl, rfl, SqL.of hr1, gj, .inl ⟨_, rfl, _, _, rfl, rfl, nz rfl, ?_⟩⟩
      refine ⟨.ref b, rfl, b, _, 1, _, rfl, rfl, SqL.of hb1, a1 (c + 1), _, _, rfl, rfl, .inl ⟨by decide, by decide⟩, _, _, rfl, rfl, _, _, rfl, rfl, ?_⟩
      -- number = int(number * 48271) % 2147483647
      refine ⟨_, rfl, _, _, rfl, rfl, .inr ⟨by decide, by decide⟩, .inl ⟨_, rfl, _, _, rfl, rfl, nz rfl, ?_⟩⟩
      have n1 : ∀ a : Int, 0 ≤ a.fmod 2147483647 ∧ a.fmod 2147483647 < 2147483647 := fun a => fmod_range (by decide)
      -- number = int(number * (number // 1009 + 69621)) % 2147483647
      refine ⟨_, rfl, _, rfl, _, _, rfl, rfl, ⟨by decide, by decide⟩, _, _, rfl, rfl, _, _, rfl, rfl, .inl ?_, .inl ⟨_, rfl, _, _, rfl, rfl, nz rfl, ?_⟩⟩
      · have := n1 ((ns[j].fmod 2147483647 + 7919 * (c + 1) + 1) * 48271)
        exact ⟨by omega, by omega⟩
      refine ⟨_, rfl, _, rfl, _, _, rfl, rfl, ⟨by decide, by decide⟩, _, _, rfl, rfl, _, _, rfl, rfl, .inl ?_, .inl ⟨_, rfl, _, _, rfl, rfl, nz rfl, ?_⟩⟩
      · generalize (ns[j].fmod 2147483647 + 7919 * (c + 1) + 1) * 48271 = z
        have := n1 (z.fmod 2147483647 * ((z.fmod 2147483647).fdiv 1009 + 69621))
        exact ⟨by omega, by omega⟩
      refine ⟨_, rfl, _, _, rfl, rfl, ⟨by decide, by decide⟩, .inl ⟨_, rfl, .int m, rfl, _, _, rfl, rfl, Int.ne_of_gt m0, ?_⟩⟩
      exact q _ _ (fmod_range m0).1 (fmod_range m0).2 g1 S1
def spBool : Sp := fun vs H Q _ => ∃ a b : Bool, vs = [.bl a, .bl b] ∧ Q (.bl (a == b)) H
theorem ok_bool {f : Addr} {fd : FuncData} (D : Df K mg "_law_bool" s_Lbool f fd ["_law_said", "_law_due"]) : FnOk P w K mg base CX0 1 f fd ["_law_said", "_law_due"] spBool := by
  refine D.F.ok sc_Lbool (fun vs H Q E h => ?_) (fun cdv A outer s H vs Q E hr h => ?_)
  · obtain ⟨a, b, rfl, _⟩ := h
    rfl
  · obtain ⟨a, b, rfl, q⟩ := h
    refine ⟨_, (pss_cons (ps_if (pt_val (pv 1))
       (pss_one (ps_ret (pe_cmpR op_is_bl (pv 0) pe_bl (nomark _))))
       pss_nil)
      (pss_one (ps_ret (pe_cmpR op_is_bl (pv 0) pe_bl (nomark _))))), ?_⟩
    cases b with
    | true => exact ⟨.bl true, rfl, true, rfl, iteT ⟨.bl a, rfl, a, true, rfl, rfl, by cases a <;> exact q⟩⟩
    | false => exact ⟨.bl false, rfl, false, rfl, iteF ⟨.bl a, rfl, a, false, rfl, rfl, by cases a <;> exact q⟩⟩
def spCoefs : Sp := fun vs H Q _ => ∃ (b r : Addr), vs = [.ref b] ∧ Src H b r ∧ ∀ (ns : List Int) p H', ns.length ≤ 40 → (∀ n ∈ ns, Co n) → Gs b r H H' → Src H' b r → H' p = some (.tup (ns.map V.int)) → Q (.ref p) H'
theorem ok_coefs {f f1 : Addr} {fd fd1 : FuncData} (D : Df K mg "_law_coefficients" s_Lcoefficients f fd ["_law_source_here"]) (D_Ldraw : Df K mg "_law_draw" s_Ldraw f1 fd1 ["_law_source_here", "_law_many"]) (G_Ldraw : FnOk P w K mg base CX0 1 f1 fd1 ["_law_source_here", "_law_many"] spDraw) (T : Nms mg) :
    FnOk P w K mg base CX0 2 f fd ["_law_source_here"] spCoefs := by
  refine D.F.ok sc_Lcoefficients (fun vs H Q E h => ?_) (fun cdv A outer s H vs Q E hr h => ?_)
  · obtain ⟨b, r, rfl, _⟩ := h
    rfl
  · obtain ⟨b, r, rfl, S, q⟩ := h
    refine ⟨_, (pss_cons (ps_set (i := 1) sc_Lcoefficients.nd rfl (.inl rfl) (pe_lst pa_nil))
      (pss_cons (ps_for PassesOwn.never rfl (pi_range1 (by rfl) T.n_range (pa_cons (pe_ix ix_list (pe_lst (pa_cons (pe_call G_Ldraw (hr.mono (by decide)) (by rfl) D_Ldraw.g D_Ldraw.F.kp D_Ldraw.b .nil pass0 (pa_cons (pv 0) (pa_cons pe_int pa_nil))) (pa_cons (pe_call G_Ldraw (hr.mono (by decide)) (by rfl) D_Ldraw.g D_Ldraw.F.kp D_Ldraw.b .nil pass0 (pa_cons (pv 0) (pa_cons pe_int pa_nil))) pa_nil))) (pe_call G_Ldraw (hr.mono (by decide)) (by rfl) D_Ldraw.g D_Ldraw.F.kp D_Ldraw.b .nil pass0 (pa_cons (pv 0) (pa_cons pe_int pa_nil))) (fun _ _ => rfl)) pa_nil)) (pg_name (i := 2) sc_Lcoefficients.nd rfl (.inl rfl))
       (pss_cons (ps_set (i := 3) sc_Lcoefficients.nd rfl (.inl rfl) (pe_call G_Ldraw (hr.mono (by decide)) (by rfl) D_Ldraw.g D_Ldraw.F.kp D_Ldraw.b .nil pass0 (pa_cons (pv 0) (pa_cons pe_int pa_nil))))
        (pss_cons (ps_set (i := 4) sc_Lcoefficients.nd rfl (.inl rfl) pe_int)
        (pss_cons (ps_if (pt_cmpR op_eq (pv 3) pe_int (nomark _))
         (pss_one (ps_set (i := 4) sc_Lcoefficients.nd rfl (.inl rfl) (pe_call G_Ldraw (hr.mono (by decide)) (by rfl) D_Ldraw.g D_Ldraw.F.kp D_Ldraw.b .nil pass0 (pa_cons (pv 0) (pa_cons pe_int pa_nil)))))
         pss_nil)
        (pss_cons (ps_if (pt_cmpR op_eq (pv 3) pe_int (nomark _))
         (pss_one (ps_set (i := 4) sc_Lcoefficients.nd rfl (.inl rfl) (pe_op op_add (pe_op op_mul (pe_call G_Ldraw (hr.mono (by decide)) (by rfl) D_Ldraw.g D_Ldraw.F.kp D_Ldraw.b .nil pass0 (pa_cons (pv 0) (pa_cons (pe_op op_pow pe_int pe_int) pa_nil))) (pe_op op_pow pe_int pe_int)) (pe_call G_Ldraw (hr.mono (by decide)) (by rfl) D_Ldraw.g D_Ldraw.F.kp D_Ldraw.b .nil pass0 (pa_cons (pv 0) (pa_cons (pe_op op_pow pe_int pe_int) pa_nil))))))
         pss_nil)
        (pss_one (ps_expr (pe_bm PySem.F.plainAttrs_list PySem.F.slot_list_append PySem.F.type_list_append mt_append (pv 1) (pa_cons (pv 4) pa_nil)))))))))
      (pss_one (ps_ret (pe_callTy call_tuple_of (by rfl) T.n_tuple (by decide +kernel) (pa_cons (pv 1) pa_nil)))))), ?_⟩
    have hS : ∀ n : Nat, n ≤ 1000 → n ≤ sizeLine := fun n h => Nat.le_trans h (by decide)
    refine ⟨hS 0 (by decide), fun p np => ?_⟩
    have S0 := S.same (same_new (o := .lst []) np)
    have g0 : Gs b r H (upd H p (.lst [])) := Gs.of (same_new np)
    have e0 : (upd H p (.lst [])) p = some (.lst (([] : List Int).map V.int)) := upd_same
    have npb := S.ne np
    generalize upd H p (.lst []) = H0 at S0 g0 e0
    refine ⟨.ref b, rfl, b, r, 21, rfl, S0, by decide, by decide, fun d1 H1 a1 b1 g1 S1 => ?_⟩
    refine ⟨.ref b, rfl, b, r, 41, rfl, S1, by decide, by decide, fun d2 H2 a2 b2 g2 S2 => ⟨hS 2 (by decide), fun p2 np2 => ?_⟩⟩
    have e2 := g2.new S1 npb.1 npb.2 (g1.new S0 npb.1 npb.2 e0)
    have S3 := S2.same (same_new (o := .lst [.int d1, .int d2]) np2)
    have g3 : Gs b r H (upd H2 p2 (.lst [.int d1, .int d2])) := g0.trans (g1.trans (g2.trans (Gs.of (same_new np2))))
    have np2b := S2.ne np2
    have e3 : (upd H2 p2 (.lst [.int d1, .int d2])) p2 = some (.lst [.int d1, .int d2]) := upd_same
    have e4 := (same_new (o := .lst [.int d1, .int d2]) np2) _ _ e2
    generalize upd H2 p2 (.lst [.int d1, .int d2]) = H3 at S3 g3 e3 e4
    refine ⟨.ref b, rfl, b, r, 2, rfl, S3, by decide, by decide, fun d3 H4 a3 b3 g4 S4 => ?_⟩
    have e5 := g4.new S3 np2b.1 np2b.2 e3
    have e6 := g4.new S3 npb.1 npb.2 e4
    have fin : ∀ n : Int, 0 ≤ n → n < 41 → atI [V.int d1, V.int d2] d3 = some (.int n) → ∃ (z : Addr) (xs : List V) (i : Int) (v : V), V.ref p2 = .ref z ∧ V.int d3 = .int i ∧ SqL K H4 z xs ∧ atI xs i = some v ∧ v = .int n := fun n _ _ e => ⟨p2, _, d3, _, rfl, rfl, SqL.of e5, e, rfl⟩
    obtain ⟨n, n0, n1, en⟩ : ∃ n : Int, 0 ≤ n ∧ n < 41 ∧ atI [V.int d1, V.int d2] d3 = some (.int n) := by
      have : d3 = 0 ∨ d3 = 1 := by omega
      rcases this with rfl | rfl
      · exact ⟨d1, a1, by omega, atI_nat (j := 0) rfl⟩
      · exact ⟨d2, a2, b2, atI_nat (j := 1) rfl⟩
    refine ⟨p2, _, d3, _, rfl, rfl, SqL.of e5, en, n, rfl, by omega, by omega, ?_⟩
    refine for_range (lo := 0) (n := n.toNat) (fun j σ H' => ∃ (ns : List Int) (y2 y3 y4 : Option V), σ = [some (.ref b), some (.ref p), y2, y3, y4] ∧ ns.length = j ∧ (∀ x ∈ ns, Co x) ∧ H' p = some (.lst (ns.map V.int)) ∧ Gs b r H H' ∧ Src H' b r) ⟨[], none, none, none, rfl, rfl, (fun x m => by cases m), e6, g3.trans g4, S4⟩ ?_ ?_
    · rintro j σ H' hj ⟨ns, y2, y3, y4, rfl, hl, hc, ep, gp, Sp⟩
      have hlen : ns.length < 1000 := by omega
      refine ⟨.ref b, rfl, b, r, 3, rfl, Sp, by decide, by decide, fun d4 H5 a4 b4 g5 S5 => ?_⟩
      have ep5 := g5.new Sp npb.1 npb.2 ep
      have gp5 := gp.trans g5
      clear ep gp Sp g5
      -- what is put in at last
      have last : ∀ (x : Int) (H6 : Hp), Co x → H6 p = some (.lst (ns.map V.int)) → Gs b r H H6 → Src H6 b r → (ns.map V.int).length < sizeLine ∧ (ns ++ [x]).length = j + 1 ∧ (∀ z ∈ ns ++ [x], Co z) ∧ (upd H6 p (.lst (ns.map V.int ++ [V.int x]))) p = some (.lst ((ns ++ [x]).map V.int)) ∧ Gs b r H (upd H6 p (.lst (ns.map V.int ++ [V.int x]))) ∧ Src (upd H6 p (.lst (ns.map V.int ++ [V.int x]))) b r := by
        intro x H6 hx e6 g6 S6
        refine ⟨Nat.lt_of_le_of_lt (show _ ≤ 1000 by rw [List.length_map]; omega) (by decide), by rw [List.length_append, hl]; rfl, fun z m => ?_, ?_, fun a o n1 n2 e => ?_, ?_⟩
        · rcases List.mem_append.mp m with m | m
          · exact hc z m
          · rw [List.mem_singleton.mp m]
            exact hx
        · rw [upd_same, List.map_append]
          rfl
        · have : a ≠ p := ne_of_none e np
          rw [upd_ne this]
          exact g6 a o n1 n2 e
        · obtain ⟨ms, c, f1, f2, n, l0, l1, c0⟩ := S6
          exact ⟨ms, c, by rw [upd_ne npb.1.symm]; exact f1, by rw [upd_ne npb.2.symm]; exact f2, n, l0, l1, c0⟩
      have hd : d4 = 0 ∨ d4 = 1 ∨ d4 = 2 := by omega
      rcases hd with rfl | rfl | rfl
      · refine ⟨.int 0, rfl, rfl, false, rfl, iteF ⟨.int 0, rfl, rfl, false, rfl, iteF ?_⟩⟩
        obtain ⟨h0, h1, h2, h3, h4, h5⟩ := last 0 H5 ⟨Int.le_refl _, by decide⟩ ep5 gp5 S5
        exact ⟨.ref p, rfl, .inl ⟨rfl, _, SqL.of ep5⟩, .int 0, rfl, p, _, _, rfl, rfl, ep5, h0, ns ++ [0], _, _, _, rfl, h1, h2, h3, h4, h5⟩
      · refine ⟨.int 1, rfl, rfl, true, rfl, iteT ⟨.ref b, rfl, b, r, 9, rfl, S5, by decide, by decide, fun d5 H6 a5 b5 g6 S6 => ⟨.int 1, rfl, rfl, false, rfl, iteF ?_⟩⟩⟩
        obtain ⟨h0, h1, h2, h3, h4, h5⟩ := last d5 H6 ⟨a5, by omega⟩ (g6.new S5 npb.1 npb.2 ep5) (gp5.trans g6) S6
        exact ⟨.ref p, rfl, .inl ⟨rfl, _, SqL.of (g6.new S5 npb.1 npb.2 ep5)⟩, .int d5, rfl, p, _, _, rfl, rfl, g6.new S5 npb.1 npb.2 ep5, h0, ns ++ [d5], _, _, _, rfl, h1, h2, h3, h4, h5⟩
      · refine ⟨.int 2, rfl, rfl, false, rfl, iteF ⟨.int 2, rfl, rfl, true, rfl, iteT ?_⟩⟩
        refine ⟨.ref b, rfl, _, _, rfl, rfl, ⟨by decide, by decide, by decide⟩, b, r, 10 ^ 8, rfl, S5, by decide, by decide, fun d5 H6 a5 b5 g6 S6 => ?_⟩
        refine ⟨_, _, rfl, rfl, ⟨by decide, by decide, by decide⟩, _, _, rfl, rfl, .inl ⟨by omega, by omega⟩, .ref b, rfl, _, _, rfl, rfl, ⟨by decide, by decide, by decide⟩, b, r, 10 ^ 8, rfl, S6, by decide, by decide, fun d6 H7 a6 b6 g7 S7 => ⟨_, _, rfl, rfl, ?_⟩⟩
        have ep7 := (g6.trans g7).new S5 npb.1 npb.2 ep5
        obtain ⟨h0, h1, h2, h3, h4, h5⟩ := last (d5 * 10 ^ 16 + d6) H7 ⟨by omega, by omega⟩ ep7 (gp5.trans (g6.trans g7)) S7
        exact ⟨.ref p, rfl, .inl ⟨rfl, _, SqL.of ep7⟩, .int (d5 * 10 ^ 16 + d6), rfl, p, _, _, rfl, rfl, ep7, h0, ns ++ [d5 * 10 ^ 16 + d6], _, _, _, rfl, h1, h2, h3, h4, h5⟩
    · rintro σ H' ⟨ns, y2, y3, y4, rfl, hl, hc, ep, gp, Sp⟩
      refine ⟨.ref p, rfl, p, _, rfl, .inl ⟨SqL.of ep, fun p9 np9 => q ns p9 _ (by omega) hc (gp.trans (Gs.of (same_new np9))) (Sp.same (same_new np9)) upd_same⟩⟩
def spCut : Sp := fun vs H Q _ => ∃ (t : Addr) (ns : List Int), vs = [.ref t] ∧ H t = some (.tup (ns.map V.int)) ∧ ns.length ≤ 1000 ∧ ∀ p H', L2.Same H H' → H' p = some (.tup ((cut ns).map V.int)) → Q (.ref p) H'
theorem ok_cut {f : Addr} {fd : FuncData} (D : Df K mg "_law_cut" s_Lcut f fd ["_law_numbers"]) (T : Nms mg) : FnOk P w K mg base CX0 1 f fd ["_law_numbers"] spCut := by
  refine D.F.ok sc_Lcut (fun vs H Q E h => ?_) (fun cdv A outer s H vs Q E hr h => ?_)
  · obtain ⟨t, ns, rfl, _⟩ := h
    rfl
  · obtain ⟨t, ns, rfl, ht, hl, q⟩ := h
    refine ⟨_, (pss_cons (ps_set (i := 1) sc_Lcut.nd rfl (.inl rfl) pe_int)
      (pss_cons (ps_for PassesOwn.never rfl (pi_range1 (by rfl) T.n_range (pa_cons (pe_callB call_len_seq (by rfl) T.n_len (by decide +kernel) (pa_cons (pv 0) pa_nil)) pa_nil)) (pg_name (i := 2) sc_Lcut.nd rfl (.inl rfl))
       (pss_one (ps_if (pt_cmpR op_ne (pe_ix ix_tup (pv 0) (pv 2) (fun _ _ => rfl)) pe_int (nomark _))
         (pss_one (ps_set (i := 1) sc_Lcut.nd rfl (.inl rfl) (pe_op op_add (pv 2) pe_int)))
         pss_nil)))
      (pss_one (ps_ret (pe_callTy call_tuple_of (by rfl) T.n_tuple (by decide +kernel) (pa_cons (pe_slice sl_tupA (pv 0) po_none (po_some (pv 1))) pa_nil)))))), ?_⟩
    have en : ((ns.map V.int).length : Int).toNat = ns.length := by rw [List.length_map]; exact Int.toNat_natCast _
    refine ⟨.ref t, rfl, t, _, rfl, .inr (.inl (.inl ht)), _, rfl, by omega, by rw [List.length_map]; omega, ?_⟩
    refine for_range (lo := 0) (n := ((ns.map V.int).length : Int).toNat) (fun j σ H' => ∃ y2, σ = [some (.ref t), some (.int ((cut (ns.take j)).length : Nat)), y2] ∧ H' = H) ⟨none, rfl, rfl⟩ ?_ ?_
    · rintro j σ H' hj ⟨y2, rfl, rfl⟩
      rw [en] at hj
      have ei : (ns.map V.int)[j]? = some (.int ns[j]) := by rw [List.getElem?_map, List.getElem?_eq_getElem hj]; rfl
      refine ⟨.ref t, rfl, .int (0 + (j : Int)), rfl, t, _, _, _, rfl, rfl, .inl (.inl ht), by rw [Int.zero_add]; exact atI_nat ei, rfl, _, rfl, ?_⟩
      by_cases h : ns[j] = 0
      · show (if (!decide (V.int ns[j] = V.int 0)) = true then _ else _)
        rw [decide_eq_true (congrArg V.int h)]
        refine iteF ⟨some (.int (0 + (j : Int))), ?_, rfl⟩
        rw [many_step ns j hj, if_pos h]
        rfl
      · show (if (!decide (V.int ns[j] = V.int 0)) = true then _ else _)
        rw [decide_eq_false (fun z => h (V.int.inj z))]
        refine iteT ⟨_, rfl, _, _, rfl, rfl, some (.int (0 + (j : Int))), ?_, rfl⟩
        rw [many_step ns j hj, if_neg h]
        show [some (V.ref t), some (V.int (0 + (j : Int) + 1)), some (V.int (0 + (j : Int)))] = _
        rw [Int.zero_add]
        rfl
    · rintro σ H' ⟨y2, rfl, rfl⟩
      rw [en, many_all]
      have tk := take_slice (H := H') (Q := fun v H3 => ∃ p, v = .ref p ∧ L2.Same H' H3 ∧ H3 p = some (.tup ((cut ns).map V.int))) (m := (cut ns).length) ht fun p H3 s3 e3 => ⟨p, rfl, s3, by rw [e3, ← List.map_take, cut_take]⟩
      refine ⟨.ref t, rfl, _, rfl, _, rfl, t, _, rfl, .inl (.inl ht), fun hw => ?_, fun hn p np => ?_⟩
      · obtain ⟨p, ep, s3, e3⟩ := tk.1 hw
        cases ep
        exact ⟨_, _, rfl, .inr ⟨.inl (.inl e3), q _ _ s3 e3⟩⟩
      · obtain ⟨p', ep, s3, e3⟩ := tk.2 hn p np
        cases ep
        exact ⟨_, _, rfl, .inr ⟨.inl (.inl e3), q _ _ s3 e3⟩⟩
def spValue : Sp := fun vs H Q _ => ∃ (t : Addr) (ns : List Int) (c : Int), vs = [.ref t, .int c] ∧ H t = some (.tup (ns.map V.int)) ∧ ns.length ≤ 100 ∧ c.natAbs < 2 ^ 100 ∧ (∀ n ∈ ns, n.natAbs < 2 ^ 90) ∧ Q (.int (val c ns)) H
theorem ok_value {f : Addr} {fd : FuncData} (D : Df K mg "_law_value" s_Lvalue f fd ["_law_numbers", "_law_count"]) : FnOk P w K mg base CX0 1 f fd ["_law_numbers", "_law_count"] spValue := by
  refine D.F.ok sc_Lvalue (fun vs H Q E h => ?_) (fun cdv A outer s H vs Q E hr h => ?_)
  · obtain ⟨t, ns, c, rfl, _⟩ := h
    rfl
  · obtain ⟨t, ns, c, rfl, ht, hl, hc, hp, q⟩ := h
    refine ⟨_, (pss_cons (ps_set (i := 2) sc_Lvalue.nd rfl (.inl rfl) pe_int)
      (pss_cons (ps_set (i := 3) sc_Lvalue.nd rfl (.inl rfl) pe_int)
      (pss_cons (ps_for PassesOwn.never rfl (pi_tup (pv 0)) (pg_name (i := 4) sc_Lvalue.nd rfl (.inl rfl))
       (pss_cons (ps_set (i := 2) sc_Lvalue.nd rfl (.inl rfl) (pe_op op_add (pv 2) (pe_op op_mulW (pv 4) (pv 3))))
        (pss_one (ps_set (i := 3) sc_Lvalue.nd rfl (.inl rfl) (pe_op op_mulW (pv 3) (pv 1))))))
      (pss_one (ps_ret (pv 2)))))), ?_⟩
    refine ⟨.ref t, rfl, t, rfl, ⟨_, .inl (.inl ht)⟩, for_tup (xs := ns.map V.int) (fun j σ H' => ∃ y4, σ = [some (.ref t), some (.int c), some (.int (val c (ns.take j))), some (.int (c ^ j)), y4] ∧ H' = H) ⟨none, by rw [Int.pow_zero]; rfl, rfl⟩ (fun j σ H' _ h => by obtain ⟨_, _, rfl⟩ := h; exact .inl (.inl ht)) ?_ ?_⟩
    · rintro j z σ H' ez ⟨y4, rfl, rfl⟩
      rw [List.getElem?_map] at ez
      by_cases hj : j < ns.length
      · rw [List.getElem?_eq_getElem hj] at ez
        cases ez
        have hpw := natAbs_pow_lt hc (by decide) j
        have hv := hp ns[j] (List.getElem_mem hj)
        refine ⟨_, rfl, .int ns[j], rfl, _, rfl, _, _, rfl, rfl, wide_mul hv hpw (by decide) (by omega) (by omega), _, _, rfl, rfl, _, rfl, _, rfl, _, _, rfl, rfl, wide_mul hpw hc (by omega) (by decide) (by omega), some (.int ns[j]), ?_, rfl⟩
        rw [List.take_succ_eq_append_getElem hj, val_snoc, List.length_take, Nat.min_eq_left (Nat.le_of_lt hj), Int.pow_succ]
        rfl
      · rw [List.getElem?_eq_none (by omega)] at ez
        cases ez
    · rintro σ H' ⟨y4, rfl, rfl⟩
      refine ⟨_, rfl, ?_⟩
      rw [List.length_map, List.take_length]
      exact q
end
section
variable {X : Cx}
/-- t[m:m + 1], whatever it is -/
def rOne : V → Option Int → Option Int → Hp → VK → Prop := fun x lo hi H Q => ∃ (a : Addr) (xs : List V) (m : Nat), x = .ref a ∧ H a = some (.tup xs) ∧ lo = some (m : Int) ∧ hi = some ((m : Int) + 1) ∧ ∀ p H', L2.Same H H' → H' p = some (.tup ((xs.drop m).take 1)) → Q (.ref p) H'
theorem sl_one : SlR X rOne := by
  intro pins s σ H x v vl vu lo hi sl Q I rx hs pl pu h
  obtain ⟨a, xs, m, rfl, ha, rfl, rfl, q⟩ := h
  exact sl_tupA pins s σ H _ v vl vu _ _ sl Q I rx hs pl pu ⟨a, xs, rfl, .inl (.inl ha), one_slice ha q⟩
/-- t[:m] -/
def rTake : V → Option Int → Option Int → Hp → VK → Prop := fun x lo hi H Q => ∃ (a : Addr) (xs : List V) (m : Nat), x = .ref a ∧ H a = some (.tup xs) ∧ lo = none ∧ hi = some (m : Int) ∧ ∀ p H', L2.Same H H' → H' p = some (.tup (xs.take m)) → Q (.ref p) H'
theorem sl_take : SlR X rTake := by
  intro pins s σ H x v vl vu lo hi sl Q I rx hs pl pu h
  obtain ⟨a, xs, m, rfl, ha, rfl, rfl, q⟩ := h
  exact sl_tupA pins s σ H _ v vl vu _ _ sl Q I rx hs pl pu ⟨a, xs, rfl, .inl (.inl ha), take_slice ha q⟩
/-- t + u, whatever it is -/
def rCatS : R2 := fun x y H Q => ∃ (a b : Addr) (xs ys : List V), x = .ref a ∧ y = .ref b ∧ H a = some (.tup xs) ∧ H b = some (.tup ys) ∧ xs.length + ys.length ≤ 1000 ∧ ∀ p H', L2.Same H H' → H' p = some (.tup (xs ++ ys)) → Q (.ref p) H'
theorem op_catS : OpR X (binaryOp .Add) rCatS := by
  intro pins s σ H x y v u Q I rx ry h
  obtain ⟨a, b, xs, ys, rfl, rfl, ha, hb, hz, q⟩ := h
  exact op_catA pins s σ H _ _ v u Q I rx ry ⟨a, b, xs, ys, rfl, rfl, .inl (.inl ha), .inl (.inl hb), Nat.le_trans hz (by decide), op_cat_all (K := X.K) ha hb q⟩
end
section
variable {P : Program} {w : World} {K : PySem.W.Frag} {mg : Str → Option Value} {base : Heap}

def spSum (K : PySem.W.Frag) : Sp := fun vs H Q _ => ∃ (t u : Addr) (ns ms : List Int), vs = [.ref t, .ref u] ∧ H t = some (.tup (ns.map V.int)) ∧ H u = some (.tup (ms.map V.int)) ∧ ns.length ≤ 40 ∧ ms.length ≤ 40 ∧ ∀ p H', L2.Same H H' → H' p = some (.tup ((addL ns ms).map V.int)) → Q (.ref p) H'
theorem ok_sum {f : Addr} {fd : FuncData} (D : Df K mg "_law_sum" s_Lsum f fd ["_law_one", "_law_other"]) (T : Nms mg) : FnOk P w K mg base CX0 1 f fd ["_law_one", "_law_other"] (spSum K) := by
  refine D.F.ok sc_Lsum (fun vs H Q E h => ?_) (fun cdv A outer s H vs Q E hr h => ?_)
  · obtain ⟨t, u, ns, ms, rfl, _⟩ := h
    rfl
  · obtain ⟨t, u, ns, ms, rfl, ht, hu, hl, hl', q⟩ := h
    refine ⟨_, (pss_cons (ps_set (i := 2) sc_Lsum.nd rfl (.inl rfl) (pe_lst pa_nil))
      (pss_cons (ps_for PassesOwn.never rfl (pi_range1 (by rfl) T.n_range (pa_cons (pe_callB (call_max2 rfl) (by rfl) T.n_max (by decide +kernel) (pa_cons (pe_callB call_len_seq (by rfl) T.n_len (by decide +kernel) (pa_cons (pv 0) pa_nil)) (pa_cons (pe_callB call_len_seq (by rfl) T.n_len (by decide +kernel) (pa_cons (pv 1) pa_nil)) pa_nil))) pa_nil)) (pg_name (i := 3) sc_Lsum.nd rfl (.inl rfl))
       (pss_one (ps_expr (pe_bm PySem.F.plainAttrs_list PySem.F.slot_list_append PySem.F.type_list_append mt_append (pv 2) (pa_cons (pe_op op_add (pe_callB (cr_sum rfl) (by rfl) T.n_sum (by decide +kernel) (pa_cons (pe_callTy call_list_of (by rfl) T.n_list (by decide +kernel) (pa_cons (pe_slice sl_one (pv 0) (po_some (pv 3)) (po_some (pe_op op_add (pv 3) pe_int))) pa_nil)) pa_nil)) (pe_callB (cr_sum rfl) (by rfl) T.n_sum (by decide +kernel) (pa_cons (pe_callTy call_list_of (by rfl) T.n_list (by decide +kernel) (pa_cons (pe_slice sl_one (pv 1) (po_some (pv 3)) (po_some (pe_op op_add (pv 3) pe_int))) pa_nil)) pa_nil))) pa_nil)))))
      (pss_one (ps_ret (pe_callTy call_tuple_of (by rfl) T.n_tuple (by decide +kernel) (pa_cons (pv 2) pa_nil)))))), ?_⟩
    have hS : ∀ n : Nat, n ≤ 1000 → n ≤ sizeLine := fun n h => Nat.le_trans h (by decide)
    have em : (if ((ms.map V.int).length : Int) > ((ns.map V.int).length : Int) then ((ms.map V.int).length : Int) else ((ns.map V.int).length : Int)) = ((max ns.length ms.length : Nat) : Int) := by
      rw [List.length_map, List.length_map]
      split <;> omega
    refine ⟨hS 0 (by decide), fun p np => ?_⟩
    have s0 := same_new (o := .lst []) np
    have e0 : (upd H p (.lst [])) p = some (.lst []) := upd_same
    generalize upd H p (.lst []) = H0 at s0 e0
    refine ⟨.ref t, rfl, t, _, rfl, .inr (.inl (.inl (s0 _ _ ht))), .ref u, rfl, u, _, rfl, .inr (.inl (.inl (s0 _ _ hu))), _, _, rfl, ?_⟩
    rw [em]
    refine ⟨_, rfl, by omega, by omega, ?_⟩
    refine for_range (lo := 0) (n := ((max ns.length ms.length : Nat) : Int).toNat) (fun j σ H' => ∃ y3, σ = [some (.ref t), some (.ref u), some (.ref p), y3] ∧ L2.Same H H' ∧ H' p = some (.lst (((List.range j).map fun k => ns.getD k 0 + ms.getD k 0).map V.int))) ⟨none, rfl, s0, e0⟩ ?_ ?_
    · rintro j σ H1 hj ⟨y3, rfl, s1, e1⟩
      rw [Int.toNat_natCast] at hj
      have el : ∀ ls : List Int, ((ls.map V.int).drop j).take 1 = ((ls.drop j).take 1).map V.int := fun ls => by rw [List.map_take, List.map_drop]
      have es : ∀ ls : List Int, ((ls.drop j).take 1).sum = ls.getD j 0 := by
        intro ls
        by_cases h : j < ls.length
        · rw [List.drop_eq_getElem_cons h, List.getD_eq_getElem?_getD, List.getElem?_eq_getElem h]
          show [ls[j]].sum = _
          simp
        · rw [List.drop_of_length_le (by omega), List.getD_eq_getElem?_getD, List.getElem?_eq_none (by omega)]
          rfl
      have z0 : (0 : Int) + (j : Int) = (j : Int) := Int.zero_add _
      refine ⟨.ref p, rfl, .inl ⟨rfl, _, SqL.of e1⟩, .ref t, rfl, _, rfl, _, rfl, _, rfl, _, _, rfl, rfl, _, rfl, t, _, j, rfl, s1 _ _ ht, congrArg some z0, congrArg some (congrArg (· + 1) z0), fun p2 H2 s2 e2 => ?_⟩
      refine ⟨p2, _, rfl, .inr (.inl (.inl e2)), fun l nl => ⟨l, (ns.drop j).take 1, rfl, SqL.of (by rw [upd_same, el]), ?_⟩⟩
      have s3 := s2.trans (same_new (o := .lst (((ns.map V.int).drop j).take 1)) nl)
      generalize upd H2 l (.lst (((ns.map V.int).drop j).take 1)) = H3 at s3
      refine ⟨.ref u, rfl, _, rfl, _, rfl, _, rfl, _, _, rfl, rfl, _, rfl, u, _, j, rfl, s3 _ _ (s1 _ _ hu), congrArg some z0, congrArg some (congrArg (· + 1) z0), fun p4 H4 s4 e4 => ?_⟩
      refine ⟨p4, _, rfl, .inr (.inl (.inl e4)), fun l5 nl5 => ⟨l5, (ms.drop j).take 1, rfl, SqL.of (by rw [upd_same, el]), _, _, rfl, rfl, ?_⟩⟩
      have s5 := s3.trans (s4.trans (same_new (o := .lst (((ms.map V.int).drop j).take 1)) nl5))
      generalize upd H4 l5 (.lst (((ms.map V.int).drop j).take 1)) = H5 at s5
      refine ⟨p, _, _, rfl, rfl, s5 _ _ e1, Nat.lt_of_le_of_lt (show _ ≤ 1000 by simp; omega) (by decide), some (.int (0 + (j : Int))), rfl, same_upd (s1.trans s5) np, ?_⟩
      rw [upd_same, List.range_succ, List.map_append, List.map_append]
      show some (HO.lst (_ ++ [V.int (((ns.drop j).take 1).sum + ((ms.drop j).take 1).sum)])) = _
      rw [es, es]
      rfl
    · rintro σ H1 ⟨y3, rfl, s1, e1⟩
      rw [Int.toNat_natCast] at e1
      exact ⟨.ref p, rfl, p, _, rfl, .inl ⟨SqL.of e1, fun p9 np9 => q p9 _ (s1.trans (same_new np9)) upd_same⟩⟩
end
end NW
namespace NW
open PySem PySem.Spec PyProof.Rows L2
open TL (tl)
abbrev s_Lis : Stmt := topS 22
abbrev N_Lis : List Str := ["_law_growth", "_law_numbers", "_law_count", "_law_due"]
theorem sc_Lis : FnScope N_Lis ["_law_growth", "_law_numbers", "_law_count"] (defScope s_Lis) := ⟨rfl, rfl, rfl, by decide +kernel, rfl, by decide +kernel, by decide +kernel⟩
theorem cutE {c : TT} {t u : TS} {D : Ends} {σ : L2.St} {H : Hp} (G : L2.St → Hp → Prop) (he : ∀ σ' H', G σ' H' → u D σ' H') (h : (∀ σ' H', G σ' H' → u D σ' H') → tIfS c t u D σ H) : tIfS c t u D σ H := h he
theorem nextT {D : Ends} {σ : L2.St} {H : Hp} (h : D.nx σ H) : tNext D σ H := h
theorem passAE {X : Cx} {σ : L2.St} : PassesAt (L2N.CX X.prog X.w) X σ ((fun _ => E0) σ) := fun pins H s e s' I c => passA pins σ H s e s' I c
theorem ne_self (l : List Int) : V.bl (!PyData.eqv (tD l) (tD l)) = V.bl false := by rw [tD_eqv, decide_eq_true rfl]; rfl
theorem eq_nil (l : List Int) : V.bl (PyData.eqv (tD l) (tD [])) = V.bl (decide (l = [])) := by rw [tD_eqv]
theorem ne_nil (l : List Int) : V.bl (!PyData.eqv (tD l) (tD [])) = V.bl (!decide (l = [])) := by rw [tD_eqv]
/-- the defs of the class that the law asks -/
structure Gro (P : Program) (w : World) (K : PySem.W.Frag) (mg : Str → Option Value) (base : Heap) (C CB : Addr) : Prop where
  L : ClT K C
  ci : ClsI K C
  gG : mg "Growth" = some (.ref C)
  prop : ∃ p f fd, PropOf K C "degree" p f ∧ FnOk P w K mg base CX0 1 f fd ["self"] (spDegree C) ∧ Binds K fd ["self"] []
  call : ∃ f fd, StX.CallO K C f ∧ FnOk P w K mg base (L2N.CX P w) 4 f fd ["self", "items"] (spCall K C CB) ∧ Binds K fd ["self", "items"] []
  init : ∃ f fd, Mk K C f ∧ FnOk P w K mg base (L2N.CX P w) 3 f fd ["self", "coefficients"] (spInit K C CB) ∧ Binds K fd ["self", "coefficients"] []
  add : ∃ f fd, OpM K C f "__add__" ∧ FnOk P w K mg base CX0 5 f fd ["self", "other"] (spAdd C) ∧ Binds K fd ["self", "other"] []
  shl : ∃ f fd, OpM K C f "__lshift__" ∧ FnOk P w K mg base (L2N.CX P w) 5 f fd ["self", "power"] (spShift K C CB) ∧ Binds K fd ["self", "power"] []
  eq : ∃ f fd, OpM K C f "__eq__" ∧ FnOk P w K mg base CX0 1 f fd ["self", "other"] (spEq K C) ∧ Binds K fd ["self", "other"] []
  sf : PySem.W.selfFirst K C = true
  nr : PySem.W.findIn K (.ref C) "__rlshift__" = some none
section
variable {P : Program} {w : World} {K : PySem.W.Frag} {mg : Str → Option Value} {base : Heap}

def spIs (C : Addr) : Sp := fun vs H Q _ => ∃ (x t : Addr) (ns : List Int) (c : Int), vs = [.ref x, .ref t, .int c] ∧ GrAt C H x (cut ns) ∧ H t = some (.tup (ns.map V.int)) ∧ ns.length ≤ 1000 ∧ 0 ≤ c ∧ c ≤ 10 ^ 30 ∧ ∀ H', L2.Same H H' → Q (.bl true) H'
theorem ok_is {f f1 f2 C CB : Addr} {fd fd1 fd2 : FuncData} (D : Df K mg "_law_is" s_Lis f fd ["_law_growth", "_law_numbers", "_law_count"]) (D_Lcut : Df K mg "_law_cut" s_Lcut f1 fd1 ["_law_numbers"]) (G_Lcut : FnOk P w K mg base CX0 1 f1 fd1 ["_law_numbers"] spCut)
    (D_Lvalue : Df K mg "_law_value" s_Lvalue f2 fd2 ["_law_numbers", "_law_count"]) (G_Lvalue : FnOk P w K mg base CX0 1 f2 fd2 ["_law_numbers", "_law_count"] spValue) (T : Nms mg) (GR : Gro P w K mg base C CB) : FnOk P w K mg base CX0 5 f fd ["_law_growth", "_law_numbers", "_law_count"] (spIs C) := by
  obtain ⟨L, ci, gG, ⟨pD, fD, fdD, PD, G_degree, bD⟩, ⟨fC, fdC, CO, G_call, bC⟩, _⟩ := GR
  refine D.F.ok sc_Lis (fun vs H Q E h => ?_) (fun cdv A outer s H vs Q E hr h => ?_)
  · obtain ⟨x, t, ns, c, rfl, _⟩ := h
    rfl
  · obtain ⟨x, t, ns, c, rfl, Gx, ht, hl, c0, c1, q⟩ := h
    refine ⟨_, (pss_cons (ps_set (i := 3) sc_Lis.nd rfl (.inl rfl) (pe_call G_Lcut (hr.mono (by decide)) (by rfl) D_Lcut.g D_Lcut.F.kp D_Lcut.b .nil pass0 (pa_cons (pv 1) pa_nil)))
      (pss_cons (ps_if (PW.pt (pw_or (pt_not (pt_val (pe_callB call_isi (by rfl) T.n_isinstance (by decide +kernel) (pa_cons (pe_fld (pv 0) rfl) (pa_cons (pe_bltn (v := .ty "tuple") (by rfl) T.n_tuple (by decide +kernel) rfl) pa_nil))))) (pw_or1 (pt_cmpR (op_neD hr.units) (pe_fld (pv 0) rfl) (pv 3) (nomark _)))))
       (pss_one (ps_ret pe_bl))
       pss_nil)
      (pss_cons (ps_if (PW.pt (pw_or (PW.pt (pw_and (pt_cmpR (op_eqD hr.units) (pv 3) (pe_tup pa_nil) (nomark _)) (pw_and1 (pt_cmpR op_notN (pe_prop (pv 0) L.cl PD G_degree (hr.mono (by decide)) bD .nil pass0 rfl) pe_non (nomark _))))) (pw_or1 (PW.pt (pw_and (pt_cmpR (op_neD hr.units) (pv 3) (pe_tup pa_nil) (nomark _)) (pw_and1 (pt_cmpR op_ne (pe_prop (pv 0) L.cl PD G_degree (hr.mono (by decide)) bD .nil pass0 rfl) (pe_op op_sub (pe_callB call_len_seq (by rfl) T.n_len (by decide +kernel) (pa_cons (pv 3) pa_nil)) pe_int) (nomark _))))))))
       (pss_one (ps_ret pe_bl))
       pss_nil)
      (pss_one (ps_ret (pe_and (pe_callB call_isi (by rfl) T.n_isinstance (by decide +kernel) (pa_cons (pv 0) (pa_cons (pe_glob (v := .ref C) (by rfl) gG rfl) pa_nil))) (pe_one (pe_cmpR op_eq (pe_callX (pv 0) CO G_call (hr.mono (by decide)) bC (fun σ => passAE) (pa_cons (pv 2) pa_nil)) (pe_call G_Lvalue (hr.mono (by decide)) (by rfl) D_Lvalue.g D_Lvalue.F.kp D_Lvalue.b .nil pass0 (pa_cons (pv 3) (pa_cons (pv 2) pa_nil))) (nomark _))))))))), ?_⟩
    have hS : ∀ n : Nat, n ≤ 1000 → n ≤ sizeLine := fun n h => Nat.le_trans h (by decide)
    refine ⟨.ref t, rfl, t, ns, rfl, ht, hl, fun p H1 s1 e1 => ?_⟩
    have G1 := Gx.same s1
    have hlc := Gx.len
    have hpc := Gx.pos
    clear Gx ht
    obtain ⟨⟨dx, u, hx, hu⟩, _⟩ := id G1
    refine ⟨.ref x, rfl, x, C, dx, _, _, rfl, hx, L.cl, L.nc, rfl, _, _, _, _, true, rfl, .ty "tuple", .base (.tup hu), kit_ty (by decide +kernel), true, rfl, iteF ⟨.ref x, rfl, x, C, dx, _, _, rfl, hx, L.cl, L.nc, rfl, .ref p, rfl, tD (cut ns), tD (cut ns), tD_dp hu, tD_dp e1, tD_sh _, tD_sh _, false, ne_self _, iteF ?_⟩⟩
    refine nextT ?_
    dsimp only
    refine cut1 (fun σ' H' => σ' = [some (.ref x), some (.ref t), some (.int c), some (.ref p)] ∧ L2.Same H1 H') ?_ (fun rest => ?_)
    · rintro σ' H5 ⟨rfl, s5⟩
      have G5 := G1.same s5
      obtain ⟨⟨dy, u5, hx5, hu5⟩, _⟩ := id G5
      refine ⟨.ref x, rfl, _, _, _, _, true, rfl, .own C, isG G5 L ci, ci.isi, true, rfl, iteT ⟨.ref x, rfl, x, rfl, .int c, rfl, dy, _, hx5, x, .int c, cut ns, rfl, G5, .inl ⟨c, rfl, c0, c1, fun H6 s6 => ?_⟩⟩⟩
      refine ⟨.ref p, rfl, .int c, rfl, p, cut ns, c, rfl, s6 _ _ (s5 _ _ e1), by omega, item_natAbs c0 c1, fun n m => (hpc n m).2, rfl, ?_⟩
      show Q (.bl (decide (V.int (val c (cut ns)) = V.int (val c (cut ns))))) H6
      rw [decide_eq_true rfl]
      exact q _ (s1.trans (s5.trans s6))
    · refine ⟨.ref p, rfl, hS 0 (by decide), fun p2 np2 => ?_⟩
      have s2 := same_new (o := .tup []) np2
      have e2 : (upd H1 p2 (.tup [])) p2 = some (.tup (([] : List Int).map V.int)) := upd_same
      generalize upd H1 p2 (.tup []) = H2 at s2 e2
      refine ⟨tD (cut ns), tD [], tD_dp (s2 _ _ e1), tD_dp e2, tD_sh _, tD_sh _, _, eq_nil _, ?_⟩
      by_cases h0 : cut ns = []
      · rw [decide_eq_true h0]
        refine iteT ⟨.ref x, rfl, x, dx, _, rfl, s2 _ _ hx, x, cut ns, rfl, G1.same s2, ?_⟩
        rw [if_pos h0]
        refine ⟨rfl, false, rfl, iteF ⟨.ref p, rfl, hS 0 (by decide), fun p3 np3 => ?_⟩⟩
        have s3 := s2.trans (same_new (o := .tup []) np3)
        have e3 : (upd H2 p3 (.tup [])) p3 = some (.tup (([] : List Int).map V.int)) := upd_same
        generalize upd H2 p3 (.tup []) = H3 at s3 e3
        refine ⟨tD (cut ns), tD [], tD_dp (s3 _ _ e1), tD_dp e3, tD_sh _, tD_sh _, _, ne_nil _, ?_⟩
        rw [decide_eq_true h0]
        exact iteF (rest _ _ ⟨rfl, s3⟩)
      · rw [decide_eq_false h0]
        refine iteF ⟨.ref p, rfl, hS 0 (by decide), fun p3 np3 => ?_⟩
        have s3 := s2.trans (same_new (o := .tup []) np3)
        have e3 : (upd H2 p3 (.tup [])) p3 = some (.tup (([] : List Int).map V.int)) := upd_same
        generalize upd H2 p3 (.tup []) = H3 at s3 e3
        refine ⟨tD (cut ns), tD [], tD_dp (s3 _ _ e1), tD_dp e3, tD_sh _, tD_sh _, _, ne_nil _, ?_⟩
        rw [decide_eq_false h0]
        refine iteT ⟨.ref x, rfl, x, dx, _, rfl, s3 _ _ hx, x, cut ns, rfl, G1.same s3, ?_⟩
        rw [if_neg h0]
        refine ⟨.ref p, rfl, p, _, rfl, .inr (.inl (.inl (s3 _ _ e1))), _, _, rfl, rfl, rfl, false, ?_, iteF (rest _ _ ⟨rfl, s3⟩)⟩
        show V.bl (!decide (V.int (((cut ns).length : Int) - 1) = V.int ((((cut ns).map V.int).length : Int) - 1))) = V.bl false
        rw [List.length_map, decide_eq_true rfl]
        rfl
end
end NW
namespace NW
open PySem PySem.Spec PyProof.Rows L2
open TL (tl)
abbrev s_Lbad : Stmt := topS 24
abbrev N_Lbad : List Str := ["_law_growth", "_law_choice", "_law_wrong", "e"]
theorem sc_Lbad : FnScope N_Lbad ["_law_growth", "_law_choice", "_law_wrong"] (defScope s_Lbad) := ⟨rfl, rfl, rfl, by decide +kernel, rfl, by decide +kernel, by decide +kernel⟩
theorem pe_shlXK {X : Cx} {CX : CXT} {k : Nat} {C f : Addr} {fd : FuncData} {ps : List Str} {sp : Sp} {E : L2.St → XK} {e1 e2 : Expr} {ta tb : TE} {pos : Pos} (K : PySem.W.Frag) (m : OpM X.K C f "__lshift__") (hc : PySem.W.selfFirst X.K C = true) (nr : PySem.W.findIn X.K (.ref C) "__rlshift__" = some none)
    (F : FnOk X.prog X.w X.K X.mg X.base CX k f fd ps sp) (hr : Room k X.A) (hb : Binds X.K fd ps []) (hx : ∀ σ, PassesAt CX X σ (E σ)) (ha : PE X e1 ta) (hb' : PE X e2 tb) (h : X.K = K := by rfl) : PE X (.BinOp e1 .LShift e2 pos) (tShlX K C sp E ta tb) := h ▸ pe_shlX m hc nr F hr hb hx ha hb'
theorem same_made {H : Hp} {x d : Addr} {o u : HO} (n1 : H x = none) (nd : H d = none) (ne : d ≠ x) : L2.Same H (upd (upd H d o) x u) := fun a v e => by
  rw [upd_ne (ne_of_none e n1), upd_ne (ne_of_none e nd)]
  exact e
theorem BadV.same {K : PySem.W.Frag} {H H' : Hp} {v : V} (h : BadV K H v) (s : L2.Same H H') : BadV K H' v := by
  cases h with
  | ty ty no => exact .ty (TyX.same s ty) no
  | long e h => exact .long (s _ _ e) h
  | item e hp h => exact .item (s _ _ e) (hp.same s) h
section
variable {P : Program} {w : World} {K : PySem.W.Frag} {mg : Str → Option Value} {base : Heap}

def spBad (K : PySem.W.Frag) (C : Addr) : Sp := fun vs H Q _ => ∃ (x : Addr) (ch : Int) (v : V) (ns : List Int), vs = [.ref x, .int ch, v] ∧ GrAt C H x ns ∧
  ((ch = 0 ∧ BadN K H (10 ^ 30) v) ∨ (ch = 1 ∧ BadN K H 20 v ∧ ∃ t, TyX K H v (.type t) ∧ ShT K C t) ∨ (ch = 2 ∧ ∃ o, Pl K H v o ∧ ∀ i, o = some i → i < 0) ∨ (ch = 3 ∧ BadV K H v)) ∧ ∀ H', L2.Same H H' → Q (.bl true) H'
theorem ok_bad {f C CB CW : Addr} {fd : FuncData} (D : Df K mg "_law_bad" s_Lbad f fd ["_law_growth", "_law_choice", "_law_wrong"]) (T : Nms mg) (GR : Gro P w K mg base C CB) (BB : ErrB K mg CB) (EC : ExcC K CB) (gW : mg "WishError" = some (.ref CW)) (kW : PySem.W.kitOne K (.ref CB) (.ref CW) = some true)
    (kV : PySem.W.kitOne K (.ref CB) (.type "ValueError") = some true) (eBB : PySem.W.exmOne K (.ref CB) (.ref CB) = some true) : FnOk P w K mg base CX0 6 f fd ["_law_growth", "_law_choice", "_law_wrong"] (spBad K C) := by
  obtain ⟨L, ci, gG, _, ⟨fC, fdC, CO, G_call, bC⟩, ⟨fI, fdI, MS, G_init, bI⟩, _, ⟨fS, fdS, mS, G_shl, bS⟩, _, sf, nr⟩ := GR
  refine D.F.ok sc_Lbad (fun vs H Q E h => ?_) (fun cdv A outer s H vs Q E hr h => ?_)
  · obtain ⟨x, ch, v, ns, rfl, _⟩ := h
    rfl
  · obtain ⟨x, ch, v, ns, rfl, Gx, h, q⟩ := h
    refine ⟨_, (pss_cons (L2N.ps_try_as (i := 3) rfl rfl sc_Lbad.nd rfl rfl ⟨rfl, by decide, .inl BB.gP⟩ takesA
        (fun W pn xe tk _ => (pss_one (ps_if (pt_cmpR op_eq (pv 1) pe_int (nomark _)) (pss_one (ps_expr (pe_callX (pv 0) CO G_call (hr.mono (by decide)) bC (fun σ => L2N.passAt tk σ) (pa_cons (pv 2) pa_nil)))) (pss_one (ps_if (pt_cmpR op_eq (pv 1) pe_int (nomark _)) (pss_one (ps_set (i := 0) sc_Lbad.nd rfl (.inl rfl) (pe_shlXK K mS sf nr G_shl (hr.mono (by decide)) bS (fun σ => L2N.passAt tk σ) (pv 0) (pv 2)))) (pss_one (ps_if (pt_cmpR op_eq (pv 1) pe_int (nomark _)) (pss_one (ps_expr (pe_makeX MS G_init (hr.mono (by decide)) (by rfl) gG bI (fun σ => L2N.passAt tk σ) (pa_cons (pe_tup (pa_cons pe_int (pa_cons (pv 2) pa_nil))) pa_nil)))) (pss_one (ps_expr (pe_makeX MS G_init (hr.mono (by decide)) (by rfl) gG bI (fun σ => L2N.passAt tk σ) (pa_cons (pv 2) pa_nil)))))))))))
        (fun a oe cls d pn hz hf => (pss_one (ps_ret (pe_and (pe_callB (call_isN EC hz.zc hf) (by rfl) T.n_isinstance (by decide +kernel) (pa_cons (pv 3) (pa_cons (pe_glob (v := .ref CW) (by rfl) gW rfl) pa_nil))) (pe_one (pe_callB (call_isN EC hz.zc hf) (by rfl) T.n_isinstance (by decide +kernel) (pa_cons (pv 3) (pa_cons (pe_bltn (v := .ty "ValueError") (by rfl) T.n_ValueError (by decide +kernel) rfl) pa_nil)))))))))
      (pss_one (ps_ret pe_bl))), ?_⟩
    have hS : ∀ n : Nat, n ≤ 1000 → n ≤ sizeLine := fun n h => Nat.le_trans h (by decide)
    obtain ⟨⟨dx, t, hx, ht⟩, _⟩ := id Gx
    rcases h with ⟨rfl, hb⟩ | ⟨rfl, hb, ty, hty, sh⟩ | ⟨rfl, o, hp, hn⟩ | ⟨rfl, hb⟩
    · refine ⟨.int 0, rfl, rfl, true, rfl, iteT ⟨.ref x, rfl, x, rfl, v, rfl, dx, _, hx, x, v, ns, rfl, Gx, .inr ⟨hb, ?_⟩⟩⟩
      exact ⟨true, eBB, fun _ e ne => ⟨.ref e, rfl, .ref CW, .ref CW, true, rfl, rfl, rfl, (fun u h => h), kW, true, rfl, iteT ⟨.ref e, rfl, .ty "ValueError", .type "ValueError", true, rfl, rfl, rfl, (fun u h => h), kV, q _ (fun _ _ e => e)⟩⟩, fun z => nomatch z⟩
    · refine ⟨.int 1, rfl, rfl, false, rfl, iteF ⟨.int 1, rfl, rfl, true, rfl, iteT ⟨.ref x, rfl, v, rfl, x, dx, _, ty, rfl, hx, hty, sh, x, v, ns, rfl, Gx, .inr ⟨hb, ?_⟩⟩⟩⟩
      exact ⟨true, eBB, fun _ e ne => ⟨.ref e, rfl, .ref CW, .ref CW, true, rfl, rfl, rfl, (fun u h => h), kW, true, rfl, iteT ⟨.ref e, rfl, .ty "ValueError", .type "ValueError", true, rfl, rfl, rfl, (fun u h => h), kV, q _ (fun _ _ e => e)⟩⟩, fun z => nomatch z⟩
    · refine ⟨.int 2, rfl, rfl, false, rfl, iteF ⟨.int 2, rfl, rfl, false, rfl, iteF ⟨.int 2, rfl, rfl, true, rfl, iteT ⟨v, rfl, hS 2 (by decide), fun p np => ?_⟩⟩⟩⟩
      intro x1 d1 n1 nd nne
      have s1 := same_made (o := .own x1) (u := .ins C d1 []) n1 nd nne
      have s2 := (same_new (o := .tup [.int 1, v]) np).trans s1
      refine ⟨x1, d1, .ref p, rfl, upd_same, .inr ⟨.item (s1 _ _ upd_same) (hp.same s2) hn, fun H3 s3 => ?_⟩⟩
      exact ⟨true, eBB, fun _ e ne => ⟨.ref e, rfl, .ref CW, .ref CW, true, rfl, rfl, rfl, (fun u h => h), kW, true, rfl, iteT ⟨.ref e, rfl, .ty "ValueError", .type "ValueError", true, rfl, rfl, rfl, (fun u h => h), kV, q _ (s2.trans s3)⟩⟩, fun z => nomatch z⟩
    · refine ⟨.int 3, rfl, rfl, false, rfl, iteF ⟨.int 3, rfl, rfl, false, rfl, iteF ⟨.int 3, rfl, rfl, false, rfl, iteF ⟨v, rfl, ?_⟩⟩⟩⟩
      intro x1 d1 n1 nd nne
      have s1 := same_made (o := .own x1) (u := .ins C d1 []) n1 nd nne
      refine ⟨x1, d1, v, rfl, upd_same, .inr ⟨hb.same s1, fun H3 s3 => ?_⟩⟩
      exact ⟨true, eBB, fun _ e ne => ⟨.ref e, rfl, .ref CW, .ref CW, true, rfl, rfl, rfl, (fun u h => h), kW, true, rfl, iteT ⟨.ref e, rfl, .ty "ValueError", .type "ValueError", true, rfl, rfl, rfl, (fun u h => h), kV, q _ (s1.trans s3)⟩⟩, fun z => nomatch z⟩
end
end NW
namespace NW
open PySem PySem.Spec PyProof.Rows L2
open TL (tl)
abbrev s_Lmoves : Stmt := topS 25
abbrev N_Lmoves : List Str := ["_law_growth", "_law_numbers", "_law_power", "_law_count", "_law_due", "_law_beyond", "_law_moved"]
theorem sc_Lmoves : FnScope N_Lmoves ["_law_growth", "_law_numbers", "_law_power", "_law_count"] (defScope s_Lmoves) := ⟨rfl, rfl, rfl, by decide +kernel, rfl, by decide +kernel, by decide +kernel⟩
theorem shT_int {K : PySem.W.Frag} {C : Addr} : ShT K C "int" := ⟨⟨_, by rfl⟩, ⟨_, by rfl⟩, by with_unfolding_all rfl⟩
theorem shT_bool {K : PySem.W.Frag} {C : Addr} : ShT K C "bool" := ⟨⟨_, by rfl⟩, ⟨_, by rfl⟩, by with_unfolding_all rfl⟩
theorem shT_non {K : PySem.W.Frag} {C : Addr} : ShT K C "NoneType" := ⟨⟨_, by rfl⟩, ⟨_, by rfl⟩, by with_unfolding_all rfl⟩
theorem shT_str {K : PySem.W.Frag} {C : Addr} : ShT K C "str" := ⟨⟨_, by rfl⟩, ⟨_, by rfl⟩, by with_unfolding_all rfl⟩
theorem shT_tup {K : PySem.W.Frag} {C : Addr} : ShT K C "tuple" := ⟨⟨_, by rfl⟩, ⟨_, by rfl⟩, by with_unfolding_all rfl⟩
theorem nf_tup {K : PySem.W.Frag} {C : Addr} : PySem.W.notFirst K C (.type "tuple") = true := by
  unfold PySem.W.notFirst
  rw [show PySem.W.subIn K (.type "tuple") (.ref C) = some false from by with_unfolding_all rfl]
  simp
section
variable {P : Program} {w : World} {K : PySem.W.Frag} {mg : Str → Option Value} {base : Heap}

def spMoves (C : Addr) : Sp := fun vs H Q _ => ∃ (x t : Addr) (ns : List Int) (k : Nat) (c : Int), vs = [.ref x, .ref t, .int (k : Int), .int c] ∧ GrAt C H x (cut ns) ∧ H t = some (.tup (ns.map V.int)) ∧ ns.length ≤ 40 ∧ k ≤ 20 ∧ 0 ≤ c ∧ c ≤ 10 ^ 30 ∧ ∀ H', L2.Same H H' → Q (.bl true) H'
theorem ok_moves {f f1 f2 C CB : Addr} {fd fd1 fd2 : FuncData} (D : Df K mg "_law_moves" s_Lmoves f fd ["_law_growth", "_law_numbers", "_law_power", "_law_count"]) (D_Lcut : Df K mg "_law_cut" s_Lcut f1 fd1 ["_law_numbers"]) (G_Lcut : FnOk P w K mg base CX0 1 f1 fd1 ["_law_numbers"] spCut)
    (D_Lis : Df K mg "_law_is" s_Lis f2 fd2 ["_law_growth", "_law_numbers", "_law_count"]) (G_Lis : FnOk P w K mg base CX0 5 f2 fd2 ["_law_growth", "_law_numbers", "_law_count"] (spIs C)) (T : Nms mg) (GR : Gro P w K mg base C CB) (BB : ErrB K mg CB) (eBB : PySem.W.exmOne K (.ref CB) (.ref CB) = some true) :
    FnOk P w K mg base CX0 6 f fd ["_law_growth", "_law_numbers", "_law_power", "_law_count"] (spMoves C) := by
  obtain ⟨L, ci, gG, _, _, _, _, ⟨fS, fdS, mS, G_shl, bS⟩, _, sf, nr⟩ := GR
  refine D.F.ok sc_Lmoves (fun vs H Q E h => ?_) (fun cdv A outer s H vs Q E hr h => ?_)
  · obtain ⟨x, t, ns, k, c, rfl, _⟩ := h
    rfl
  · obtain ⟨x, t, ns, k, c, rfl, Gx, ht, hl, hk, c0, c1, q⟩ := h
    refine ⟨_, (pss_cons (ps_set (i := 4) sc_Lmoves.nd rfl (.inl rfl) (pe_call G_Lcut (hr.mono (by decide)) (by rfl) D_Lcut.g D_Lcut.F.kp D_Lcut.b .nil pass0 (pa_cons (pv 1) pa_nil)))
      (pss_cons (ps_set (i := 5) sc_Lmoves.nd rfl (.inl rfl) (pe_and (pe_cmpR (op_neD hr.units) (pv 4) (pe_tup pa_nil) (nomark _)) (pe_one (pe_cmpR op_gt (pe_op op_add (pe_callB call_len_seq (by rfl) T.n_len (by decide +kernel) (pa_cons (pv 4) pa_nil)) (pv 2)) pe_int (nomark _)))))
      (pss_cons (ps_if (pt_cmpR (op_neD hr.units) (pv 4) (pe_tup pa_nil) (nomark _))
       (pss_one (ps_set (i := 4) sc_Lmoves.nd rfl (.inl rfl) (pe_op op_catS (pe_op op_repA (pe_tup (pa_cons pe_int pa_nil)) (pv 2)) (pv 4))))
       pss_nil)
      (pss_cons (L2N.ps_try_many rfl rfl takesA
        (fun W pn xe tk _ => (pss_one (ps_set (i := 6) sc_Lmoves.nd rfl (.inl rfl) (pe_shlXK K mS sf nr G_shl (hr.mono (by decide)) bS (fun σ => L2N.passAt tk σ) (pv 0) (pv 2)))))
        (.cons (ts := fun a cls d => _) ⟨rfl, by decide, .inl BB.gP⟩ (fun a oe cls d pn hz hf => (pss_one (ps_ret (pv 5)))) .nil))
      (pss_one (ps_ret (pe_and (pe_not (pv 5)) (pe_one (pe_call G_Lis (hr.mono (by decide)) (by rfl) D_Lis.g D_Lis.F.kp D_Lis.b .nil pass0 (pa_cons (pv 6) (pa_cons (pv 4) (pa_cons (pv 3) pa_nil)))))))))))), ?_⟩
    have hS : ∀ n : Nat, n ≤ 1000 → n ≤ sizeLine := fun n h => Nat.le_trans h (by decide)
    have hcl := cut_len ns
    refine ⟨.ref t, rfl, t, ns, rfl, ht, by omega, fun p H1 s1 e1 => ?_⟩
    have G1 := Gx.same s1
    clear Gx ht
    refine ⟨.ref p, rfl, hS 0 (by decide), fun p2 np2 => ?_⟩
    have s2 := same_new (o := .tup []) np2
    have e2 : (upd H1 p2 (.tup [])) p2 = some (.tup (([] : List Int).map V.int)) := upd_same
    generalize upd H1 p2 (.tup []) = H2 at s2 e2
    refine ⟨tD (cut ns), tD [], tD_dp (s2 _ _ e1), tD_dp e2, tD_sh _, tD_sh _, _, ne_nil _, ?_⟩
    by_cases h0 : cut ns = []
    · rw [decide_eq_true h0]
      refine iteF ⟨.ref p, rfl, hS 0 (by decide), fun p3 np3 => ?_⟩
      have s3 := s2.trans (same_new (o := .tup []) np3)
      have e3 : (upd H2 p3 (.tup [])) p3 = some (.tup (([] : List Int).map V.int)) := upd_same
      generalize upd H2 p3 (.tup []) = H3 at s3 e3
      refine ⟨tD (cut ns), tD [], tD_dp (s3 _ _ e1), tD_dp e3, tD_sh _, tD_sh _, _, ne_nil _, ?_⟩
      rw [decide_eq_true h0]
      have G3 := G1.same s3
      obtain ⟨⟨dx, u, hx, hu⟩, _⟩ := id G3
      refine iteF ⟨.ref x, rfl, .int (k : Int), rfl, x, dx, _, "int", rfl, hx, .base (.int _), shT_int, x, .int (k : Int), cut ns, rfl, G3, .inl ⟨k, rfl, hk, .inl ⟨by rw [h0]; show 0 + k ≤ 40; omega, fun m H4 s4 nm G4 => ?_⟩⟩⟩
      refine ⟨.bl false, rfl, false, rfl, true, rfl, iteT ⟨.ref m, rfl, .ref p, rfl, .int c, rfl, m, p, cut ns, c, rfl, ?_, s4 _ _ (s3 _ _ e1), by omega, c0, c1, fun H5 s5 => q _ (s1.trans (s3.trans (s4.trans s5)))⟩⟩
      rw [cut_idem]
      have : shiftL k (cut ns) = cut ns := by unfold shiftL; rw [if_pos h0, h0]
      rw [this] at G4
      exact G4
    · rw [decide_eq_false h0]
      refine iteT ⟨.ref p, rfl, p, _, rfl, .inr (.inl (.inl (s2 _ _ e1))), .int (k : Int), rfl, _, _, rfl, rfl, _, _, rfl, rfl, ?_⟩
      refine ⟨.ref p, rfl, hS 0 (by decide), fun p3 np3 => ?_⟩
      have s3 := s2.trans (same_new (o := .tup []) np3)
      have e3 : (upd H2 p3 (.tup [])) p3 = some (.tup (([] : List Int).map V.int)) := upd_same
      generalize upd H2 p3 (.tup []) = H3 at s3 e3
      refine ⟨tD (cut ns), tD [], tD_dp (s3 _ _ e1), tD_dp e3, tD_sh _, tD_sh _, _, ne_nil _, ?_⟩
      rw [decide_eq_false h0]
      refine iteT ⟨hS 1 (by decide), fun p4 np4 => ⟨.int (k : Int), rfl, p4, k, .int 0, rfl, rfl, upd_same, by omega, fun p5 H5 s5 e5 => ?_⟩⟩
      have s35 := s3.trans ((same_new (o := .tup [.int 0]) np4).trans s5)
      refine ⟨.ref p, rfl, p5, p, _, _, rfl, rfl, e5, s35 _ _ e1, by rw [List.length_replicate, List.length_map]; omega, fun p6 H6 s6 e6 => ?_⟩
      have s36 := s35.trans s6
      have el : List.replicate k (V.int 0) ++ (cut ns).map V.int = (List.replicate k 0 ++ cut ns).map V.int := by rw [List.map_append, List.map_replicate]
      rw [el] at e6
      have G6 := G1.same s36
      obtain ⟨⟨dx, u, hx, hu⟩, _⟩ := id G6
      have ec : (((cut ns).map V.int).length : Int) + (k : Int) = (((cut ns).length + k : Nat) : Int) := by rw [List.length_map]; omega
      by_cases hle : (cut ns).length + k ≤ 40
      · have hb : decide ((((cut ns).map V.int).length : Int) + (k : Int) > 40) = false := by rw [ec]; exact decide_eq_false (by omega)
        refine ⟨.ref x, rfl, .int (k : Int), rfl, x, dx, _, "int", rfl, hx, .base (.int _), shT_int, x, .int (k : Int), cut ns, rfl, G6, .inl ⟨k, rfl, hk, .inl ⟨hle, fun m H7 s7 nm G7 => ?_⟩⟩⟩
        refine ⟨_, rfl, false, congrArg V.bl hb, true, rfl, iteT ⟨.ref m, rfl, .ref p6, rfl, .int c, rfl, m, p6, List.replicate k 0 ++ cut ns, c, rfl, ?_, s7 _ _ e6, by rw [List.length_append, List.length_replicate]; omega, c0, c1, fun H8 s8 => q _ (s1.trans (s36.trans (s7.trans s8)))⟩⟩
        rw [cut_shiftL (cut_idem ns)]
        exact G7
      · have hb : decide ((((cut ns).map V.int).length : Int) + (k : Int) > 40) = true := by rw [ec]; exact decide_eq_true (by omega)
        refine ⟨.ref x, rfl, .int (k : Int), rfl, x, dx, _, "int", rfl, hx, .base (.int _), shT_int, x, .int (k : Int), cut ns, rfl, G6, .inl ⟨k, rfl, hk, .inr ⟨by omega, fun H7 s7 => ⟨true, eBB, fun _ e ne => ⟨_, rfl, ?_⟩, fun z => nomatch z⟩⟩⟩⟩
        show Q (.bl (decide ((((cut ns).map V.int).length : Int) + (k : Int) > 40))) H7
        rw [hb]
        exact q _ (s1.trans (s36.trans s7))
end
end NW
namespace NW
open PySem PySem.Spec PyProof.Rows L2
open TL (tl)
abbrev s_law : Stmt := topS 26
abbrev N_law : List Str := ["_law_script", "_law_source_here", "_law_power", "_law_choice", "_law_wrong", "_law_count", "_law_one", "_law_other", "_law_first", "_law_second", "_law_same"]
theorem sc_law : FnScope N_law ["_law_script"] (defScope s_law) := ⟨rfl, rfl, rfl, by decide +kernel, rfl, by decide +kernel, by decide +kernel⟩
/-- a wrong value -/
def Wr (p : Addr) (v : V) : Prop := (∃ i : Int, v = .int i ∧ i < 0) ∨ (∃ b, v = .bl b) ∨ v = .non ∨ v = .str "1" ∨ v = .ref p
theorem kitF {K : PySem.W.Frag} {a b : String} (h : (PySem.W.kitOne K (.type a) (.type b) = some false)) : PySem.W.kitOne K (.type a) (.type b) = some false := h
theorem Wr.all {K : PySem.W.Frag} {C p : Addr} {H : Hp} {v : V} (h : Wr p v) (e : H p = some (.tup [.int 1])) : ∃ (o : Option Int) (t : String) (d : PyData), Pl K H v o ∧ (∀ i, o = some i → i < 0) ∧ TyX K H v (.type t) ∧ ShT K C t ∧ Dp K H v d ∧ SeqAt.shaped d = true ∧
    ((PySem.W.kitOne K (.type t) (.type "tuple") = some false ∧ PyData.eqv d (tD [1]) = false) ∨ PyData.eqv d (tD [1]) = true) := by
  rcases h with ⟨i, rfl, hi⟩ | ⟨b, rfl⟩ | rfl | rfl | rfl
  · exact ⟨some i, "int", .int i, .int i, (fun j e => by cases e; exact hi), .base (.int i), shT_int, .int i, rfl, .inl ⟨kit_ty (by decide +kernel), rfl⟩⟩
  · exact ⟨none, "bool", .bool b, .bl b, (fun j e => by cases e), .base (.bl b), shT_bool, .bl b, rfl, .inl ⟨kit_ty (by decide +kernel), rfl⟩⟩
  · exact ⟨none, "NoneType", .none, .oth (.base .non) (kit_ty (by decide +kernel)), (fun j e => by cases e), .base .non, shT_non, .non, rfl, .inl ⟨kit_ty (by decide +kernel), rfl⟩⟩
  · exact ⟨none, "str", .str "1", .oth (.base (.str _)) (kit_ty (by decide +kernel)), (fun j e => by cases e), .base (.str _), shT_str, .str _, by decide +kernel, .inl ⟨kit_ty (by decide +kernel), rfl⟩⟩
  · exact ⟨none, "tuple", tD [1], .oth (.base (.tup e)) (kit_ty (by decide +kernel)), (fun j e => by cases e), .base (.tup e), shT_tup, tD_dp (ns := [1]) e, tD_sh _, .inr (by rw [tD_eqv]; rfl)⟩
def BadCase (K : PySem.W.Frag) (C : Addr) (H : Hp) (ch : Int) (v : V) : Prop := (ch = 0 ∧ BadN K H (10 ^ 30) v) ∨ (ch = 1 ∧ BadN K H 20 v ∧ ∃ t, TyX K H v (.type t) ∧ ShT K C t) ∨ (ch = 2 ∧ ∃ o, Pl K H v o ∧ ∀ i, o = some i → i < 0) ∨ (ch = 3 ∧ BadV K H v)
section
variable {P : Program} {w : World} {K : PySem.W.Frag} {mg : Str → Option Value} {base : Heap}

def spLaw (K : PySem.W.Frag) : Sp := fun vs H Q _ => ∃ (a : Addr) (ns : List Int), vs = [.ref a] ∧ SqL K H a (ns.map V.int) ∧ ns.length ≤ 63 ∧ ∀ H', Q (.bl true) H'
theorem ok_law {f f1 f2 f3 f4 f5 f6 f7 f8 f9 C CB : Addr} {fd fd1 fd2 fd3 fd4 fd5 fd6 fd7 fd8 fd9 : FuncData} (D : Df K mg "law" s_law f fd ["_law_script"])
    (D_Lsource : Df K mg "_law_source" s_Lsource f1 fd1 ["_law_script"]) (G_Lsource : FnOk P w K mg base CX0 1 f1 fd1 ["_law_script"] (spSource K))
    (D_Ldraw : Df K mg "_law_draw" s_Ldraw f2 fd2 ["_law_source_here", "_law_many"]) (G_Ldraw : FnOk P w K mg base CX0 1 f2 fd2 ["_law_source_here", "_law_many"] spDraw)
    (D_Lbool : Df K mg "_law_bool" s_Lbool f3 fd3 ["_law_said", "_law_due"]) (G_Lbool : FnOk P w K mg base CX0 1 f3 fd3 ["_law_said", "_law_due"] spBool)
    (D_Lcoefficients : Df K mg "_law_coefficients" s_Lcoefficients f4 fd4 ["_law_source_here"]) (G_Lcoefficients : FnOk P w K mg base CX0 2 f4 fd4 ["_law_source_here"] spCoefs)
    (D_Lcut : Df K mg "_law_cut" s_Lcut f5 fd5 ["_law_numbers"]) (G_Lcut : FnOk P w K mg base CX0 1 f5 fd5 ["_law_numbers"] spCut)
    (D_Lis : Df K mg "_law_is" s_Lis f6 fd6 ["_law_growth", "_law_numbers", "_law_count"]) (G_Lis : FnOk P w K mg base CX0 5 f6 fd6 ["_law_growth", "_law_numbers", "_law_count"] (spIs C))
    (D_Lsum : Df K mg "_law_sum" s_Lsum f7 fd7 ["_law_one", "_law_other"]) (G_Lsum : FnOk P w K mg base CX0 1 f7 fd7 ["_law_one", "_law_other"] (spSum K))
    (D_Lbad : Df K mg "_law_bad" s_Lbad f8 fd8 ["_law_growth", "_law_choice", "_law_wrong"]) (G_Lbad : FnOk P w K mg base CX0 6 f8 fd8 ["_law_growth", "_law_choice", "_law_wrong"] (spBad K C))
    (D_Lmoves : Df K mg "_law_moves" s_Lmoves f9 fd9 ["_law_growth", "_law_numbers", "_law_power", "_law_count"]) (G_Lmoves : FnOk P w K mg base CX0 6 f9 fd9 ["_law_growth", "_law_numbers", "_law_power", "_law_count"] (spMoves C))
    (T : Nms mg) (GR : Gro P w K mg base C CB) (kT : PySem.W.kitOne K (.type "tuple") (.ref C) = some false) : FnOk P w K mg base CX0 7 f fd ["_law_script"] (spLaw K) := by
  obtain ⟨L, ci, gG, _, _, ⟨fI, fdI, MS, G_init, bI⟩, ⟨fA, fdA, mA, G_add, bA⟩, _, ⟨fE, fdE, mE, G_eq, bE⟩, sf, nr⟩ := GR
  refine D.F.ok sc_law (fun vs H Q E h => ?_) (fun cdv A outer s H vs Q E hr h => ?_)
  · obtain ⟨a, ns, rfl, _⟩ := h
    rfl
  · obtain ⟨a, ns, rfl, ha, hl, qq⟩ := h
    refine ⟨_, (pss_cons (ps_set (i := 1) sc_law.nd rfl (.inl rfl) (pe_call G_Lsource (hr.mono (by decide)) (by rfl) D_Lsource.g D_Lsource.F.kp D_Lsource.b .nil pass0 (pa_cons (pv 0) pa_nil)))
      (pss_cons (ps_set (i := 2) sc_law.nd rfl (.inl rfl) (pe_call G_Ldraw (hr.mono (by decide)) (by rfl) D_Ldraw.g D_Ldraw.F.kp D_Ldraw.b .nil pass0 (pa_cons (pv 1) (pa_cons pe_int pa_nil))))
      (pss_cons (ps_set (i := 3) sc_law.nd rfl (.inl rfl) (pe_call G_Ldraw (hr.mono (by decide)) (by rfl) D_Ldraw.g D_Ldraw.F.kp D_Ldraw.b .nil pass0 (pa_cons (pv 1) (pa_cons pe_int pa_nil))))
      (pss_cons (ps_set (i := 4) sc_law.nd rfl (.inl rfl) (pe_ix ix_list (pe_lst (pa_cons (pe_un un_neg pe_int) (pa_cons pe_bl (pa_cons pe_non (pa_cons pe_str (pa_cons (pe_tup (pa_cons pe_int pa_nil)) (pa_cons (pe_un un_neg (pe_op op_pow pe_int pe_int)) (pa_cons pe_bl pa_nil)))))))) (pe_call G_Ldraw (hr.mono (by decide)) (by rfl) D_Ldraw.g D_Ldraw.F.kp D_Ldraw.b .nil pass0 (pa_cons (pv 1) (pa_cons pe_int pa_nil))) (fun _ _ => rfl)))
      (pss_cons (ps_set (i := 5) sc_law.nd rfl (.inl rfl) (pe_ix ix_list (pe_lst (pa_cons pe_int (pa_cons pe_int (pa_cons pe_int (pa_cons pe_int (pa_cons (pe_op op_pow pe_int pe_int) (pa_cons (pe_op op_mul (pe_call G_Ldraw (hr.mono (by decide)) (by rfl) D_Ldraw.g D_Ldraw.F.kp D_Ldraw.b .nil pass0 (pa_cons (pv 1) (pa_cons (pe_op op_pow pe_int pe_int) pa_nil))) (pe_op op_pow pe_int pe_int)) pa_nil))))))) (pe_call G_Ldraw (hr.mono (by decide)) (by rfl) D_Ldraw.g D_Ldraw.F.kp D_Ldraw.b .nil pass0 (pa_cons (pv 1) (pa_cons pe_int pa_nil))) (fun _ _ => rfl)))
      (pss_cons (ps_set (i := 6) sc_law.nd rfl (.inl rfl) (pe_call G_Lcoefficients (hr.mono (by decide)) (by rfl) D_Lcoefficients.g D_Lcoefficients.F.kp D_Lcoefficients.b .nil pass0 (pa_cons (pv 1) pa_nil)))
      (pss_cons (ps_set (i := 7) sc_law.nd rfl (.inl rfl) (pe_call G_Lcoefficients (hr.mono (by decide)) (by rfl) D_Lcoefficients.g D_Lcoefficients.F.kp D_Lcoefficients.b .nil pass0 (pa_cons (pv 1) pa_nil)))
      (pss_cons (ps_if (pt_cmpR op_eq (pe_call G_Ldraw (hr.mono (by decide)) (by rfl) D_Ldraw.g D_Ldraw.F.kp D_Ldraw.b .nil pass0 (pa_cons (pv 1) (pa_cons pe_int pa_nil))) pe_int (nomark _))
       (pss_one (ps_set (i := 7) sc_law.nd rfl (.inl rfl) (pe_slice sl_take (pe_op op_catS (pv 6) (pe_op op_repA (pe_tup (pa_cons pe_int pa_nil)) (pe_call G_Ldraw (hr.mono (by decide)) (by rfl) D_Ldraw.g D_Ldraw.F.kp D_Ldraw.b .nil pass0 (pa_cons (pv 1) (pa_cons pe_int pa_nil))))) po_none (po_some pe_int))))
       pss_nil)
      (pss_cons (ps_set (i := 8) sc_law.nd rfl (.inl rfl) (pe_make MS G_init (hr.mono (by decide)) (by rfl) gG bI .nil passA (pa_cons (pv 6) pa_nil)))
      (pss_cons (ps_set (i := 9) sc_law.nd rfl (.inl rfl) (pe_make MS G_init (hr.mono (by decide)) (by rfl) gG bI .nil passA (pa_cons (pv 7) pa_nil)))
      (pss_cons (ps_set (i := 10) sc_law.nd rfl (.inl rfl) (pe_cmpR (op_eqD hr.units) (pe_call G_Lcut (hr.mono (by decide)) (by rfl) D_Lcut.g D_Lcut.F.kp D_Lcut.b .nil pass0 (pa_cons (pv 6) pa_nil)) (pe_call G_Lcut (hr.mono (by decide)) (by rfl) D_Lcut.g D_Lcut.F.kp D_Lcut.b .nil pass0 (pa_cons (pv 7) pa_nil)) (nomark _)))
      (pss_cons (ps_if (PW.pt (pw_or (pt_not (pt_val (pe_call G_Lbool (hr.mono (by decide)) (by rfl) D_Lbool.g D_Lbool.F.kp D_Lbool.b .nil pass0 (pa_cons (pe_cmpR (op_ownEqT mE G_eq (hr.mono (by decide)) bE pass0) (pv 8) (pv 9) (nomark _)) (pa_cons (pv 10) pa_nil))))) (pw_or (pt_not (pt_val (pe_call G_Lbool (hr.mono (by decide)) (by rfl) D_Lbool.g D_Lbool.F.kp D_Lbool.b .nil pass0 (pa_cons (pe_cmpR (op_ownEqT mE G_eq (hr.mono (by decide)) bE pass0) (pv 9) (pv 8) (nomark _)) (pa_cons (pv 10) pa_nil))))) (pw_or1 (pt_cmpR (op_ownEqT mE G_eq (hr.mono (by decide)) bE pass0) (pv 8) (pe_call G_Lcut (hr.mono (by decide)) (by rfl) D_Lcut.g D_Lcut.F.kp D_Lcut.b .nil pass0 (pa_cons (pv 6) pa_nil)) (nomark _))))))
       (pss_one (ps_ret pe_bl))
       pss_nil)
      (pss_cons (ps_if (pt_not (pt_val (pe_call G_Lis (hr.mono (by decide)) (by rfl) D_Lis.g D_Lis.F.kp D_Lis.b .nil pass0 (pa_cons (pe_op (op_ownAdd mA sf G_add (hr.mono (by decide)) bA pass0) (pv 8) (pv 9)) (pa_cons (pe_call G_Lsum (hr.mono (by decide)) (by rfl) D_Lsum.g D_Lsum.F.kp D_Lsum.b .nil pass0 (pa_cons (pv 6) (pa_cons (pv 7) pa_nil))) (pa_cons (pv 5) pa_nil))))))
       (pss_one (ps_ret pe_bl))
       pss_nil)
      (pss_cons (ps_if (PW.pt (pw_or (pt_not (pt_val (pe_call G_Lmoves (hr.mono (by decide)) (by rfl) D_Lmoves.g D_Lmoves.F.kp D_Lmoves.b .nil pass0 (pa_cons (pv 8) (pa_cons (pv 6) (pa_cons (pv 2) (pa_cons (pv 5) pa_nil))))))) (pw_or1 (pt_not (pt_val (pe_call G_Lmoves (hr.mono (by decide)) (by rfl) D_Lmoves.g D_Lmoves.F.kp D_Lmoves.b .nil pass0 (pa_cons (pv 9) (pa_cons (pv 7) (pa_cons pe_int (pa_cons (pv 5) pa_nil))))))))))
       (pss_one (ps_ret pe_bl))
       pss_nil)
      (pss_cons (ps_if (PW.pt (pw_and (pt_cmpR op_eq (pv 3) pe_int (nomark _)) (pw_and1 (pt_cmpR (op_eqD hr.units) (pv 4) (pe_tup (pa_cons pe_int pa_nil)) (nomark _)))))
       (pss_one (ps_set (i := 4) sc_law.nd rfl (.inl rfl) (pe_op op_repA (pe_tup (pa_cons pe_int pa_nil)) pe_int)))
       pss_nil)
      (pss_cons (ps_if (PW.pt (pw_or (pt_not (pt_val (pe_call G_Lbad (hr.mono (by decide)) (by rfl) D_Lbad.g D_Lbad.F.kp D_Lbad.b .nil pass0 (pa_cons (pv 8) (pa_cons (pv 3) (pa_cons (pv 4) pa_nil)))))) (pw_or (pt_not (pt_val (pe_call G_Lbad (hr.mono (by decide)) (by rfl) D_Lbad.g D_Lbad.F.kp D_Lbad.b .nil pass0 (pa_cons (pv 8) (pa_cons pe_int (pa_cons (pe_op op_add (pe_op op_pow pe_int pe_int) pe_int) pa_nil)))))) (pw_or1 (pt_not (pt_val (pe_call G_Lbad (hr.mono (by decide)) (by rfl) D_Lbad.g D_Lbad.F.kp D_Lbad.b .nil pass0 (pa_cons (pv 8) (pa_cons pe_int (pa_cons pe_int pa_nil))))))))))
       (pss_one (ps_ret pe_bl))
       pss_nil)
      (pss_one (ps_ret (pe_and (pe_call G_Lis (hr.mono (by decide)) (by rfl) D_Lis.g D_Lis.F.kp D_Lis.b .nil pass0 (pa_cons (pv 8) (pa_cons (pv 6) (pa_cons (pv 5) pa_nil)))) (pe_one (pe_call G_Lis (hr.mono (by decide)) (by rfl) D_Lis.g D_Lis.F.kp D_Lis.b .nil pass0 (pa_cons (pv 9) (pa_cons (pv 7) (pa_cons (pv 5) pa_nil)))))))))))))))))))))))), ?_⟩
    have hS : ∀ n : Nat, n ≤ 1000 → n ≤ sizeLine := fun n h => Nat.le_trans h (by decide)
    refine ⟨.ref a, rfl, a, ns, rfl, ha, hl, fun H1 b r s1 S1 => ?_⟩
    refine ⟨.ref b, rfl, b, r, 21, rfl, S1, by decide, by decide, fun kp H2 a2 b2 g2 S2 => ?_⟩
    refine ⟨.ref b, rfl, b, r, 4, rfl, S2, by decide, by decide, fun ch H3 a3 b3 g3 S3 => ?_⟩
    -- the wrong value
    refine ⟨_, rfl, hS 1 (by decide), fun p np => ⟨_, _, rfl, rfl, ⟨by decide, by decide, by decide⟩, _, rfl, hS 7 (by decide), fun q nq => ?_⟩⟩
    have S4 := (S3.same (same_new (o := .tup [.int 1]) np)).same (same_new (o := .lst [.int (-1), .bl true, .non, .str "1", .ref p, .int (-10 ^ 30), .bl false]) nq)
    have ep : (upd (upd H3 p (.tup [.int 1])) q (.lst [.int (-1), .bl true, .non, .str "1", .ref p, .int (-10 ^ 30), .bl false])) p = some (.tup [.int 1]) := same_new nq _ _ upd_same
    have eq : (upd (upd H3 p (.tup [.int 1])) q (.lst [.int (-1), .bl true, .non, .str "1", .ref p, .int (-10 ^ 30), .bl false])) q = some (.lst [.int (-1), .bl true, .non, .str "1", .ref p, .int (-10 ^ 30), .bl false]) := upd_same
    have nqb := (S3.same (same_new (o := .tup [.int 1]) np)).ne nq
    have g34 : Gs b r H3 (upd (upd H3 p (.tup [.int 1])) q (.lst [.int (-1), .bl true, .non, .str "1", .ref p, .int (-10 ^ 30), .bl false])) := (Gs.of (same_new np)).trans (Gs.of (same_new nq))
    refine ⟨.ref b, rfl, b, r, 7, rfl, S4, by decide, by decide, fun d5 H5 a5 b5 g5 S5 => ?_⟩
    have ep5 := g5.tup S4 ep
    have eq5 := g5.new S4 nqb.1 nqb.2 eq
    obtain ⟨v, ev, hv⟩ : ∃ v, atI [V.int (-1), .bl true, .non, .str "1", .ref p, .int (-10 ^ 30), .bl false] d5 = some v ∧ Wr p v := by
      have : d5 = 0 ∨ d5 = 1 ∨ d5 = 2 ∨ d5 = 3 ∨ d5 = 4 ∨ d5 = 5 ∨ d5 = 6 := by omega
      rcases this with rfl | rfl | rfl | rfl | rfl | rfl | rfl
      · exact ⟨_, atI_nat (j := 0) rfl, .inl ⟨_, rfl, by decide⟩⟩
      · exact ⟨_, atI_nat (j := 1) rfl, .inr (.inl ⟨_, rfl⟩)⟩
      · exact ⟨_, atI_nat (j := 2) rfl, .inr (.inr (.inl rfl))⟩
      · exact ⟨_, atI_nat (j := 3) rfl, .inr (.inr (.inr (.inl rfl)))⟩
      · exact ⟨_, atI_nat (j := 4) rfl, .inr (.inr (.inr (.inr rfl)))⟩
      · exact ⟨_, atI_nat (j := 5) rfl, .inl ⟨_, rfl, by decide⟩⟩
      · exact ⟨_, atI_nat (j := 6) rfl, .inr (.inl ⟨_, rfl⟩)⟩
    refine ⟨q, _, d5, v, rfl, rfl, SqL.of eq5, ev, ?_⟩
    clear ev eq5 eq g34 nqb
    -- the number of items
    refine ⟨_, _, rfl, rfl, ⟨by decide, by decide, by decide⟩, .ref b, rfl, _, _, rfl, rfl, ⟨by decide, by decide, by decide⟩, b, r, 10 ^ 8, rfl, S5, by decide, by decide, fun d6 H6 a6 b6 g6 S6 => ?_⟩
    refine ⟨_, _, rfl, rfl, ⟨by decide, by decide, by decide⟩, _, _, rfl, rfl, .inl ⟨by omega, by omega⟩, hS 6 (by decide), fun q2 nq2 => ?_⟩
    have S7 := S6.same (same_new (o := .lst [.int 0, .int 1, .int 2, .int 10, .int (10 ^ 30), .int (d6 * 10 ^ 20)]) nq2)
    have eq7 : (upd H6 q2 (.lst [.int 0, .int 1, .int 2, .int 10, .int (10 ^ 30), .int (d6 * 10 ^ 20)])) q2 = some (.lst [.int 0, .int 1, .int 2, .int 10, .int (10 ^ 30), .int (d6 * 10 ^ 20)]) := upd_same
    have ep7 := same_new (o := .lst [.int 0, .int 1, .int 2, .int 10, .int (10 ^ 30), .int (d6 * 10 ^ 20)]) nq2 _ _ (g6.tup S5 ep5)
    have nqb2 := S6.ne nq2
    refine ⟨.ref b, rfl, b, r, 6, rfl, S7, by decide, by decide, fun d8 H8 a8 b8 g8 S8 => ?_⟩
    have ep8 := g8.tup S7 ep7
    have eq8 := g8.new S7 nqb2.1 nqb2.2 eq7
    obtain ⟨c, ec, c0, c1⟩ : ∃ c : Int, atI [V.int 0, .int 1, .int 2, .int 10, .int (10 ^ 30), .int (d6 * 10 ^ 20)] d8 = some (.int c) ∧ 0 ≤ c ∧ c ≤ 10 ^ 30 := by
      have : d8 = 0 ∨ d8 = 1 ∨ d8 = 2 ∨ d8 = 3 ∨ d8 = 4 ∨ d8 = 5 := by omega
      rcases this with rfl | rfl | rfl | rfl | rfl | rfl
      · exact ⟨0, atI_nat (j := 0) rfl, by decide, by decide⟩
      · exact ⟨1, atI_nat (j := 1) rfl, by decide, by decide⟩
      · exact ⟨2, atI_nat (j := 2) rfl, by decide, by decide⟩
      · exact ⟨10, atI_nat (j := 3) rfl, by decide, by decide⟩
      · exact ⟨10 ^ 30, atI_nat (j := 4) rfl, by decide, by decide⟩
      · exact ⟨d6 * 10 ^ 20, atI_nat (j := 5) rfl, by omega, by omega⟩
    refine ⟨q2, _, d8, .int c, rfl, rfl, SqL.of eq8, ec, ?_⟩
    clear ec eq8 eq7 nqb2 S7 ep7
    -- the coefficients
    refine ⟨.ref b, rfl, b, r, rfl, S8, fun ns1 t1 H9 l1 k1 g9 S9 e9 => ?_⟩
    refine ⟨.ref b, rfl, b, r, rfl, S9, fun ms0 t0 H10 l0 k0 g10 S10 e10 => ?_⟩
    have ep10 := g10.tup S9 (g9.tup S8 ep8)
    have e110 := g10.tup S9 e9
    obtain ⟨kn, rfl⟩ := Int.eq_ofNat_of_zero_le a2
    clear ep8 e9 S1 S2 S3 S4 S5 S6 S8 S9 g2 g3 g5 g6 g8 g9 g10 ep ep5
    dsimp only
    refine cut1 (fun σ' H' => ∃ (t2 : Addr) (ms : List Int), σ' = [some (.ref a), some (.ref b), some (.int (kn : Int)), some (.int ch), some v, some (.int c), some (.ref t1), some (.ref t2), none, none, none] ∧ ms.length ≤ 40 ∧ (∀ n ∈ ms, Co n) ∧ H' t1 = some (.tup (ns1.map V.int)) ∧ H' t2 = some (.tup (ms.map V.int)) ∧ H' p = some (.tup [.int 1])) ?_ (fun rest => ?_)
    · rintro σ' G0 ⟨t2, ms, rfl, l2, k2, f1, f2, fp⟩
      have co90 : ∀ {l : List Int}, (∀ n ∈ l, Co n) → ∀ n ∈ l, 0 ≤ n ∧ n.natAbs < 2 ^ 90 := fun h n m => ⟨(h n m).1, Nat.lt_of_lt_of_le (h n m).2 (Nat.pow_le_pow_right (by decide) (by decide))⟩
      have nfC : PySem.W.notFirst K C (.ref C) = true := by unfold PySem.W.notFirst; simp
      -- the two growths
      refine ⟨.ref t1, rfl, fun x1 d1 n1 nd1 nne1 => ⟨x1, d1, .ref t1, rfl, upd_same, .inl ⟨t1, ns1, rfl, same_made n1 nd1 nne1 _ _ f1, l1, co90 k1, fun G1 gr1 kp1 => ⟨rfl, ?_⟩⟩⟩⟩
      have s1 : L2.Same G0 G1 := fun a o e => kp1 a o (ne_of_none e n1) (same_made n1 nd1 nne1 _ _ e)
      clear kp1 nd1 nne1 n1
      refine ⟨.ref t2, rfl, fun x2 d2 n2 nd2 nne2 => ⟨x2, d2, .ref t2, rfl, upd_same, .inl ⟨t2, ms, rfl, same_made n2 nd2 nne2 _ _ (s1 _ _ f2), l2, co90 k2, fun G2 gr2 kp2 => ⟨rfl, ?_⟩⟩⟩⟩
      have s2 : L2.Same G1 G2 := fun a o e => kp2 a o (ne_of_none e n2) (same_made n2 nd2 nne2 _ _ e)
      clear kp2 nd2 nne2 n2
      have gr1 := gr1.same s2
      have f1 := s2 _ _ (s1 _ _ f1)
      have f2 := s2 _ _ (s1 _ _ f2)
      have fp := s2 _ _ (s1 _ _ fp)
      clear s1 s2
      -- are they the same
      refine ⟨.ref t1, rfl, t1, ns1, rfl, f1, by omega, fun c1_ G3 s3 e3 => ⟨.ref t2, rfl, t2, ms, rfl, s3 _ _ f2, by omega, fun c2_ G4 s4 e4 => ⟨tD (cut ns1), tD (cut ms), tD_dp (s4 _ _ e3), tD_dp e4, tD_sh _, tD_sh _, ?_⟩⟩⟩
      rw [tD_eqv]
      have s34 := s3.trans s4
      have gr1 := gr1.same s34
      have gr2 := gr2.same s34
      have f1 := s34 _ _ f1
      have f2 := s34 _ _ f2
      have fp := s34 _ _ fp
      clear e3 e4 s3 s4 s34
      obtain ⟨⟨dx1, u1, hx1, hu1⟩, _⟩ := id gr1
      obtain ⟨⟨dx2, u2, hx2, hu2⟩, _⟩ := id gr2
      refine ⟨.ref x1, rfl, .ref x2, rfl, x1, dx1, _, .ref C, rfl, hx1, isG gr2 L ci, nfC, x1, .ref x2, cut ns1, rfl, gr1, .inl ⟨x2, cut ms, rfl, gr2, _, rfl, _, _, rfl, true, by simp, iteF ?_⟩⟩
      refine ⟨.ref x2, rfl, .ref x1, rfl, x2, dx2, _, .ref C, rfl, hx2, isG gr1 L ci, nfC, x2, .ref x1, cut ms, rfl, gr2, .inl ⟨x1, cut ns1, rfl, gr1, _, rfl, _, _, rfl, true, by simp [eq_comm], iteF ?_⟩⟩
      refine ⟨.ref x1, rfl, .ref t1, rfl, t1, ns1, rfl, f1, by omega, fun pc G5 s5 e5 => ⟨x1, dx1, _, .type "tuple", rfl, s5 _ _ hx1, .base (.tup e5), nf_tup, x1, .ref pc, cut ns1, rfl, gr1.same s5, .inr ⟨.type "tuple", .base (.tup e5), kT, false, rfl, iteF ?_⟩⟩⟩
      -- the sum
      have hadd : ∀ z ∈ addL (cut ns1) (cut ms), z.natAbs < 2 ^ 90 := by
        intro z mz
        obtain ⟨k, _, rfl⟩ := List.mem_map.mp mz
        have h0 : ∀ l : List Int, (∀ n ∈ l, Co n) → ((cut l).getD k 0).natAbs < 2 ^ 82 := by
          intro l hl
          rw [cut_getD, List.getD_eq_getElem?_getD]
          cases e : l[k]? with
          | none => exact Nat.two_pow_pos _
          | some v => exact (hl v (List.mem_of_getElem? e)).2
        have a1 := h0 ns1 k1
        have a2 := h0 ms k2
        have a3 := Int.natAbs_add_le ((cut ns1).getD k 0) ((cut ms).getD k 0)
        have : (2 : Nat) ^ 82 + 2 ^ 82 ≤ 2 ^ 90 := by decide
        omega
      refine ⟨.ref x1, rfl, .ref x2, rfl, x1, x2, dx1, dx2, _, _, rfl, rfl, s5 _ _ hx1, s5 _ _ hx2, x1, x2, cut ns1, cut ms, rfl, gr1.same s5, gr2.same s5, hadd, fun m G6 s6 nm gm => ?_⟩
      rw [cut_addL] at gm
      have s56 := s5.trans s6
      refine ⟨.ref t1, rfl, .ref t2, rfl, t1, t2, ns1, ms, rfl, s56 _ _ f1, s56 _ _ f2, l1, l2, fun ps G7 s7 e7 => ?_⟩
      refine ⟨.int c, rfl, m, ps, addL ns1 ms, c, rfl, gm.same s7, e7, by rw [addL_len]; omega, c0, c1, fun G8 s8 => ⟨true, rfl, iteF ?_⟩⟩
      have s58 := s56.trans (s7.trans s8)
      have gr1 := gr1.same s58
      have gr2 := gr2.same s58
      have f1 := s58 _ _ f1
      have f2 := s58 _ _ f2
      have fp := s58 _ _ fp
      clear gm e7 s58 s56 s5 s6 s7 s8 e5 hx1 hx2 hu1 hu2 nm
      -- the products
      refine ⟨.ref x1, rfl, .ref t1, rfl, .int (kn : Int), rfl, .int c, rfl, x1, t1, ns1, kn, c, rfl, gr1, f1, l1, by omega, c0, c1, fun G9 s9 => ⟨true, rfl, iteF ?_⟩⟩
      refine ⟨.ref x2, rfl, .ref t2, rfl, .int c, rfl, x2, t2, ms, 20, c, rfl, gr2.same s9, s9 _ _ f2, l2, by decide, c0, c1, fun G10 s10 => ⟨true, rfl, iteF ?_⟩⟩
      have s910 := s9.trans s10
      have gr1 := gr1.same s910
      have gr2 := gr2.same s910
      have f1 := s910 _ _ f1
      have f2 := s910 _ _ f2
      have fp := s910 _ _ fp
      clear s910 s9 s10
      refine nextT ?_
      dsimp only
      refine cut1 (fun σ' H' => ∃ v', σ' = [some (.ref a), some (.ref b), some (.int (kn : Int)), some (.int ch), some v', some (.int c), some (.ref t1), some (.ref t2), some (.ref x1), some (.ref x2), some (.bl (decide (cut ns1 = cut ms)))] ∧ BadCase K C H' ch v' ∧ L2.Same G10 H') ?_ (fun rest => ?_)
      · rintro σ' G11 ⟨v', rfl, hb, s11⟩
        have gr1 := gr1.same s11
        have gr2 := gr2.same s11
        have f1 := s11 _ _ f1
        have f2 := s11 _ _ f2
        refine ⟨.ref x1, rfl, .int ch, rfl, v', rfl, x1, ch, v', cut ns1, rfl, gr1, hb, fun G12 s12 => ⟨true, rfl, iteF ?_⟩⟩
        refine ⟨.ref x1, rfl, _, _, rfl, rfl, ⟨by decide, by decide, by decide⟩, _, _, rfl, rfl, x1, 0, .int (10 ^ 30 + 1), cut ns1, rfl, gr1.same s12, .inl ⟨rfl, some _, .int _, fun i e => by cases e; decide⟩, fun G13 s13 => ⟨true, rfl, iteF ?_⟩⟩
        have s1213 := s12.trans s13
        refine ⟨.ref x1, rfl, x1, 1, .int 21, cut ns1, rfl, gr1.same s1213, .inr (.inl ⟨rfl, ⟨some _, .int _, fun i e => by cases e; decide⟩, "int", .base (.int _), shT_int⟩), fun G14 s14 => ⟨true, rfl, iteF ?_⟩⟩
        have s14 := s1213.trans s14
        refine ⟨.ref x1, rfl, .ref t1, rfl, .int c, rfl, x1, t1, ns1, c, rfl, gr1.same s14, s14 _ _ f1, by omega, c0, c1, fun G15 s15 => ⟨true, rfl, iteT ?_⟩⟩
        have s15 := s14.trans s15
        exact ⟨.ref x2, rfl, .ref t2, rfl, .int c, rfl, x2, t2, ms, c, rfl, gr2.same s15, s15 _ _ f2, by omega, c0, c1, fun G16 s16 => qq G16⟩
      · refine ⟨.int ch, rfl, rfl, _, rfl, ite2 (fun e => ?_) (fun e => ?_)⟩
        · have hch : ch = 3 := V.int.inj (of_decide_eq_true e)
          refine ⟨v, rfl, hS 1 (by decide), fun p9 np9 => ?_⟩
          have s11 := same_new (o := .tup [.int 1]) np9
          have e11 : (upd G10 p9 (.tup [.int 1])) p9 = some (.tup (([1] : List Int).map V.int)) := upd_same
          generalize upd G10 p9 (.tup [.int 1]) = G11 at s11 e11
          obtain ⟨o, ty, dd, hPl, hneg, hty, hsh, hdp, hsd, hor⟩ := hv.all (K := K) (C := C) (s11 _ _ fp)
          refine ⟨dd, tD [1], hdp, tD_dp e11, hsd, tD_sh _, _, rfl, ?_⟩
          rcases hor with ⟨hk, he⟩ | he
          · rw [he]
            exact iteF (rest _ _ ⟨v, rfl, .inr (.inr (.inr ⟨hch, .ty hty hk⟩)), s11⟩)
          · rw [he]
            refine iteT ⟨hS 1 (by decide), fun p10 np10 => ⟨p10, 41, .int 1, rfl, rfl, upd_same, by decide, fun p11 G12 s12 e12 => ?_⟩⟩
            exact rest _ _ ⟨.ref p11, rfl, .inr (.inr (.inr ⟨hch, .long e12 (by rw [List.length_replicate]; decide)⟩)), s11.trans ((same_new np10).trans s12)⟩
        · have hch : ¬ ch = 3 := fun z => e (decide_eq_true (congrArg V.int z))
          obtain ⟨o, ty, dd, hPl, hneg, hty, hsh, _⟩ := hv.all (K := K) (C := C) fp
          have hbad : ∀ g : Int, BadN K G10 g v := fun g => ⟨o, hPl, fun i ei h => by have := hneg i ei; omega⟩
          refine rest _ _ ⟨v, rfl, ?_, fun _ _ e => e⟩
          have : ch = 0 ∨ ch = 1 ∨ ch = 2 := by omega
          rcases this with h | h | h
          · exact .inl ⟨h, hbad _⟩
          · exact .inr (.inl ⟨h, hbad _, ty, hty, hsh⟩)
          · exact .inr (.inr (.inl ⟨h, o, hPl, hneg⟩))
    · refine ⟨.ref b, rfl, b, r, 3, rfl, S10, by decide, by decide, fun d11 H11 a11 b11 g11 S11 => ⟨rfl, _, rfl, ite2 (fun e => ?_) (fun e => ?_)⟩⟩
      · refine ⟨.ref t1, rfl, hS 1 (by decide), fun p3 np3 => ⟨.ref b, rfl, b, r, 9, rfl, S11.same (same_new np3), by decide, by decide, fun d12 H12 a12 b12 g12 S12 => ?_⟩⟩
        obtain ⟨m, rfl⟩ := Int.eq_ofNat_of_zero_le a12
        have ep3 := g12.tup (S11.same (same_new np3)) upd_same
        have et12 := g12.tup (S11.same (same_new np3)) (same_new (o := .tup [.int 0]) np3 _ _ (g11.tup S10 e110))
        have epp := g12.tup (S11.same (same_new np3)) (same_new (o := .tup [.int 0]) np3 _ _ (g11.tup S10 ep10))
        refine ⟨p3, m, .int 0, rfl, rfl, ep3, by omega, fun p4 H13 s13 e13 => ?_⟩
        refine ⟨t1, p4, _, _, rfl, rfl, s13 _ _ et12, e13, by rw [List.length_map, List.length_replicate]; omega, fun p5 H14 s14 e14 => ?_⟩
        have el : ns1.map V.int ++ List.replicate m (V.int 0) = (ns1 ++ List.replicate m 0).map V.int := by rw [List.map_append, List.map_replicate]
        rw [el] at e14
        refine ⟨40, rfl, p5, _, 40, rfl, e14, rfl, rfl, fun p6 H15 s15 e15 => rest _ _ ⟨p6, (ns1 ++ List.replicate m 0).take 40, rfl, by rw [List.length_take]; omega, fun n mn => ?_, s15 _ _ (s14 _ _ (s13 _ _ et12)), by rw [e15, List.map_take], s15 _ _ (s14 _ _ (s13 _ _ epp))⟩⟩
        rcases List.mem_append.mp (List.mem_of_mem_take mn) with mn | mn
        · exact k1 n mn
        · rw [List.eq_of_mem_replicate mn]
          exact ⟨Int.le_refl _, by decide⟩
      · exact rest _ _ ⟨t0, ms0, rfl, l0, k0, g11.tup S10 e110, g11.tup S10 e10, g11.tup S10 ep10⟩
end
end NW
namespace NW
open PySem PySem.Spec PyProof.Rows L2
structure ClsA (K : PySem.W.Frag) (mg : Str → Option Value) (C CB CW : Addr) : Prop where
  I : ∃ f fd, L2.Fun K "__init__" "Growth.__init__" s_Growth_init f fd ∧ L2.Binds K fd ["self", "coefficients"] [] ∧ L2.Mk K C f
  Ca : ∃ f fd, L2.Fun K "__call__" "Growth.__call__" s_Growth___call__ f fd ∧ L2.Binds K fd ["self", "items"] [] ∧ StX.CallO K C f
  Ad : ∃ f fd, L2.Fun K "__add__" "Growth.__add__" s_Growth___add__ f fd ∧ L2.Binds K fd ["self", "other"] [] ∧ OpM K C f "__add__"
  Sh : ∃ f fd, L2.Fun K "__lshift__" "Growth.__lshift__" s_Growth___lshift__ f fd ∧ L2.Binds K fd ["self", "power"] [] ∧ OpM K C f "__lshift__"
  Eq : ∃ f fd, L2.Fun K "__eq__" "Growth.__eq__" s_Growth___eq__ f fd ∧ L2.Binds K fd ["self", "other"] [] ∧ OpM K C f "__eq__"
  Dg : ∃ p f fd, L2.Fun K "degree" "Growth.degree" s_Growth_degree f fd ∧ L2.Binds K fd ["self"] [] ∧ L2.PropOf K C "degree" p f
  L : ClT K C
  ci : ClsI K C
  sf : PySem.W.selfFirst K C = true
  nr : PySem.W.findIn K (.ref C) "__rlshift__" = some none
  BB : ErrB K mg CB
  EC : L2.ExcC K CB
  kW : PySem.W.kitOne K (.ref CB) (.ref CW) = some true
  kV : PySem.W.kitOne K (.ref CB) (.type "ValueError") = some true
  eBB : PySem.W.exmOne K (.ref CB) (.ref CB) = some true
  kT : PySem.W.kitOne K (.type "tuple") (.ref C) = some false
theorem all_ok {P : Program} {w : World} {K : PySem.W.Frag} {mg : Str → Option Value} {base : Heap} {fl C CB CW : Addr} {fdl : FuncData} (D : Df K mg "law" s_law fl fdl ["_law_script"])
    (D_is_plain_int : ∃ f fd, Df K mg "is_plain_int" s_is_plain_int f fd ["number"])
    (D_check_number : ∃ f fd, Df K mg "check_number" s_check_number f fd ["number", "greatest"])
    (D_is_coefficients : ∃ f fd, Df K mg "is_coefficients" s_is_coefficients f fd ["coefficients"])
    (D_terms_of : ∃ f fd, Df K mg "terms_of" s_terms_of f fd ["coefficients"])
    (D_coefficient_at : ∃ f fd, Df K mg "coefficient_at" s_coefficient_at f fd ["growth", "power"])
    (D_check_items : ∃ f fd, Df K mg "check_items" s_check_items f fd ["items"])
    (D_Lsource : ∃ f fd, Df K mg "_law_source" s_Lsource f fd ["_law_script"])
    (D_Ldraw : ∃ f fd, Df K mg "_law_draw" s_Ldraw f fd ["_law_source_here", "_law_many"])
    (D_Lbool : ∃ f fd, Df K mg "_law_bool" s_Lbool f fd ["_law_said", "_law_due"])
    (D_Lcoefficients : ∃ f fd, Df K mg "_law_coefficients" s_Lcoefficients f fd ["_law_source_here"])
    (D_Lcut : ∃ f fd, Df K mg "_law_cut" s_Lcut f fd ["_law_numbers"])
    (D_Lvalue : ∃ f fd, Df K mg "_law_value" s_Lvalue f fd ["_law_numbers", "_law_count"])
    (D_Lis : ∃ f fd, Df K mg "_law_is" s_Lis f fd ["_law_growth", "_law_numbers", "_law_count"])
    (D_Lsum : ∃ f fd, Df K mg "_law_sum" s_Lsum f fd ["_law_one", "_law_other"])
    (D_Lbad : ∃ f fd, Df K mg "_law_bad" s_Lbad f fd ["_law_growth", "_law_choice", "_law_wrong"])
    (D_Lmoves : ∃ f fd, Df K mg "_law_moves" s_Lmoves f fd ["_law_growth", "_law_numbers", "_law_power", "_law_count"])
    (T : Nms mg) (Cs : Cst mg) (gG : mg "Growth" = some (.ref C)) (gW : mg "WishError" = some (.ref CW)) (A : ClsA K mg C CB CW) : FnOk P w K mg base CX0 7 fl fdl ["_law_script"] (spLaw K) := by
  obtain ⟨f_is_plain_int, fd_is_plain_int, D_is_plain_int⟩ := D_is_plain_int
  obtain ⟨f_check_number, fd_check_number, D_check_number⟩ := D_check_number
  obtain ⟨f_is_coefficients, fd_is_coefficients, D_is_coefficients⟩ := D_is_coefficients
  obtain ⟨f_terms_of, fd_terms_of, D_terms_of⟩ := D_terms_of
  obtain ⟨f_coefficient_at, fd_coefficient_at, D_coefficient_at⟩ := D_coefficient_at
  obtain ⟨f_check_items, fd_check_items, D_check_items⟩ := D_check_items
  obtain ⟨f_Lsource, fd_Lsource, D_Lsource⟩ := D_Lsource
  obtain ⟨f_Ldraw, fd_Ldraw, D_Ldraw⟩ := D_Ldraw
  obtain ⟨f_Lbool, fd_Lbool, D_Lbool⟩ := D_Lbool
  obtain ⟨f_Lcoefficients, fd_Lcoefficients, D_Lcoefficients⟩ := D_Lcoefficients
  obtain ⟨f_Lcut, fd_Lcut, D_Lcut⟩ := D_Lcut
  obtain ⟨f_Lvalue, fd_Lvalue, D_Lvalue⟩ := D_Lvalue
  obtain ⟨f_Lis, fd_Lis, D_Lis⟩ := D_Lis
  obtain ⟨f_Lsum, fd_Lsum, D_Lsum⟩ := D_Lsum
  obtain ⟨f_Lbad, fd_Lbad, D_Lbad⟩ := D_Lbad
  obtain ⟨f_Lmoves, fd_Lmoves, D_Lmoves⟩ := D_Lmoves
  obtain ⟨⟨fI, fdI, FI, bI, MS⟩, ⟨fC, fdC, FC, bC, CO⟩, ⟨fA, fdA, FA, bA, mA⟩, ⟨fS, fdS, FS, bS, mS⟩, ⟨fE, fdE, FE, bE, mE⟩, ⟨pD, fD, fdD, FD, bD, PD⟩, L, ci, sf, nr, BB, EC, kW, kV, eBB, kT⟩ := A
  have G_plain := ok_is_plain_int (P := P) (w := w) (base := base) D_is_plain_int T
  have G_cn := ok_check_number D_check_number D_is_plain_int G_plain BB T
  have G_ci := ok_check_items D_check_items D_check_number G_cn
  have G_ic := ok_is_coefficients D_is_coefficients D_is_plain_int G_plain T Cs
  have G_te := ok_terms_of (P := P) (w := w) (base := base) D_terms_of T
  have G_ca := ok_coefficient_at (P := P) (w := w) (base := base) D_coefficient_at T L
  have G_init := ok_init FI D_is_coefficients G_ic D_terms_of G_te BB T L
  have G_call := ok_call FC D_check_items G_ci L
  have G_deg := ok_degree (P := P) (w := w) (mg := mg) (base := base) FD T L
  have G_eq := ok_eq (P := P) (w := w) (base := base) FE T L gG ci MS.makes
  have G_add := ok_add FA D_coefficient_at G_ca MS gG bI G_init T L
  have G_shl := ok_shift FS D_check_number G_cn MS gG bI G_init Cs L
  have GR : Gro P w K mg base C CB := ⟨L, ci, gG, ⟨_, _, _, PD, G_deg, bD⟩, ⟨_, _, CO, G_call, bC⟩, ⟨_, _, MS, G_init, bI⟩, ⟨_, _, mA, G_add, bA⟩, ⟨_, _, mS, G_shl, bS⟩, ⟨_, _, mE, G_eq, bE⟩, sf, nr⟩
  have G_draw := ok_draw (P := P) (w := w) (base := base) D_Ldraw T
  have G_cut := ok_cut (P := P) (w := w) (base := base) D_Lcut T
  have G_is := ok_is D_Lis D_Lcut G_cut D_Lvalue (ok_value D_Lvalue) T GR
  exact ok_law D D_Lsource (ok_source D_Lsource T) D_Ldraw G_draw D_Lbool (ok_bool D_Lbool) D_Lcoefficients (ok_coefs D_Lcoefficients D_Ldraw G_draw T) D_Lcut G_cut D_Lis G_is D_Lsum (ok_sum D_Lsum T) D_Lbad (ok_bad D_Lbad T GR BB EC gW kW kV eBB) D_Lmoves (ok_moves D_Lmoves D_Lcut G_cut D_Lis G_is T GR BB eBB) T GR kT
section
variable {K : PySem.W.Frag} {h : Heap} {mg : Str → Option Value} {nm qn : Str} {d0 : Stmt} {fa C : Addr} {pars : List Str} {oc kV dc pm cd ct : Value} {od an : Option Addr} {sl : Array (Option Value)}
theorem df_mk (X : K.In h) (G : h.Ns mainGlobals mg) (a : PySem.W.nsIn K mainGlobals nm = some (some (.ref fa)))
    (l : K.lookup fa = some ⟨oc, od, .func (PySem.W.fnOf nm nm (defArgs d0) (defBody d0) (defScope d0) .none kV dc pm an cd ct), sl⟩) (c : PySem.W.codeIn K cd nm = true) (k : PySem.W.keepIn K (.ref fa) = true)
    (b : ∀ (kV doc pm : Value) (an : Option Addr) (cdv ct : Value) (us : List Value), us.length = pars.length → bindArgs (PySem.W.fnOf nm nm (defArgs d0) (defBody d0) (defScope d0) .none kV doc pm an cdv ct) ⟨us, []⟩ = pure (pars.zip us)) :
    ∃ f fd, Df K mg nm d0 f fd pars := ⟨fa, _, fun_mk l c k, (fun_mk l c k).binds b, PySem.W.mg_of X G a⟩
theorem law_mk (X : K.In h) (G : h.Ns mainGlobals mg) (a : PySem.W.nsIn K mainGlobals "law" = some (some (.ref fa)))
    (l : K.lookup fa = some ⟨oc, od, .func (PySem.W.fnOf "law" "law" (defArgs s_law) (defBody s_law) (defScope s_law) .none kV dc pm an cd ct), sl⟩) (c : PySem.W.codeIn K cd "law" = true) (k : PySem.W.keepIn K (.ref fa) = true) :
    ∃ fa fd, Df K mg "law" s_law fa fd ["_law_script"] ∧ ∀ (s : Shared) (v : Value), BindsTo s fd ⟨[v], []⟩ [("_law_script", v)] :=
  ⟨fa, _, ⟨fun_mk l c k, (fun_mk l c k).binds (fun _ _ _ _ _ _ us hl => match us, hl with | [_], _ => rfl), PySem.W.mg_of X G a⟩, fun s v => .of_eq rfl⟩
theorem init_mk (i2 : PySem.W.findIn K (.ref C) "__init__" = some (some (.ref fa)))
    (l : K.lookup fa = some ⟨oc, od, .func (PySem.W.fnOf "__init__" "Growth.__init__" (defArgs s_Growth_init) (defBody s_Growth_init) (defScope s_Growth_init) .none kV dc pm an cd ct), sl⟩) (c : PySem.W.codeIn K cd "Growth.__init__" = true) (k : PySem.W.keepIn K (.ref fa) = true)
    (i1 : PySem.W.makesIn K C = true) (i3 : PySem.W.isFn K (.ref fa) = true) (i4 : PySem.W.keepIn K (.ref C) = true) : ∃ f fd, L2.Fun K "__init__" "Growth.__init__" s_Growth_init f fd ∧ L2.Binds K fd ["self", "coefficients"] [] ∧ L2.Mk K C f :=
  ⟨fa, _, fun_mk l c k, (fun_mk l c k).binds (fun _ _ _ _ _ _ us hl => match us, hl with | [_, _], _ => rfl), ⟨i1, i2, i3, i4⟩⟩
theorem call_mk (i2 : PySem.W.findIn K (.ref C) "__call__" = some (some (.ref fa)))
    (l : K.lookup fa = some ⟨oc, od, .func (PySem.W.fnOf "__call__" "Growth.__call__" (defArgs s_Growth___call__) (defBody s_Growth___call__) (defScope s_Growth___call__) .none kV dc pm an cd ct), sl⟩) (c : PySem.W.codeIn K cd "Growth.__call__" = true) (k : PySem.W.keepIn K (.ref fa) = true)
    (i3 : PySem.W.isFn K (.ref fa) = true) (i4 : PySem.W.fnIn K fa = true) : ∃ f fd, L2.Fun K "__call__" "Growth.__call__" s_Growth___call__ f fd ∧ L2.Binds K fd ["self", "items"] [] ∧ StX.CallO K C f :=
  ⟨fa, _, fun_mk l c k, (fun_mk l c k).binds (fun _ _ _ _ _ _ us hl => match us, hl with | [_, _], _ => rfl), ⟨i2, i3, i4⟩⟩
theorem add_mk (i2 : PySem.W.findIn K (.ref C) "__add__" = some (some (.ref fa)))
    (l : K.lookup fa = some ⟨oc, od, .func (PySem.W.fnOf "__add__" "Growth.__add__" (defArgs s_Growth___add__) (defBody s_Growth___add__) (defScope s_Growth___add__) .none kV dc pm an cd ct), sl⟩) (c : PySem.W.codeIn K cd "Growth.__add__" = true) (k : PySem.W.keepIn K (.ref fa) = true)
    (i3 : PySem.W.isFn K (.ref fa) = true) : ∃ f fd, L2.Fun K "__add__" "Growth.__add__" s_Growth___add__ f fd ∧ L2.Binds K fd ["self", "other"] [] ∧ OpM K C f "__add__" :=
  ⟨fa, _, fun_mk l c k, (fun_mk l c k).binds (fun _ _ _ _ _ _ us hl => match us, hl with | [_, _], _ => rfl), ⟨i2, i3⟩⟩
theorem shl_mk (i2 : PySem.W.findIn K (.ref C) "__lshift__" = some (some (.ref fa)))
    (l : K.lookup fa = some ⟨oc, od, .func (PySem.W.fnOf "__lshift__" "Growth.__lshift__" (defArgs s_Growth___lshift__) (defBody s_Growth___lshift__) (defScope s_Growth___lshift__) .none kV dc pm an cd ct), sl⟩) (c : PySem.W.codeIn K cd "Growth.__lshift__" = true) (k : PySem.W.keepIn K (.ref fa) = true)
    (i3 : PySem.W.isFn K (.ref fa) = true) : ∃ f fd, L2.Fun K "__lshift__" "Growth.__lshift__" s_Growth___lshift__ f fd ∧ L2.Binds K fd ["self", "power"] [] ∧ OpM K C f "__lshift__" :=
  ⟨fa, _, fun_mk l c k, (fun_mk l c k).binds (fun _ _ _ _ _ _ us hl => match us, hl with | [_, _], _ => rfl), ⟨i2, i3⟩⟩
theorem eqm_mk (i2 : PySem.W.findIn K (.ref C) "__eq__" = some (some (.ref fa)))
    (l : K.lookup fa = some ⟨oc, od, .func (PySem.W.fnOf "__eq__" "Growth.__eq__" (defArgs s_Growth___eq__) (defBody s_Growth___eq__) (defScope s_Growth___eq__) .none kV dc pm an cd ct), sl⟩) (c : PySem.W.codeIn K cd "Growth.__eq__" = true) (k : PySem.W.keepIn K (.ref fa) = true)
    (i3 : PySem.W.isFn K (.ref fa) = true) : ∃ f fd, L2.Fun K "__eq__" "Growth.__eq__" s_Growth___eq__ f fd ∧ L2.Binds K fd ["self", "other"] [] ∧ OpM K C f "__eq__" :=
  ⟨fa, _, fun_mk l c k, (fun_mk l c k).binds (fun _ _ _ _ _ _ us hl => match us, hl with | [_, _], _ => rfl), ⟨i2, i3⟩⟩
theorem prop_mk {p : Addr} {rest : List Value} (i1 : PySem.W.findIn K (.ref C) "degree" = some (some (.ref p))) (i2 : PySem.W.specialIn K (.ref p) "__get__" = some (some (.builtin "property.__get__"))) (i3 : PySem.W.takesIn K (.ref p) = some true) (i4 : PySem.W.recIn K p "property" = some (.ref fa :: rest))
    (l : K.lookup fa = some ⟨oc, od, .func (PySem.W.fnOf "degree" "Growth.degree" (defArgs s_Growth_degree) (defBody s_Growth_degree) (defScope s_Growth_degree) .none kV dc pm an cd ct), sl⟩) (c : PySem.W.codeIn K cd "Growth.degree" = true) (k : PySem.W.keepIn K (.ref fa) = true) :
    ∃ p f fd, L2.Fun K "degree" "Growth.degree" s_Growth_degree f fd ∧ L2.Binds K fd ["self"] [] ∧ L2.PropOf K C "degree" p f :=
  ⟨p, fa, _, fun_mk l c k, (fun_mk l c k).binds (fun _ _ _ _ _ _ us hl => match us, hl with | [_], _ => rfl), ⟨i1, i2, i3, rest, i4⟩⟩
theorem cst_mk (X : K.In h) (G : h.Ns mainGlobals mg) {v0 v1 : Value} (c0 : PySem.W.nsIn K mainGlobals "MOST_COEFFICIENTS" = some (some v0)) (d0 : ∃ t, v0 = .int 40 t) (c1 : PySem.W.nsIn K mainGlobals "MOST_POWER" = some (some v1)) (d1 : ∃ t, v1 = .int 20 t) : Cst mg := by
  obtain ⟨_, rfl⟩ := d0
  obtain ⟨_, rfl⟩ := d1
  exact ⟨⟨_, PySem.W.mg_of X G c0⟩, ⟨_, PySem.W.mg_of X G c1⟩⟩
theorem cls_mk (X : K.In h) (G : h.Ns mainGlobals mg) {C CB CW : Addr} (s : PySem.W.nsIn K mainGlobals "Growth" = some (some (.ref C))) (sB : PySem.W.nsIn K mainGlobals "BadNumber" = some (some (.ref CB))) (sW : PySem.W.nsIn K mainGlobals "WishError" = some (some (.ref CW)))
    (m : mg "BadNumber" = some (.ref CB) → ClsA K mg C CB CW) : ∃ C CB CW, mg "Growth" = some (.ref C) ∧ mg "WishError" = some (.ref CW) ∧ ClsA K mg C CB CW := ⟨C, CB, CW, PySem.W.mg_of X G s, PySem.W.mg_of X G sW, m (PySem.W.mg_of X G sB)⟩
theorem clsA_mk {C CB CW : Addr} (I : ∃ f fd, L2.Fun K "__init__" "Growth.__init__" s_Growth_init f fd ∧ L2.Binds K fd ["self", "coefficients"] [] ∧ L2.Mk K C f)
    (Ca : ∃ f fd, L2.Fun K "__call__" "Growth.__call__" s_Growth___call__ f fd ∧ L2.Binds K fd ["self", "items"] [] ∧ StX.CallO K C f)
    (Ad : ∃ f fd, L2.Fun K "__add__" "Growth.__add__" s_Growth___add__ f fd ∧ L2.Binds K fd ["self", "other"] [] ∧ OpM K C f "__add__")
    (Sh : ∃ f fd, L2.Fun K "__lshift__" "Growth.__lshift__" s_Growth___lshift__ f fd ∧ L2.Binds K fd ["self", "power"] [] ∧ OpM K C f "__lshift__")
    (Eq : ∃ f fd, L2.Fun K "__eq__" "Growth.__eq__" s_Growth___eq__ f fd ∧ L2.Binds K fd ["self", "other"] [] ∧ OpM K C f "__eq__")
    (Dg : ∃ p f fd, L2.Fun K "degree" "Growth.degree" s_Growth_degree f fd ∧ L2.Binds K fd ["self"] [] ∧ L2.PropOf K C "degree" p f)
    (l1 : PySem.W.plainGet K C Str.empty = true)
    (l2 : PySem.W.hasDictIn K C = true)
    (l3 : PySem.W.plainOver K C = true)
    (l4 : PySem.W.findIn K (.ref C) "__setattr__" = some (some (.builtin "object.__setattr__")))
    (l5 : PySem.W.findIn K (.ref C) "coefficients" = some none)
    (q1 : PySem.W.findIn K (.ref C) "__class__" = some (some (.builtin "object.__class__")))
    (q2 : PySem.W.specialIn K (.builtin "object.__class__") "__get__" = some (some (.builtin "getset_descriptor.__get__")))
    (q3 : PySem.W.takesIn K (.builtin "object.__class__") = some true)
    (q4 : PySem.W.mroIn K C (.type "object") = some true)
    (q5 : PySem.W.kitOne K (.ref C) (.ref C) = some true)
    (q6 : PySem.W.selfFirst K C = true)
    (q7 : PySem.W.findIn K (.ref C) "__rlshift__" = some none)
    (b1 : PySem.W.excIn K CB [.type "ValueError", .type "Exception", .type "BaseException", .type "object"] "ValueError.__new__" = true)
    (b2 : PySem.W.keepIn K (.ref CB) = true)
    (b3 : PySem.W.subIn K (.ref CB) (.type "BaseException") = some true)
    (b4 : PySem.W.typeIn K (.ref CB) = some (.type "type"))
    (b5 : PySem.W.findIn K (.ref CB) "__getattribute__" = some (some (.builtin "BaseException.__getattribute__")))
    (b6 : PySem.W.findIn K (.ref CB) "__getattr__" = some none)
    (b7 : PySem.W.hasDictIn K CB = true)
    (b8 : PySem.W.findIn K (.ref CB) "__class__" = some (some (.builtin "object.__class__")))
    (b11 : PySem.W.mroIn K CB (.type "object") = some true)
    (b12 : PySem.W.kitOne K (.ref CB) (.ref CW) = some true)
    (b13 : PySem.W.kitOne K (.ref CB) (.type "ValueError") = some true)
    (b14 : PySem.W.exmOne K (.ref CB) (.ref CB) = some true)
    (b15 : PySem.W.kitOne K (.type "tuple") (.ref C) = some false) : mg "BadNumber" = some (.ref CB) → ClsA K mg C CB CW :=
  fun g => ⟨I, Ca, Ad, Sh, Eq, Dg, ⟨⟨l1, l2, l3, l4⟩, l5⟩, ⟨q1, q2, q3, q4, q5⟩, q6, q7, ⟨b1, g, b2, b3, b4⟩, ⟨b5, b6, b3, b7, b8, q2, q3, b11⟩, b12, b13, b14, b15⟩
end
theorem front {P : Program} {w : World} {K : PySem.W.Frag} {h : Heap} {mg : Str → Option Value} {fa : Addr} (X : K.In h) (G : h.Ns mainGlobals mg) (hmg : mg "law" = some (.ref fa))
    (D_is_plain_int : ∃ f fd, Df K mg "is_plain_int" s_is_plain_int f fd ["number"])
    (D_check_number : ∃ f fd, Df K mg "check_number" s_check_number f fd ["number", "greatest"])
    (D_is_coefficients : ∃ f fd, Df K mg "is_coefficients" s_is_coefficients f fd ["coefficients"])
    (D_terms_of : ∃ f fd, Df K mg "terms_of" s_terms_of f fd ["coefficients"])
    (D_coefficient_at : ∃ f fd, Df K mg "coefficient_at" s_coefficient_at f fd ["growth", "power"])
    (D_check_items : ∃ f fd, Df K mg "check_items" s_check_items f fd ["items"])
    (D_Lsource : ∃ f fd, Df K mg "_law_source" s_Lsource f fd ["_law_script"])
    (D_Ldraw : ∃ f fd, Df K mg "_law_draw" s_Ldraw f fd ["_law_source_here", "_law_many"])
    (D_Lbool : ∃ f fd, Df K mg "_law_bool" s_Lbool f fd ["_law_said", "_law_due"])
    (D_Lcoefficients : ∃ f fd, Df K mg "_law_coefficients" s_Lcoefficients f fd ["_law_source_here"])
    (D_Lcut : ∃ f fd, Df K mg "_law_cut" s_Lcut f fd ["_law_numbers"])
    (D_Lvalue : ∃ f fd, Df K mg "_law_value" s_Lvalue f fd ["_law_numbers", "_law_count"])
    (D_Lis : ∃ f fd, Df K mg "_law_is" s_Lis f fd ["_law_growth", "_law_numbers", "_law_count"])
    (D_Lsum : ∃ f fd, Df K mg "_law_sum" s_Lsum f fd ["_law_one", "_law_other"])
    (D_Lbad : ∃ f fd, Df K mg "_law_bad" s_Lbad f fd ["_law_growth", "_law_choice", "_law_wrong"])
    (D_Lmoves : ∃ f fd, Df K mg "_law_moves" s_Lmoves f fd ["_law_growth", "_law_numbers", "_law_power", "_law_count"])
    (T : Nms mg) (Cs : Cst mg)
    (aL : ∃ fa fd, Df K mg "law" s_law fa fd ["_law_script"] ∧ ∀ (s : Shared) (v : Value), BindsTo s fd ⟨[v], []⟩ [("_law_script", v)])
    (cls : ∃ C CB CW, mg "Growth" = some (.ref C) ∧ mg "WishError" = some (.ref CW) ∧ ClsA K mg C CB CW) :
    ∃ fd : FuncData, (∀ (s : Shared) (v : Value), BindsTo s fd ⟨[v], []⟩ [("_law_script", v)]) ∧ ∀ base : Heap, K.In base → base.Ns mainGlobals mg → L2.FnOk P w K mg base L2.CX0 40 fa fd ["_law_script"] (spLaw K) := by
  obtain ⟨fl, fdl, DL, bl⟩ := aL
  have e := hmg.symm.trans DL.g
  cases e
  obtain ⟨C, CB, CW, gG, gW, A⟩ := cls
  refine ⟨fdl, bl, fun base _ _ => ?_⟩
  exact (all_ok DL D_is_plain_int D_check_number D_is_coefficients D_terms_of D_coefficient_at D_check_items D_Lsource D_Ldraw D_Lbool D_Lcoefficients D_Lcut D_Lvalue D_Lis D_Lsum D_Lbad D_Lmoves T Cs gG gW A).mono (by decide)
end NW
open PySem PySem.W PyProof.Rows
set_option maxRecDepth 100000 in
set_option maxHeartbeats 0 in
theorem PySem.Challenge.cw_nestedwishes_k81_growths_holds : PySem.Challenge.rw_nestedwishes_k81_growths.Holds := by
  w_on; o_law; k_head; (case hw => w_witness2)
  k_fill
  refine L2.walk_of (l := PySem.Challenge.rw_nestedwishes_k81_growths) (n := 63) (k := 40) (x := "_law_script") (CX := fun _ => L2.CX0) (sp := fun w => NW.spLaw _) rfl (by decide) rfl ⟨rfl, by decide, by decide⟩ (fun w h Y => PySem.W.kIn_of Y) ?F (fun _ _ a ns hl _ hS => ⟨a, ns, rfl, hS, hl, fun _ => rfl⟩) (fun _ _ _ _ _ h => h)
  case F =>
    intro w mg fa h KX G hmg
    refine' NW.front KX G hmg ?D_is_plain_int ?D_check_number ?D_is_coefficients ?D_terms_of ?D_coefficient_at ?D_check_items ?D_Lsource ?D_Ldraw ?D_Lbool ?D_Lcoefficients ?D_Lcut ?D_Lvalue ?D_Lis ?D_Lsum ?D_Lbad ?D_Lmoves ?T ?Cs ?aL ?cls
    (case D_is_plain_int =>
      refine' NW.df_mk KX G ?a ?l ?c ?k (fun _ _ _ _ _ _ us hl => match us, hl with | [_], _ => rfl)
      (case a => k_is); (case l => k_is); (case c => k_is); (case k => k_is))
    (case D_check_number =>
      refine' NW.df_mk KX G ?a ?l ?c ?k (fun _ _ _ _ _ _ us hl => match us, hl with | [_, _], _ => rfl)
      (case a => k_is); (case l => k_is); (case c => k_is); (case k => k_is))
    (case D_is_coefficients =>
      refine' NW.df_mk KX G ?a ?l ?c ?k (fun _ _ _ _ _ _ us hl => match us, hl with | [_], _ => rfl)
      (case a => k_is); (case l => k_is); (case c => k_is); (case k => k_is))
    (case D_terms_of =>
      refine' NW.df_mk KX G ?a ?l ?c ?k (fun _ _ _ _ _ _ us hl => match us, hl with | [_], _ => rfl)
      (case a => k_is); (case l => k_is); (case c => k_is); (case k => k_is))
    (case D_coefficient_at =>
      refine' NW.df_mk KX G ?a ?l ?c ?k (fun _ _ _ _ _ _ us hl => match us, hl with | [_, _], _ => rfl)
      (case a => k_is); (case l => k_is); (case c => k_is); (case k => k_is))
    (case D_check_items =>
      refine' NW.df_mk KX G ?a ?l ?c ?k (fun _ _ _ _ _ _ us hl => match us, hl with | [_], _ => rfl)
      (case a => k_is); (case l => k_is); (case c => k_is); (case k => k_is))
    (case D_Lsource =>
      refine' NW.df_mk KX G ?a ?l ?c ?k (fun _ _ _ _ _ _ us hl => match us, hl with | [_], _ => rfl)
      (case a => k_is); (case l => k_is); (case c => k_is); (case k => k_is))
    (case D_Ldraw =>
      refine' NW.df_mk KX G ?a ?l ?c ?k (fun _ _ _ _ _ _ us hl => match us, hl with | [_, _], _ => rfl)
      (case a => k_is); (case l => k_is); (case c => k_is); (case k => k_is))
    (case D_Lbool =>
      refine' NW.df_mk KX G ?a ?l ?c ?k (fun _ _ _ _ _ _ us hl => match us, hl with | [_, _], _ => rfl)
      (case a => k_is); (case l => k_is); (case c => k_is); (case k => k_is))
    (case D_Lcoefficients =>
      refine' NW.df_mk KX G ?a ?l ?c ?k (fun _ _ _ _ _ _ us hl => match us, hl with | [_], _ => rfl)
      (case a => k_is); (case l => k_is); (case c => k_is); (case k => k_is))
    (case D_Lcut =>
      refine' NW.df_mk KX G ?a ?l ?c ?k (fun _ _ _ _ _ _ us hl => match us, hl with | [_], _ => rfl)
      (case a => k_is); (case l => k_is); (case c => k_is); (case k => k_is))
    (case D_Lvalue =>
      refine' NW.df_mk KX G ?a ?l ?c ?k (fun _ _ _ _ _ _ us hl => match us, hl with | [_, _], _ => rfl)
      (case a => k_is); (case l => k_is); (case c => k_is); (case k => k_is))
    (case D_Lis =>
      refine' NW.df_mk KX G ?a ?l ?c ?k (fun _ _ _ _ _ _ us hl => match us, hl with | [_, _, _], _ => rfl)
      (case a => k_is); (case l => k_is); (case c => k_is); (case k => k_is))
    (case D_Lsum =>
      refine' NW.df_mk KX G ?a ?l ?c ?k (fun _ _ _ _ _ _ us hl => match us, hl with | [_, _], _ => rfl)
      (case a => k_is); (case l => k_is); (case c => k_is); (case k => k_is))
    (case D_Lbad =>
      refine' NW.df_mk KX G ?a ?l ?c ?k (fun _ _ _ _ _ _ us hl => match us, hl with | [_, _, _], _ => rfl)
      (case a => k_is); (case l => k_is); (case c => k_is); (case k => k_is))
    (case D_Lmoves =>
      refine' NW.df_mk KX G ?a ?l ?c ?k (fun _ _ _ _ _ _ us hl => match us, hl with | [_, _, _, _], _ => rfl)
      (case a => k_is); (case l => k_is); (case c => k_is); (case k => k_is))
    (case T =>
      refine' ⟨PySem.W.mg_none_of KX G ?a0, PySem.W.mg_none_of KX G ?a1, PySem.W.mg_none_of KX G ?a2, PySem.W.mg_none_of KX G ?a3, PySem.W.mg_none_of KX G ?a4, PySem.W.mg_none_of KX G ?a5, PySem.W.mg_none_of KX G ?a6, PySem.W.mg_none_of KX G ?a7, PySem.W.mg_none_of KX G ?a8, PySem.W.mg_none_of KX G ?a9, PySem.W.mg_none_of KX G ?a10⟩
      (case a0 => k_is); (case a1 => k_is); (case a2 => k_is); (case a3 => k_is); (case a4 => k_is); (case a5 => k_is); (case a6 => k_is); (case a7 => k_is); (case a8 => k_is); (case a9 => k_is); (case a10 => k_is))
    (case Cs =>
      refine' NW.cst_mk KX G ?a0 ?b0 ?a1 ?b1
      (case a0 => k_is); (case a1 => k_is); (case b0 => exact ⟨_, by first | rfl | decide +kernel⟩); (case b1 => exact ⟨_, by first | rfl | decide +kernel⟩))
    (case aL =>
      refine' NW.law_mk KX G ?a ?l ?c ?k
      (case a => k_is); (case l => k_is); (case c => k_is); (case k => k_is))
    (case cls =>
      refine' NW.cls_mk KX G ?sG ?sB ?sW ?mAll
      (case sG => k_is); (case sB => k_is); (case sW => k_is)
      refine' NW.clsA_mk ?I ?Ca ?Ad ?Sh ?Eq ?Dg ?l1 ?l2 ?l3 ?l4 ?l5 ?q1 ?q2 ?q3 ?q4 ?q5 ?q6 ?q7 ?b1 ?b2 ?b3 ?b4 ?b5 ?b6 ?b7 ?b8 ?b11 ?b12 ?b13 ?b14 ?b15
      (case I =>
        refine' NW.init_mk ?i2 ?l ?c ?k ?i1 ?i3 ?i4
        (case i2 => k_is); (case l => k_is); (case c => k_is); (case k => k_is); (case i1 => k_is); (case i3 => k_is); (case i4 => k_is))
      (case Ca =>
        refine' NW.call_mk ?i2 ?l ?c ?k ?i3 ?i4
        (case i2 => k_is); (case l => k_is); (case c => k_is); (case k => k_is); (case i3 => k_is); (case i4 => k_is))
      (case Ad =>
        refine' NW.add_mk ?i2 ?l ?c ?k ?i3
        (case i2 => k_is); (case l => k_is); (case c => k_is); (case k => k_is); (case i3 => k_is))
      (case Sh =>
        refine' NW.shl_mk ?i2 ?l ?c ?k ?i3
        (case i2 => k_is); (case l => k_is); (case c => k_is); (case k => k_is); (case i3 => k_is))
      (case Eq =>
        refine' NW.eqm_mk ?i2 ?l ?c ?k ?i3
        (case i2 => k_is); (case l => k_is); (case c => k_is); (case k => k_is); (case i3 => k_is))
      (case Dg =>
        refine' NW.prop_mk ?i1 ?i2 ?i3 ?i4 ?l ?c ?k
        (case i1 => k_is); (case i2 => k_is); (case i3 => k_is); (case i4 => k_is); (case l => k_is); (case c => k_is); (case k => k_is))
      (case b1 => k_exc); (case l1 => first | k_is | rfl | decide +kernel); (case l2 => first | k_is | rfl | decide +kernel); (case l3 => first | k_is | rfl | decide +kernel); (case l4 => first | k_is | rfl | decide +kernel); (case l5 => first | k_is | rfl | decide +kernel); (case q1 => first | k_is | rfl | decide +kernel); (case q2 => first | k_is | rfl | decide +kernel); (case q3 => first | k_is | rfl | decide +kernel); (case q4 => first | k_is | rfl | decide +kernel); (case q5 => first | k_is | rfl | decide +kernel); (case q6 => first | k_is | rfl | decide +kernel); (case q7 => first | k_is | rfl | decide +kernel); (case b2 => first | k_is | rfl | decide +kernel); (case b3 => first | k_is | rfl | decide +kernel); (case b4 => first | k_is | rfl | decide +kernel); (case b5 => first | k_is | rfl | decide +kernel); (case b6 => first | k_is | rfl | decide +kernel); (case b7 => first | k_is | rfl | decide +kernel); (case b8 => first | k_is | rfl | decide +kernel); (case b11 => first | k_is | rfl | decide +kernel); (case b12 => first | k_is | rfl | decide +kernel); (case b13 => first | k_is | rfl | decide +kernel); (case b14 => first | k_is | rfl | decide +kernel); (case b15 => first | k_is | rfl | decide +kernel))
